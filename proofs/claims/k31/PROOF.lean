import PyProof.Rows.All
import Wide.All
import OpenK.AllK
import Wide.FinOn
import Lean
import PyProof.EqAt
import PyProof.EqKinds
import PyProof.TupleCall
import PyProof.NeKinds
import PyProof.ListMulRoad
import PyProof.MaxThree
import PyProof.Rows.StrJoinMade
import PyProof.ListStr
import PyProof.Rows.MinMaxN
import PyProof.Rows.Range3
import PyProof.ListRange
import PyProof.Rows.SetFrom
import PyProof.Rows.StrCase
import PyProof.SumAny
import PyProof.AutoIntG2
import PyProof.AutoListH
import PyProof.EnumStmt
import PyProof.EnumFor
import PyProof.EnumMake
import PyProof.Rows.EnumRows
import PyProof.ConsumeS
import PyProof.Rows.SortWalk
import KE.KDictSum
import PyProof.ZipIter
import KE.KEqDict
import PyProof.ExcClass2
import PyProof.RaisesMany
import PyProof.ExcBaseAll.ValueError
import PyProof.RulesDel
import PyProof.RulesAs
import PyProof.ExcArgs
import KE.KDictOf
import PyProof.AttrMissHeap
import KE.KMinKey
import PyProof.Rows.CallKwBuiltin
import PySem.Challenge.RW_wireparley_k31_fed_by_pieces
noncomputable section
abbrev ua0:=@List.findIdx?_eq_some_iff_getElem
abbrev ua1:=@Array.getElem?_setIfInBounds_ne
abbrev ua2:=@List.eraseIdx_eq_take_drop_succ
abbrev ua3:=@List.eq_nil_of_length_eq_zero
abbrev ua4:=@PyProof.Rows.callWith_type1
abbrev ua5:=@PySem.F.slot_int_bit_length
abbrev ua6:=@Int.fdiv_eq_ediv_of_nonneg
abbrev ua7:=@List.getElem?_append_right
abbrev ua8:=@Array.getElem?_eq_some_iff
abbrev ua9:=@PySem.F.excBase_ValueError
abbrev ub0:=@List.getD_eq_getElem?_getD
abbrev ub1:=@List.getElem?_eq_some_iff
abbrev ub2:=@List.getElem?_append_left
abbrev ub3:=@List.drop_eq_getElem_cons
abbrev ub4:=@List.getElem?_eq_none_iff
abbrev ub5:=@List.getElem?_eq_getElem
abbrev ub6:=@Array.size_setIfInBounds
abbrev ub7:=@List.getElem?_replicate
abbrev ub8:=@PySem.F.plainAttrs_list
abbrev ub9:=@Int.eq_ofNat_of_zero_le
abbrev uc0:=@List.getElem?_set_self
abbrev uc1:=@PySem.Heap.get?_push_of_some
abbrev uc2:=@PySem.W.cellsFrom_some
abbrev uc3:=@PySem.Heap.get?_update_other
abbrev uc4:=@Option.map_eq_some_iff
abbrev uc5:=@List.take_of_length_le
abbrev uc6:=@Nat.div_div_eq_div_mul
abbrev uc7:=@Nat.le_of_succ_le_succ
abbrev uc8:=@List.mem_append_right
abbrev uc9:=@PySem.W.methodCall_KW
abbrev ud0:=@List.length_replicate
abbrev ud1:=@List.length_singleton
abbrev ud2:=@Nat.le_of_ble_eq_true
abbrev ud3:=@PySem.Heap.get?_update_self
abbrev ud4:=@List.take_append_drop
abbrev ud5:=@List.mem_cons_of_mem
abbrev ud6:=@List.mem_append_left
abbrev ud7:=@List.getElem?_set_ne
abbrev ud8:=@List.mem_of_getElem?
abbrev ud9:=@List.forall_mem_cons
abbrev ue0:=@List.filterMap_cons
abbrev ue1:=@PySem.Heap.get?_push_size
abbrev ue2:=@PySem.W.plainGet_of
abbrev ue3:=@List.replicate_succ
abbrev ue4:=@List.map_congr_left
abbrev ue5:=@List.take_succ_cons
abbrev ue6:=@Nat.add_le_add_left
abbrev ue7:=@Int.toNat_of_nonneg
abbrev ue8:=@Nat.lt_of_lt_of_le
abbrev ue9:=@List.mem_cons_self
abbrev uf0:=@Bool.false_ne_true
abbrev uf1:=@Array.find?_toList
abbrev uf2:=@PySem.W.callWith_K
abbrev uf3:=@List.length_append
abbrev uf4:=@Bool.false_eq_true
abbrev uf5:=@List.mem_singleton
abbrev uf6:=@Int.emod_lt_of_pos
abbrev uf7:=@List.getElem?_take
abbrev uf8:=@PySem.W.mg_none_of
abbrev uf9:=@List.size_toArray
abbrev ug0:=@PySem.W.kitx_list
abbrev ug1:=@PySem.W.kitx_dict
abbrev ug2:=@List.getElem?_map
abbrev ug3:=@List.flatten_cons
abbrev ug4:=@List.append_assoc
abbrev ug5:=@Bool.eq_false_iff
abbrev ug6:=@List.getElem?_set
abbrev ug7:=@Option.some.injEq
abbrev ug8:=@Int.toNat_natCast
abbrev ug9:=@decide_eq_true_eq
abbrev uh0:=@of_decide_eq_true
abbrev uh1:=@List.getElem_inj
abbrev uh2:=@List.length_cons
abbrev uh3:=@Nat.lt_succ_self
abbrev uh4:=@List.length_take
abbrev uh5:=@List.length_drop
abbrev uh6:=@Bool.and_eq_true
abbrev uh7:=@List.lookup_cons
abbrev uh8:=@List.drop_length
abbrev uh9:=@Nat.le_add_right
abbrev ui0:=@List.all_eq_true
abbrev ui1:=@List.not_mem_nil
abbrev ui2:=@List.getElem_mem
abbrev ui3:=@List.cons_append
abbrev ui4:=@Nat.succ_le_succ
abbrev ui5:=@List.take_length
abbrev ui6:=@beq_self_eq_true
abbrev ui7:=@List.mem_filter
abbrev ui8:=@List.mem_append
abbrev ui9:=@Option.some.inj
abbrev uj0:=@List.length_map
abbrev uj1:=@PySem.W.kia_one
abbrev uj2:=@List.append_nil
abbrev uj3:=@List.nodup_cons
abbrev uj4:=@List.of_mem_zip
abbrev uj5:=@List.foldl_cons
abbrev uj6:=@List.find?_cons
abbrev uj7:=@List.length_nil
abbrev uj8:=@Option.map_some
abbrev uj9:=@Bool.or_eq_true
abbrev uk0:=@PySem.W.kia_tup
abbrev uk1:=@Nat.not_lt_zero
abbrev uk2:=@List.map_append
abbrev uk3:=@List.nil_append
abbrev uk4:=@Int.emod_nonneg
abbrev uk5:=@List.length_set
abbrev uk6:=@decide_eq_false
abbrev uk7:=@List.mem_range
abbrev uk8:=@Bool.false_and
abbrev uk9:=@Bool.and_false
abbrev ul0:=@List.drop_zero
abbrev ul1:=@decide_eq_true
abbrev ul2:=@Nat.lt_irrefl
abbrev ul3:=@List.mem_cons
abbrev ul4:=@List.map_cons
abbrev ul5:=@Bool.or_false
abbrev ul6:=@List.all_cons
abbrev ul7:=@List.any_cons
abbrev ul8:=@Bool.true_and
abbrev ul9:=@Nat.add_assoc
abbrev um0:=@PySem.W.mg_of
abbrev um1:=@PySem.wpAny_holding
abbrev um2:=@PySem.Heap.lt_size
abbrev um3:=@Nat.ne_of_lt
abbrev um4:=@Nat.le_trans
abbrev um5:=@Nat.le_of_lt
abbrev um6:=@Nat.ne_of_gt
abbrev um7:=@Nat.le_of_eq
abbrev um8:=@List.map_nil
abbrev um9:=@Nat.add_zero
abbrev un0:=@Nat.pow_succ
abbrev un1:=@List.mem_map
abbrev un2:=@List.map_map
abbrev un3:=@Nat.sub_self
abbrev un4:=@Int.zero_add
abbrev un5:=@Nat.le_refl
abbrev un6:=@Nat.zero_le
abbrev un7:=@Nat.le_succ
abbrev un8:=@PySem.wpAny_field
abbrev un9:=@PySem.wpAny_bind
abbrev uo0:=@PySem.wpAny_pure
abbrev uo1:=@PySem.wpAny_mono
set_option Elab.async false
set_option linter.all false
set_option maxRecDepth 100000
local macro_rules | `(tactic| walk_at "h") => `(tactic| first | exact Or.inl rfl | exact Or.inr rfl | exact Or.inr (Or.inl rfl) | exact Or.inr (Or.inr rfl) | assumption)
namespace L2
open PySem PySem.Spec PyProof.Rows
abbrev Key:=Sum Int Str
noncomputable def HI:Key->Value->Bool
 | .inl k,v=>Value.isInt k v
 | .inr x,v=>Value.isStrOf x v
noncomputable def bu (w:World):Key->Int
 | .inl k=>hashInt k
 | .inr x=>hashStr w x
theorem BU:∀{k:Key} {v:Value},HI k v=true->(∃i t,k=Sum.inl i/\v=Value.int i t)\/(∃x t,k=Sum.inr x/\v=Value.str x t)
 | .inl i,v,h=>by
   obtain ⟨t,e⟩:=Value.isInt_shape (k:=i) (v:=v) h;exact .inl ⟨i,t,rfl,e⟩
 | .inr x,v,h=>by
   obtain ⟨t,e⟩:=Value.isStrOf_shape (x:=x) (v:=v) h;exact .inr ⟨x,t,rfl,e⟩
theorem QP (i:Int)(t:Tok):HI (.inl i) (.int i t)=true:=by simp [HI,Value.isInt]
theorem QQ (x:Str)(t:Tok):HI (.inr x) (.str x t)=true:=by simp [HI,Value.isStrOf]
theorem X6 (a b:Int):decide ((Sum.inl a:Key)=Sum.inl b)=(a == b):=by
 by_cases e:a=b
 ·subst e;simp
 ·have h:¬(Sum.inl a:Key)=Sum.inl b:=λq=>e (Sum.inl.inj q);rw [uk6 h];exact (beq_eq_false_iff_ne.mpr e).symm
theorem X9 (a b:Str):decide ((Sum.inr a:Key)=Sum.inr b)=decide (a=b):=by
 by_cases e:a=b
 ·subst e;simp
 ·have h:¬(Sum.inr a:Key)=Sum.inr b:=λq=>e (Sum.inr.inj q);rw [uk6 h,uk6 e]
theorem X7 (a:Int)(b:Str):decide ((Sum.inl a:Key)=Sum.inr b)=false:=uk6 (λq=>nomatch q)
theorem X8 (a:Str)(b:Int):decide ((Sum.inr a:Key)=Sum.inl b)=false:=uk6 (λq=>nomatch q)
def BQ (prog:Program)(w:World):PySem.KeyKind prog w Key where
 is:=HI
 hash:=bu w
 inj:=λv a b ha hb=>by
  rcases BU ha with ⟨i,t,rfl,rfl⟩ | ⟨x,t,rfl,rfl⟩
  ·rcases BU hb with ⟨j,u,rfl,e⟩ | ⟨y,u,rfl,e⟩
   ·injection e with e1 _;rw [e1]
   ·exact nomatch e
  ·rcases BU hb with ⟨j,u,rfl,e⟩ | ⟨y,u,rfl,e⟩
   ·exact nomatch e
   ·injection e with e1 _;rw [e1]
 byValue:=λk v h=>by
  rcases BU h with ⟨i,t,rfl,rfl⟩ | ⟨x,t,rfl,rfl⟩ <;> rfl
 pyHash:=λhv h=>by
  rcases BU hv with ⟨i,t,rfl,rfl⟩ | ⟨x,t,rfl,rfl⟩
  ·exact wpAny_pyHash_int h
  ·exact wpAny_pyHash_str h
 eqBool:=λhu hv h=>by
  rcases BU hu with ⟨i,t,rfl,rfl⟩ | ⟨x,t,rfl,rfl⟩
  ·rcases BU hv with ⟨j,u,rfl,rfl⟩ | ⟨y,u,rfl,rfl⟩
   ·rw [X6] at h;exact wpAny_eqBool_int h
   ·rw [X7] at h;exact SeqAt.EqAt.int_str i t y u _ _ _ _ h
  ·rcases BU hv with ⟨j,u,rfl,rfl⟩ | ⟨y,u,rfl,rfl⟩
   ·rw [X8] at h;exact SeqAt.EqAt.str_int x t j u _ _ _ _ h
   ·rw [X9] at h;exact wpAny_eqBool_str h
 «strs»:=λk x t v h=>by
  rcases BU h with ⟨i,u,rfl,e⟩ | ⟨y,u,rfl,e⟩
  ·exact nomatch e
  ·injection e with e1 _
   subst e1
   cases v <;> rfl
theorem NI (prog:Program)(w:World)(i:Int)(t:Tok):(BQ prog w).is (.inl i) (.int i t)=true:=QP i t
theorem NJ (prog:Program)(w:World)(x:Str)(t:Tok):(BQ prog w).is (.inr x) (.str x t)=true:=QQ x t
inductive V where
 | non | bl (b:Bool) | int (i:Int) | str (x:Str) | byt (b:Array UInt8) | flt (b:UInt64) | ref (a:Addr) | ty (n:String)
 deriving DecidableEq
noncomputable def RelV:V->Value->Prop
 | .non,u=>u=Value.none
 | .bl b,u=>u=Value.bool b
 | .int i,u=>∃t,u=Value.int i t
 | .str x,u=>∃t,u=Value.str x t
 | .byt b,u=>∃t,u=Value.bytes b t
 | .flt b,u=>∃t,u=Value.float b t
 | .ref a,u=>u=Value.ref a
 | .ty n,u=>u=Value.type n
abbrev Vals:List V->List Value->Prop:=Paired RelV
theorem Vals.length {xs:List V}{us:List Value}(r:Vals xs us):xs.length=us.length:=Paired.length r
theorem Vals.get:∀{xs:List V} {us:List Value} {i:Nat} {x:V},Vals xs us->xs[i]?=some x->∃u,us[i]?=some u/\RelV x u
 | _,_,_,_,.nil,e=>by simp at e
 | _,_,0,_,.cons r _,e=>by simp at e;subst e;exact ⟨_,rfl,r⟩
 | _,_,i + 1,x,.cons _ t,e=>by
   obtain ⟨u,h1,h2⟩:=Vals.get (i:=i) (x:=x) t (by simpa using e);exact ⟨u,by simpa using h1,h2⟩
theorem Vals.append {xs ys:List V}{us ws:List Value}(r:Vals xs us)(s:Vals ys ws):Vals (xs++ys) (us++ws):=by
 cases r with
 | nil=>exact s
 | cons r t=>exact .cons r (Vals.append t s)
theorem Vals.take:∀{xs:List V} {us:List Value} (n:Nat),Vals xs us->Vals (xs.take n) (us.take n)
 | _,_,0,_=>.nil
 | _,_,_ + 1,.nil=>.nil
 | _,_,n + 1,.cons r t=>.cons r (Vals.take n t)
theorem Vals.drop:∀{xs:List V} {us:List Value} (n:Nat),Vals xs us->Vals (xs.drop n) (us.drop n)
 | _,_,0,r=>r
 | _,_,_ + 1,.nil=>.nil
 | _,_,n + 1,.cons _ t=>Vals.drop n t
def RelO:Option V->Option Value->Prop
 | some v,some u=>RelV v u
 | none,none=>True
 | _,_=>False
def KV {κ:Type}:List (κ×V)->List (κ×Value)->Prop:=Paired λ(p:κ×V) (q:κ×Value)=>p.1=q.1/\RelV p.2 q.2
noncomputable def kV:Key->V
 | .inl i=>.int i
 | .inr x=>.str x
inductive HO where
 /-- a list -/
 | lst (xs:List V)
 /-- a tuple (never changes) -/
 | tup (xs:List V)
 /-- a dict whose keys are ints and texts;one whose keys are tuples of ints and texts (the empty one is both) -/
 | dK (kvs:List (Key×V)) | dT (kvs:List (List Key×V))
 /-- a set of ints: its members,its size -/
 | set (S:Int->Bool) (n:Nat)
 /-- an instance of the class at C,its dict at dx,its attributes -/
 | ins (C dx:Addr) (fs:List (Str×V))
 /-- the dict of the instance at x -/
 | own (x:Addr)
 /-- the dict of an exception -/
 | xd (fs:List (Str×V))
 /-- a bound method,f of x -/
 | met (f x:Addr)
 /-- a range object lo,lo + 1,.. below hi -/
 | rng (lo hi:Int)
 /-- a thing that is known to the object (the script;a dict while a loop walks it): read,never written while it is so -/
 | frz (o:Obj) (u:HO)
 /-- a code object's table -/
 | tbl (ps:Array Value)
 /-- any other thing,by what is true of its one object (a def of one's own: SetO a S n:=HO.ext λh=>..) -/
 | ext (φ:Heap->Prop)
abbrev Hp:=Addr->Option HO
noncomputable def upd (H:Hp)(a:Addr)(o:HO):Hp:=λb=>if b=a then some o else H b
variable {H:Hp}{a:Addr}{o:HO}
theorem Ar:upd H a o a=some o:=by unfold upd;rw [if_pos rfl]
variable {b:Addr}
theorem Ai (h:b≠a):upd H a o b=H b:=by unfold upd;rw [if_neg h]
theorem OB {u:HO}:upd (upd H a o) a u=upd H a u:=by
 funext b;unfold upd;split <;> rfl
theorem AO (h:H a=some o)(h':H b=none):a≠b:=by
 intro e;subst e;rw [h] at h';cases h'
section
variable (P:Program)(w:World)
def ObjOk (H:Hp)(h:Heap)(a:Addr):HO->Prop
 | .lst xs=>xs.length<=sizeLine/\∃(its:List Value) (n:Nat),Vals xs its/\h.get? a=some { cls:=.type "list",data:=.seq its.toArray n }
 | .tup xs=>xs.length<=sizeLine/\∃its:List Value,Vals xs its/\IsTup h a its.toArray
 | .dK kvs=>kvs.length<=sizeLine/\(a == sysModules)=false/\∃vs,KV kvs vs/\h.DictOf (BQ P w) a vs
 | .dT kvs=>kvs.length<=sizeLine/\(a == sysModules)=false/\∃xs:List (List Key×Addr×Value),
    Paired (λ(p:List Key×V) (q:List Key×Addr×Value)=>p.1=q.1/\H q.2.1=some (.tup (p.1.map kV))/\RelV p.2 q.2.2) kvs xs/\
    ∃o es ep,h.get? a=some o/\o.ExactDict/\o.data = .dict es ep/\es.toList=xs.map (entryOfKey (tupleKind (BQ P w)))/\(xs.map (·.1)).Nodup
 | .set S n=>h.SetOf (intKind P w) a S n
 | .ins C dx fs=>H dx=some (.own a)/\fs.length<=1000/\dx≠a/\h.get? a=some (PySem.W.instObj C dx)/\
    ∃mA,h.Ns1 dx mA/\(∀f,RelO (fs.lookup f) (mA f))/\PySem.Within mA (fs.map (·.1))
 | .own _=>∃o,h.get? a=some o
 | .xd fs=>∃mA,h.Ns1 a mA/\∀f,RelO (fs.lookup f) (mA f)
 | .rng lo hi=>∃t u v,h.get? a=some { cls:=.type "range",data:=.fields #[.int lo t,.int hi u,.int 1 v] }
 | .frz o u=>h.get? a=some o/\ObjOk H h a u
 | .tbl ps=>h.get? a=some { cls:=.none,data:=.fields ps }
 | .met f x=>h.get? a=some (PySem.W.methodObj (.ref f) (.ref x))
 | .ext φ=>φ h/\(∃o,h.get? a=some o)/\∀h1 h2:Heap,φ h1->(∀o,h1.get? a=some o->h2.get? a=some o)->φ h2
def HOk (H:Hp)(h:Heap):Prop:=∀a o,H a=some o->ObjOk P w H h a o
end
section
variable {P:Program}{w:World}{H H':Hp}{h h':Heap}{a:Addr}{o:HO}
theorem ObjOk.lt (x:ObjOk P w H h a o):a < h.objs.size:=by
 cases o with
 | lst xs=>obtain ⟨_,_,_,_,e⟩:=x;exact um2 e
 | tup xs=>obtain ⟨_,_,_,p⟩:=x;exact p.lt
 | dK kvs=>obtain ⟨_,_,_,_,o,_,_,e,_⟩:=x;exact um2 e
 | dT kvs=>obtain ⟨_,_,_,_,o,_,_,e,_⟩:=x;exact um2 e
 | set S n=>obtain ⟨o,_,_,_,e,_⟩:=x;exact um2 e
 | ins C dx fs=>obtain ⟨_,_,_,e,_⟩:=x;exact um2 e
 | own y=>obtain ⟨_,e⟩:=x;exact um2 e
 | xd fs=>obtain ⟨_,⟨_,_,_,e,_⟩,_⟩:=x;exact um2 e
 | rng lo hi=>obtain ⟨_,_,_,e⟩:=x;exact um2 e
 | frz ob u=>obtain ⟨e,_⟩:=x;exact um2 e
 | tbl ps=>exact um2 (show h.get? a=some _ from x)
 | met f y=>exact um2 (show h.get? a=some _ from x)
 | ext φ=>obtain ⟨_,⟨_,e⟩,_⟩:=x;exact um2 e
theorem Paired.mapP {α β:Type}{F G:α->β->Prop}:∀{l₁:List α} {l₂:List β},Paired F l₁ l₂->(∀a b,F a b->G a b)->Paired G l₁ l₂
 | _,_,.nil,_=>.nil
 | _,_,.cons r t,f=>.cons (f _ _ r) (Paired.mapP t f)
theorem ObjOk.stay (x:ObjOk P w H h a o)(k:∀b u,(b=a\/H b=some (.own a))->h.get? b=some u->h'.get? b=some u)
 (ho:∀b,H b=some (.own a)->H' b=some (.own a)) (ht:∀b xs,H b=some (.tup xs)->H' b=some (.tup xs)):ObjOk P w H' h' a o:=by
 induction o with
 | lst xs=>obtain ⟨z,its,n,r,e⟩:=x;exact ⟨z,its,n,r,k _ _ (.inl rfl) e⟩
 | tup xs=>obtain ⟨z,its,r,ob,e,c⟩:=x;exact ⟨z,its,r,ob,k _ _ (.inl rfl) e,c⟩
 | dK kvs=>obtain ⟨z,y,vs,r,ob,es,ep,e,c⟩:=x;exact ⟨z,y,vs,r,ob,es,ep,k _ _ (.inl rfl) e,c⟩
 | dT kvs=>
   obtain ⟨z,y,xs,r,ob,es,ep,e,c⟩:=x;exact ⟨z,y,xs,Paired.mapP r λp q z=>⟨z.1,ht _ _ z.2.1,z.2.2⟩,ob,es,ep,k _ _ (.inl rfl) e,c⟩
 | set S n=>obtain ⟨ob,es,ep,t,e,c⟩:=x;exact ⟨ob,es,ep,t,k _ _ (.inl rfl) e,c⟩
 | ins C dx fs=>
   obtain ⟨d,z,ne,e,mA,⟨od,es,ep,e2,c⟩,r⟩:=x;exact ⟨ho _ d,z,ne,k _ _ (.inl rfl) e,mA,⟨od,es,ep,k _ _ (.inr d) e2,c⟩,r⟩
 | own y=>obtain ⟨ob,e⟩:=x;exact ⟨ob,k _ _ (.inl rfl) e⟩
 | xd fs=>obtain ⟨mA,⟨od,es,ep,e,c⟩,r⟩:=x;exact ⟨mA,⟨od,es,ep,k _ _ (.inl rfl) e,c⟩,r⟩
 | rng lo hi=>obtain ⟨t,u,v,e⟩:=x;exact ⟨t,u,v,k _ _ (.inl rfl) e⟩
 | frz ob u ih=>obtain ⟨e,q⟩:=x;exact ⟨k _ _ (.inl rfl) e,ih q⟩
 | tbl ps=>
   have e:h.get? a=some { cls:=.none,data:=.fields ps }:=x;show h'.get? a=some { cls:=.none,data:=.fields ps };exact k a _ (.inl rfl) e
 | met f y=>
   have e:h.get? a=some (PySem.W.methodObj (.ref f) (.ref y)):=x;show h'.get? a=some (PySem.W.methodObj (.ref f) (.ref y));exact k a _ (.inl rfl) e
 | ext φ=>obtain ⟨p,⟨o,e⟩,st⟩:=x;exact ⟨st _ _ p λo q=>k _ _ (.inl rfl) q,⟨o,k _ _ (.inl rfl) e⟩,st⟩
theorem HOk.lt (x:HOk P w H h)(e:H a=some o):a < h.objs.size:=(x a o e).lt
theorem HOk.fresh (x:HOk P w H h)(e:h.objs.size<=a):H a=none:=by
 cases q:H a with
 | none=>rfl
 | some u=>exact absurd (ue8 (x.lt q) e) (ul2 _)
theorem HOk.kept (x:HOk P w H h)(k:∀b u,h.get? b=some u->h'.get? b=some u):HOk P w H h':=λa o e=>
 (x a o e).stay (λb u _ q=>k b u q) (λ_ q=>q) λ_ _ q=>q
theorem HOk.laid (x:HOk P w H h)(k:∀b u,h.get? b=some u->h'.get? b=some u)(hp:h.objs.size<=a)(new:ObjOk P w (upd H a o) h' a o):HOk P w (upd H a o) h':=λb u e=>by
 have hn:=x.fresh hp
 by_cases hb:b=a
 ·subst hb;rw [Ar] at e;cases e;exact new
 ·rw [Ai hb] at e;exact (x b u e).stay (λc v _ q=>k c v q) (λc q=>by rw [Ai (AO q hn)];exact q) λc xs q=>by rw [Ai (AO q hn)];exact q
end
noncomputable def Rd (H:Hp)(a:Addr)(u:HO):Prop:=H a=some u\/∃o,H a=some (.frz o u)
variable {P:Program}{w:World}{h:Heap}
theorem Rd.ok {u:HO}(r:Rd H a u)(x:HOk P w H h):ObjOk P w H h a u:=by
 rcases r with r | ⟨o,r⟩
 ·exact x a u r
 ·obtain ⟨_,q⟩:=x a _ r;exact q
def Mut:Option HO->Prop
 | some (.lst _)=>True
 | some (.dK _)=>True
 | some (.dT _)=>True
 | some (.set _ _)=>True
 | some (.ins _ _ _)=>True
 | some (.ext _)=>True
 | _=>False
section
variable {P:Program}{w:World}{H:Hp}{h h':Heap}{x e:Addr}{o':HO}
theorem HOk.write (ok:HOk P w H h)(mu:Mut (H x))(he:e=x\/H e=some (.own x))(k:∀b u,b≠e->h.get? b=some u->h'.get? b=some u)(heo:∃u,h'.get? e=some u)
 (new:ObjOk P w (upd H x o') h' x o'):HOk P w (upd H x o') h':=λb u q=>by
 have nown:∀c y,H c=some (.own y)->c≠x:=λc y r z=>by subst z;rw [r] at mu;exact mu
 have ntup:∀c xs,H c=some (.tup xs)->c≠x:=λc xs r z=>by subst z;rw [r] at mu;exact mu
 by_cases hb:b=x
 ·subst hb;rw [Ar] at q;cases q;exact new
 ·rw [Ai hb] at q
  by_cases hbe:b=e
  ·have q':H b=some (.own x):=by
    rcases he with z | z
    ·exact absurd (hbe.trans z) hb
    ·rw [hbe];exact z
   rw [q] at q';cases q'
   obtain ⟨v,hv⟩:=heo;exact ⟨v,by rw [hbe];exact hv⟩
  ·refine (ok b u q).stay (λc v hc r=>k c v ?_ r) (λc r=>by rw [Ai (nown c b r)];exact r) λc xs r=>by rw [Ai (ntup c xs r)];exact r
   rcases hc with rfl | hc
   ·exact hbe
   ·rintro rfl;rcases he with z | z
    ·exact nown c b hc z
    ·rw [hc] at z;cases z;exact hb rfl
end
structure Un (fs ex:List Addr)(H H':Hp)(h h':Heap):Prop where
 keep:∀b o,h.get? b=some o->H b=none->b∉fs->b∉ex->h'.get? b=some o
 slot:∀b o,h.get? b=some o->H b=none->b∈fs->b∉ex->∃sl,h'.get? b=some { o with slots:=sl }
 free:∀b o,h.get? b=some o->H b=none->b∉ex->H' b=none
 there:∀b o,h.get? b=some o->b∉ex->∃o',h'.get? b=some o'
 tups:∀b xs,H b=some (.tup xs)->H' b=some (.tup xs)
 frzs:∀b o u,H b=some (.frz o u)->H' b=some (.frz o u)
 tbls:∀b ps,H b=some (.tbl ps)->∃more,H' b=some (.tbl (ps++more))
section
variable {fs fs' ex ex':List Addr}{H H1 H2:Hp}{h h1 h2 h':Heap}{a x e:Addr}{o:HO}
theorem Un.any (u:Un fs ex H H1 h h1){b:Addr}{ob:Obj}(q:h.get? b=some ob)(n:H b=none)(hx:b∉ex):∃sl,h1.get? b=some { ob with slots:=sl }:=by
 by_cases hb:b∈fs
 ·exact u.slot b ob q n hb hx
 ·exact ⟨ob.slots,u.keep b ob q n hb hx⟩
theorem Un.kept (k:∀b u,h.get? b=some u->h'.get? b=some u):Un fs ex H H h h':=
 ⟨λb ob q _ _ _=>k b ob q,λb ob q _ _ _=>⟨ob.slots,k b ob q⟩,λ_ _ _ n _=>n,λb ob q _=>⟨ob,k b ob q⟩,λ_ _ q=>q,λ_ _ _ q=>q,λ_ ps q=>⟨#[],by rw [q];simp⟩⟩
theorem Un.refl:Un fs ex H H h h:=Un.kept λ_ _ q=>q
theorem Un.laid (k:∀b u,h.get? b=some u->h'.get? b=some u)(hp:h.objs.size<=a)(hn:H a=none):Un fs ex H (upd H a o) h h' where
 keep:=λb u q _ _ _=>k b u q
 slot:=λb u q _ _ _=>⟨u.slots,k b u q⟩
 free:=λb u q n _=>by rw [Ai (um3 (ue8 (um2 q) hp))];exact n
 there:=λb u q _=>⟨u,k b u q⟩
 tups:=λb xs q=>by rw [Ai (AO q hn)];exact q
 frzs:=λb u xs q=>by rw [Ai (AO q hn)];exact q
 tbls:=λb ps q=>⟨#[],by rw [Ai (AO q hn),q];simp⟩
theorem Un.write (mu:Mut (H x))(he:e=x\/H e=some (.own x))(k:∀b u,b≠e->h.get? b=some u->h'.get? b=some u)(heo:∃u,h'.get? e=some u):Un fs ex H (upd H x o) h h':=by
 have hx:∀b,H b=none->b≠x:=λb n z=>by subst z;rw [n] at mu;exact mu
 have hb:∀b,H b=none->b≠e:=λb n z=>by
  subst z;rcases he with r | r
  ·exact hx b n r
  ·rw [n] at r;cases r
 have hm:∀b u,H b=some u->¬Mut (some u)->b≠x:=λb u q nm z=>by subst z;rw [q] at mu;exact nm mu
 refine ⟨λb u q n _ _=>k b u (hb b n) q,λb u q n _ _=>⟨u.slots,k b u (hb b n) q⟩,λb u q n _=>by rw [Ai (hx b n)];exact n,λb u q _=>?_,
  λb xs q=>by rw [Ai (hm b _ q λz=>z)];exact q,λb u xs q=>by rw [Ai (hm b _ q λz=>z)];exact q,λb ps q=>⟨#[],by rw [Ai (hm b _ q λz=>z),q];simp⟩⟩
 by_cases hbe:b=e
 ·subst hbe;exact heo
 ·exact ⟨u,k b u hbe q⟩
end
noncomputable def trk (h:Heap)(H:Hp):List Addr:=(List.range h.objs.size).filter λa=>(H a).isSome
def Gp (h:Heap)(H:Hp):Heap:=PySem.W.hideAll h (trk h H)
theorem QE (h:Heap)(H:Hp):(Gp h H).objs.size=h.objs.size:=PySem.W.hideAll_size _ _
theorem SX {o:Obj}(e:h.get? b=some o)(n:H b=none):(Gp h H).get? b=some o:=
 PySem.W.hideAll_get _ e λhm=>by
  have q:(H b).isSome=true:=(ui7.mp hm).2;rw [n] at q;simp at q
theorem VN {o:Obj}(e:(Gp h H).get? b=some o):h.get? b=some o/\H b=none:=by
 have e':h.get? b=some o:=PySem.W.of_hideAll (trk h H) e;refine ⟨e',?_⟩
 cases q:H b with
 | none=>rfl
 | some x=>
   have hm:b∈trk h H:=ui7.mpr ⟨uk7.mpr (um2 e'),by simp [q]⟩;have z:(Gp h H).get? b=none:=PySem.W.hideAll_none (trk h H) hm;rw [z] at e;cases e
noncomputable def UV (g h:Heap)(L:Addr):List (Addr×Obj):=(List.range h.objs.size).filterMap λa=>if a=L\/(g.get? a).isSome=true then none else (h.get? a).map λo=>(a,o)
def rest (g h:Heap)(L d:Addr):List (Addr×Obj):=(UV g h L).filter λp=>decide (p.1≠d)
structure Mod (K:PySem.W.Frag)(mg:Str->Option Value)(base:Heap):Prop where
 kin:K.In base
 glob:base.Ns mainGlobals mg
 blt:∃mb,base.Ns builtinsNs mb/\∀x:Str,x≠"__name__"->mb x=bootBuiltins x
 nolimit:base.NoLimit
structure Cx where
 prog:Program
 w:World
 K:PySem.W.Frag
 mg:Str->Option Value
 base:Heap
 A:Around
 N:List Str
 s₀:Shared
 H₀:Hp
 env:Env
 outer:List Env
 stack:List Env
 ex:List Addr
 fn:Str->Bool
 calm:Bool
 pn:List (Addr×Obj)
 xe:Value->Shared->Prop
noncomputable def frs (l:List Env):List Addr:=l.filterMap (·.frame)
abbrev Cx.fs (X:Cx):List Addr:=frs X.outer
def Vis (sc:Scope)(x:Str):Prop:=sc.names.lookup x=some .local\/sc.names.lookup x=some .cell\/sc.names.lookup x=some .free
def Loc (sc:Scope)(x:Str):Prop:=sc.names.lookup x=some .local\/sc.names.lookup x=some .cell
def aT (env:Env)(h:Heap)(m:Str->Option Value)(x:Str)(u:Value):Prop:=
 (env.kindOf x=some .local/\m x=some u)\/((env.kindOf x=some .cell\/env.kindOf x=some .free)/\∃c,env.cells.lookup x=some c/\h.IsCell c (some u))
structure Cx.Ok (X:Cx):Prop where
 mod:Mod X.K X.mg X.base
 kind:X.env.scope.kind = .function
 glob:X.env.globals=mainGlobals
 blt:X.env.builtins=builtinsNs
 above:X.s₀.heap.objs.size<=X.env.locals
 inj:∀x y c,X.env.cells.lookup x=some c->X.env.cells.lookup y=some c->x=y
 has:∀x,(X.env.kindOf x=some .cell\/X.env.kindOf x=some .free)->∃c,X.env.cells.lookup x=some c
 cab:∀x c,X.fn x=true->X.env.cells.lookup x=some c->X.s₀.heap.objs.size<=c
 hd:X.calm=true->X.A.handled=none
 frames:X.A.frames=some X.stack
 stk:X.stack=X.outer\/(X.stack=X.env :: X.outer/\X.env.frame=some X.env.locals)
 exf:∀b∈X.ex,b≠X.env.locals/\∀x c,X.env.cells.lookup x=some c->c≠b
 bs:∀b o,X.base.get? b=some o->X.s₀.heap.get? b=some o/\X.H₀ b=none
 bsz:X.base.objs.size<=X.s₀.heap.objs.size
 noex:∀b o,X.base.get? b=some o->b∉X.ex
 exfs:∀b∈X.ex,b∉X.fs
 funs:X.s₀.heap.FunFrames X.base X.outer
 frf:∀b∈X.fs,X.H₀ b=none
structure Inv (X:Cx)(pins:List (Addr×Obj))(σ:List (Option V))(H:Hp)(s:Shared):Prop where
 ok:X.Ok
 os:s.os=X.s₀.os
 bare:AllBare s.gens
 base:Un X.fs X.ex X.H₀ H X.s₀.heap s.heap
 loc:∃m,s.heap.Ns X.env.locals m/\∀(i:Nat) (x:Str) (v:V),X.N[i]?=some x->σ[i]?=some (some v)->Vis X.env.scope x->∃u,RelV v u/\aT X.env s.heap m x u
 cell:∀x c,X.env.cells.lookup x=some c->∃v,s.heap.IsCell c v
 free:H X.env.locals=none
 freeC:∀x c,X.env.cells.lookup x=some c->H c=none
 pin:∀p∈X.pn++pins,s.heap.get? p.1=some p.2/\H p.1=none/\p.1≠X.env.locals/\p.1∉X.fs/\∀v,p.2.data≠.cell v
 hok:HOk X.prog X.w H s.heap
 len:σ.length=X.N.length
variable {t' i:Nat}{ch:List Addr}{E:Value->Shared->Prop}{x:Str}{v:V}{u:Value}{Q:Unit->Shared->Prop}
section
variable {X:Cx}{pins:List (Addr×Obj)}{σ:List (Option V)}{H H':Hp}{s:Shared}{h':Heap}
theorem Cx.Ok.nofr (ok:X.Ok){b:Addr}{o:Obj}(e:X.base.get? b=some o):b∉X.fs:=λhb=>by
 have:=(ok.funs.mem hb).1;rw [e] at this;cases this
theorem Inv.bs (I:Inv X pins σ H s):∀b o,X.base.get? b=some o->s.heap.get? b=some o/\H b=none:=λb o e=>
 ⟨I.base.keep b o (I.ok.bs b o e).1 (I.ok.bs b o e).2 (I.ok.nofr e) (I.ok.noex b o e),I.base.free b o (I.ok.bs b o e).1 (I.ok.bs b o e).2 (I.ok.noex b o e)⟩
theorem Inv.bk (I:Inv X pins σ H s):∀b o,X.base.get? b=some o->s.heap.get? b=some o:=λb o e=>(I.bs b o e).1
theorem Inv.mod (I:Inv X pins σ H s):Mod X.K X.mg X.base:=I.ok.mod
theorem Inv.kIn (I:Inv X pins σ H s):X.K.In s.heap:=I.ok.mod.kin.keeps I.bk
theorem Inv.lt (I:Inv X pins σ H s):X.env.locals < s.heap.objs.size:=let ⟨_,hn,_⟩:=I.loc;hn.lt
theorem Inv.sz (I:Inv X pins σ H s):X.s₀.heap.objs.size<=s.heap.objs.size:=um4 I.ok.above (um5 I.lt)
theorem Inv.nofs (I:Inv X pins σ H s){a:Addr}(h:s.heap.objs.size<=a):a∉X.fs:=λhb=>by
 obtain ⟨_,o,ho,_⟩:=I.ok.funs.mem hb;exact absurd (ue8 (um2 ho) (um4 I.sz h)) (ul2 _)
theorem Inv.cne (I:Inv X pins σ H s):∀x c,X.env.cells.lookup x=some c->c≠X.env.locals:=λx c e z=>by
 obtain ⟨v,o,ho,hd⟩:=I.cell x c e;obtain ⟨m,⟨o',es,ep,ho',hd',_⟩,_⟩:=I.loc;rw [z,ho'] at ho;cases ho;rw [hd'] at hd;cases hd
theorem Inv.funs (I:Inv X pins σ H s):s.heap.FunFrames X.base X.outer:=by
 have all:∀(l:List Env),(∀b∈frs l,b∈X.fs)->X.s₀.heap.FunFrames X.base l->s.heap.FunFrames X.base l:=by
  intro l
  induction l with
  | nil=>intro _ _;trivial
  | cons env r ih=>
    intro hs hl;obtain ⟨hk,⟨L,o,hf,hn,ho,hd⟩,hr⟩:=hl;have hL:L∈X.fs:=hs L (by unfold frs;rw [ue0,hf];exact ue9);obtain ⟨sl,e⟩:=I.base.slot L o ho (I.ok.frf L hL) hL λz=>I.ok.exfs L z hL;exact ⟨hk,⟨L,_,hf,hn,e,hd⟩,ih (λb hb=>hs b (by unfold frs;rw [ue0,hf];exact ud5 _ hb)) hr⟩
 exact all X.outer (λ_ hb=>hb) I.ok.funs
theorem Inv.stack (I:Inv X pins σ H s):s.heap.FunFrames X.base X.stack:=by
 rcases I.ok.stk with e | ⟨e,hf⟩
 ·rw [e];exact I.funs
 ·rw [e];obtain ⟨m,hn,_⟩:=I.loc;refine .cons (by rw [I.ok.kind];decide) hf hn ?_ I.funs;exact Heap.get?_none_of_le (um4 I.ok.bsz I.ok.above)
theorem Inv.stkSub (I:Inv X pins σ H s):∀b∈frs X.stack,b∈X.env.locals :: X.fs:=λb hb=>by
 rcases I.ok.stk with e | ⟨e,hf⟩
 ·rw [e] at hb;exact ud5 _ hb
 ·rw [e] at hb;unfold frs at hb;rw [ue0,hf] at hb;exact hb
theorem Inv.stkFree (I:Inv X pins σ H s):∀b∈frs X.stack,H b=none:=λb hb=>by
 rcases ul3.mp (I.stkSub b hb) with e | hb
 ·rw [e];exact I.free
 ·obtain ⟨_,o,ho,_⟩:=I.ok.funs.mem hb;exact I.base.free b o ho (I.ok.frf b hb) λz=>I.ok.exfs b z hb
theorem Inv.step {g':Array GenState}{d':Drawn}(I:Inv X pins σ H s)
 (hch:∀b∈ch,(b∈X.ex\/X.s₀.heap.objs.size<=b)/\b≠X.env.locals/\(∀x c,X.env.cells.lookup x=some c->c≠b)/\∀p∈X.pn++pins,p.1≠b)
 (keep:∀b o,b≠X.env.locals->b∉X.fs->b∉ch->s.heap.get? b=some o->H b=none->h'.get? b=some o)
 (slot:∀b o,b≠X.env.locals->b∈X.fs->b∉ch->s.heap.get? b=some o->H b=none->∃sl,h'.get? b=some { o with slots:=sl }) (free:∀b o,b∉ch->s.heap.get? b=some o->H b=none->H' b=none)
 (there:∀b o,b∉ch->s.heap.get? b=some o->∃o',h'.get? b=some o')
 (tups:∀b xs,H b=some (.tup xs)->H' b=some (.tup xs)) (frzs:∀b o u,H b=some (.frz o u)->H' b=some (.frz o u)) (tbls:∀b ps,H b=some (.tbl ps)->∃more,H' b=some (.tbl (ps++more)))
 (ns:∀m,s.heap.Ns X.env.locals m->h'.Ns X.env.locals m) (hok:HOk X.prog X.w H' h') (hg:AllBare g') :
 Inv X pins σ H' { s with heap:=h',gens:=g',drawn:=d',toks:=t' }:=by
 have neL:∀b o,X.s₀.heap.get? b=some o->b≠X.env.locals:=λb o e=>um3 (ue8 (um2 e) I.ok.above);have neC:∀b o,X.s₀.heap.get? b=some o->b∉X.ex->b∉ch:=λb o e hx hb=>by
  rcases (hch b hb).1 with z | z
  ·exact hx z
  ·exact absurd (ue8 (um2 e) z) (ul2 _)
 have cellK:∀x c,X.env.cells.lookup x=some c->∀v,s.heap.IsCell c v->h'.IsCell c v:=λx c e v z9=>by
  obtain ⟨o,ho,hd⟩:=z9;have nch:c∉ch:=λz=>(hch c z).2.2.1 x c e rfl
  by_cases hc:c∈X.fs
  ·obtain ⟨sl,q⟩:=slot c o (I.cne x c e) hc nch ho (I.freeC x c e);exact ⟨_,q,hd⟩
  ·exact ⟨o,keep c o (I.cne x c e) hc nch ho (I.freeC x c e),hd⟩
 refine ⟨I.ok,I.os,hg,⟨λb o e n hb hx=>?_,λb o e n hb hx=>?_,λb o e n hx=>?_,λb o e hx=>?_,λb xs e=>tups b xs (I.base.tups b xs e),λb o xs e=>frzs b o xs (I.base.frzs b o xs e),λb ps e=>?_⟩,?_,λx c e=>?_,?_,λx c e=>?_,λp hp=>?_,hok,I.len⟩
 ·exact keep b o (neL b o e) hb (neC b o e hx) (I.base.keep b o e n hb hx) (I.base.free b o e n hx)
 ·obtain ⟨sl,e1⟩:=I.base.slot b o e n hb hx;obtain ⟨sl',e2⟩:=slot b _ (neL b o e) hb (neC b o e hx) e1 (I.base.free b o e n hx);exact ⟨sl',e2⟩
 ·obtain ⟨o',e1⟩:=I.base.there b o e hx;exact free b o' (neC b o e hx) e1 (I.base.free b o e n hx)
 ·obtain ⟨o',e1⟩:=I.base.there b o e hx;exact there b o' (neC b o e hx) e1
 ·obtain ⟨m1,e1⟩:=I.base.tbls b ps e;obtain ⟨m2,e2⟩:=tbls b _ e1;exact ⟨m1++m2,by rw [e2,Array.append_assoc]⟩
 ·obtain ⟨m,hn,hl⟩:=I.loc;refine ⟨m,ns m hn,λi x v e1 e2 e3=>?_⟩;obtain ⟨u,r,l⟩:=hl i x v e1 e2 e3;refine ⟨u,r,?_⟩;rcases l with l | ⟨k,c,e,z⟩
  ·exact .inl l
  ·exact .inr ⟨k,c,e,cellK x c e _ z⟩
 ·obtain ⟨v,z⟩:=I.cell x c e;exact ⟨v,cellK x c e v z⟩
 ·obtain ⟨m,⟨o,_,_,ho,_⟩,_⟩:=I.loc;exact free _ o (λz=>(hch _ z).2.1 rfl) ho I.free
 ·obtain ⟨v,o,ho,hd⟩:=I.cell x c e;exact free c o (λz=>(hch c z).2.2.1 x c e rfl) ho (I.freeC x c e)
 ·obtain ⟨e,n,ne,nf,d⟩:=I.pin p hp;have nch:p.1∉ch:=λz=>(hch p.1 z).2.2.2 p hp rfl;exact ⟨keep p.1 p.2 ne nf nch e n,free p.1 p.2 nch e n,ne,nf,d⟩
theorem Inv.un (I:Inv X pins σ H s)(u:Un X.fs [] H H' s.heap h')(hok:HOk X.prog X.w H' h'):Inv X pins σ H' { s with heap:=h',toks:=t' }:=by
 obtain ⟨m,⟨o,es,ep,ho,r⟩,_⟩:=id I.loc;obtain ⟨sl,hL⟩:=u.any ho I.free (by simp);exact I.step (g':=s.gens) (d':=s.drawn) (ch:=[]) (λ_ z=>nomatch z) (λb o _ hb _ e n=>u.keep b o e n hb (by simp)) (λb o _ hb _ e n=>u.slot b o e n hb (by simp)) (λb o _ e n=>u.free b o e n (by simp)) (λb o _ e=>u.there b o e (by simp)) u.tups u.frzs u.tbls (λm' hm=>by
  obtain ⟨o',es',ep',ho',r'⟩:=hm;rw [ho] at ho';cases ho'
  exact ⟨_,es',ep',hL,r'⟩) hok I.bare
theorem Inv.call {g':Array GenState}{d':Drawn}(I:Inv X pins σ H s)(u:Un (frs X.stack) ch H H' s.heap h')(hok:HOk X.prog X.w H' h')(hg:AllBare g')
 (hch:∀b∈ch,(b∈X.ex\/X.s₀.heap.objs.size<=b)/\b≠X.env.locals/\(∀x c,X.env.cells.lookup x=some c->c≠b)/\∀p∈X.pn++pins,p.1≠b) :
 Inv X pins σ H' { s with heap:=h',gens:=g',drawn:=d',toks:=t' }:=by
 obtain ⟨m,⟨o,es,ep,ho,r⟩,_⟩:=id I.loc;obtain ⟨sl,hL⟩:=u.any ho I.free λz=>(hch _ z).2.1 rfl;exact I.step (ch:=ch) hch (λb o hL hb hc e n=>u.keep b o e n (λz=>(ul3.mp (I.stkSub b z)).elim hL hb) hc) (λb o _ _ hc e n=>u.any e n hc) (λb o hc e n=>u.free b o e n hc) (λb o hc e=>u.there b o e hc) u.tups u.frzs u.tbls (λm' hm=>by
  obtain ⟨o',es',ep',ho',r'⟩:=hm;rw [ho] at ho';cases ho'
  exact ⟨_,es',ep',hL,r'⟩) hok hg
theorem Inv.turned {it:Addr}(I:Inv X pins σ H s)(k:∀b o,b≠it->s.heap.get? b=some o->h'.get? b=some o)(hn:H it=none)(hL:it≠X.env.locals)
 (h1:it∈X.ex\/X.s₀.heap.objs.size<=it) (h2:∀x c,X.env.cells.lookup x=some c->c≠it) (h3:∀p∈X.pn++pins,p.1≠it):Inv X pins σ H { s with heap:=h',toks:=t' }:=by
 have nit:∀b u,H b=some u->b≠it:=λb u e z=>by rw [z,hn] at e;cases e
 refine I.step (g':=s.gens) (d':=s.drawn) (ch:=[it]) (λb hb=>?_) (λb o _ _ hc e _=>k b o (λz=>hc (by simp [z])) e) (λb o _ _ hc e _=>⟨o.slots,k b o (λz=>hc (by simp [z])) e⟩) (λ_ _ _ _ n=>n)
  (λb o hc e=>⟨o,k b o (λz=>hc (by simp [z])) e⟩) (λ_ _ e=>e) (λ_ _ _ e=>e) (λb ps e=>⟨#[],by rw [e];simp⟩) (λm hm=>?_) (λb u e=>?_) I.bare
 ·have e:b=it:=by simpa using hb
  subst e;exact ⟨h1,hL,h2,h3⟩
 ·obtain ⟨o,es,ep,ho,r⟩:=hm;exact ⟨o,es,ep,k _ o (Ne.symm hL) ho,r⟩
 ·refine (I.hok b u e).stay (λc v hc q=>k c v ?_ q) (λ_ q=>q) λ_ _ q=>q;rcases hc with z | z
  ·rw [z];exact nit b u e
  ·exact nit c _ z
theorem Inv.tok (I:Inv X pins σ H s)(t:Nat):Inv X pins σ H { s with toks:=t }:=I.un (h':=s.heap) (t':=t) Un.refl I.hok
theorem Inv.kept {t':Nat}(I:Inv X pins σ H s)(k:∀b u,s.heap.get? b=some u->h'.get? b=some u):Inv X pins σ H { s with heap:=h',toks:=t' }:=I.un (Un.kept k) (I.hok.kept k)
theorem Inv.laid {a:Addr}{o:HO}{t':Nat}(I:Inv X pins σ H s)(k:∀b u,s.heap.get? b=some u->h'.get? b=some u)(hp:s.heap.objs.size<=a)(new:ObjOk X.prog X.w (upd H a o) h' a o) :
 Inv X pins σ (upd H a o) { s with heap:=h',toks:=t' }:=I.un (Un.laid k hp (I.hok.fresh hp)) (I.hok.laid k hp new)
theorem Inv.write {x e:Addr}{o:HO}{t':Nat}(I:Inv X pins σ H s)(mu:Mut (H x))(he:e=x\/H e=some (.own x))(k:∀b u,b≠e->s.heap.get? b=some u->h'.get? b=some u)(heo:∃u,h'.get? e=some u)
 (new:ObjOk X.prog X.w (upd H x o) h' x o):Inv X pins σ (upd H x o) { s with heap:=h',toks:=t' }:=I.un (Un.write mu he k heo) (I.hok.write mu he k heo new)
theorem Inv.pins_of {pins':List (Addr×Obj)}(I:Inv X pins σ H s)(h:∀p∈pins',s.heap.get? p.1=some p.2/\H p.1=none/\p.1≠X.env.locals/\p.1∉X.fs/\∀v,p.2.data≠.cell v):Inv X pins' σ H s:=
 ⟨I.ok,I.os,I.bare,I.base,I.loc,I.cell,I.free,I.freeC,λp hp=>(ui8.mp hp).elim (λz=>I.pin p (ud6 _ z)) (h p),I.hok,I.len⟩
theorem IJ {N:List Str}(hN:N.Nodup){i j:Nat}{x:Str}(a:N[i]?=some x)(b:N[j]?=some x):i=j:=by
 obtain ⟨h1,e1⟩:=ub1.mp a;obtain ⟨h2,e2⟩:=ub1.mp b;exact (uh1 hN).mp (e1.trans e2.symm)
theorem Hq {M:Model}{A:Around}(I:Inv X pins σ H s)(hN:X.N.Nodup)(hi:X.N[i]?=some x)(hx:Loc X.env.scope x)(r:RelV v u)
 (h:∀s',Inv X pins (σ.set i (some v)) H s'->(∃a,Heap.SameBut a s.heap s'.heap/\(a=X.env.locals\/X.env.cells.lookup x=some a))->Q () s') (hf:X.fn x=true\/X.env.scope.names.lookup x=some .local:=by walk_at "h"):wpAny M A (storeName X.env x u) Q E s:=by
 obtain ⟨m,hn,hl⟩:=id I.loc;have hcls:(X.env.scope.kind == .class || (X.env.scope.kind == .module && X.env.locals != X.env.globals))=false:=by rw [I.ok.kind];rfl
 have hiσ:i < σ.length:=by rw [I.len];exact (ub1.mp hi).1
 have cne:=I.cne;have tracked:∀{a:Addr} {h':Heap},(∃o,s.heap.get? a=some o/\H a=none)->Heap.SameBut a s.heap h'->HOk X.prog X.w H h':=λ{a h'} ha hs b ob e=>by
  obtain ⟨_,_,hfree⟩:=ha;refine (I.hok b ob e).stay (λc w' hc q=>(hs.2 c ?_).trans q) (λ_ q=>q) λ_ _ q=>q;rintro rfl;rcases hc with rfl | hc
  ·rw [hfree] at e;cases e
  ·rw [hfree] at hc;cases hc
 rcases hx with hk | hk
 ·refine wpAny_storeName_local hk hn (λh' hn' hs=>?_) hcls;obtain ⟨oL,_,_,hoL,_⟩:=id hn;refine h _ ⟨I.ok,I.os,I.bare,⟨λb o e n hb hx=>?_,λb o e n hb hx=>?_,I.base.free,λb o e hx=>?_,I.base.tups,I.base.frzs,I.base.tbls⟩,⟨_,hn',λj y v' e1 e2 e3=>?_⟩,λy c e=>?_,I.free,I.freeC,λp hp=>?_,tracked ⟨oL,hoL,I.free⟩ hs,by simpa using I.len⟩ ⟨_,hs,.inl rfl⟩
  ·exact (hs.2 b (um3 (ue8 (um2 e) I.ok.above))).trans (I.base.keep b o e n hb hx)
  ·obtain ⟨sl,e1⟩:=I.base.slot b o e n hb hx;exact ⟨sl,(hs.2 b (um3 (ue8 (um2 e) I.ok.above))).trans e1⟩
  ·obtain ⟨o',e1⟩:=I.base.there b o e hx;exact ⟨o',(hs.2 b (um3 (ue8 (um2 e) I.ok.above))).trans e1⟩
  ·by_cases hj:j=i
   ·subst hj;rw [hi] at e1;cases e1
    rw [uc0 hiσ] at e2
    cases e2
    exact ⟨u,r,.inl ⟨hk,by simp⟩⟩
   ·rw [ud7 (Ne.symm hj)] at e2;obtain ⟨u',r',q⟩:=hl j y v' e1 e2 e3;refine ⟨u',r',?_⟩;rcases q with ⟨k,e⟩ | ⟨k,c,e,z⟩
    ·refine .inl ⟨k,?_⟩;have:y≠x:=λe=>hj (IJ hN e1 (e ▸ hi));simp [this,e]
    ·exact .inr ⟨k,c,e,z.sameBut hs (cne y c e)⟩
  ·obtain ⟨w',z⟩:=I.cell y c e;exact ⟨w',z.sameBut hs (cne y c e)⟩
  ·obtain ⟨e,n,ne,nf,d⟩:=I.pin p hp;exact ⟨(hs.2 p.1 ne).trans e,n,ne,nf,d⟩
 ·have hfn:X.fn x=true:=by
   rcases hf with z | z
   ·exact z
   ·rw [z] at hk;cases hk
  obtain ⟨c,hc⟩:=I.ok.has x (.inl hk);obtain ⟨w',z⟩:=I.cell x c hc;refine wpAny_storeName_cell I.ok.kind hk hc z (λh' hc' hs=>?_);obtain ⟨oc,hoc,hocd⟩:=id z;refine h { s with heap:=h' } ⟨I.ok,I.os,I.bare,⟨λb o e n hb hx=>?_,λb o e n hb hx=>?_,I.base.free,λb o e hx=>?_,I.base.tups,I.base.frzs,I.base.tbls⟩,⟨m,hn.sameBut hs (Ne.symm (cne x c hc)),λj y v' e1 e2 e3=>?_⟩,λy c' e=>?_,I.free,I.freeC,λp hp=>?_,tracked ⟨oc,hoc,I.freeC x c hc⟩ hs,by simpa using I.len⟩ ⟨c,hs,.inr hc⟩
  ·exact (hs.2 b (um3 (ue8 (um2 e) (I.ok.cab x c hfn hc)))).trans (I.base.keep b o e n hb hx)
  ·obtain ⟨sl,e1⟩:=I.base.slot b o e n hb hx;exact ⟨sl,(hs.2 b (um3 (ue8 (um2 e) (I.ok.cab x c hfn hc)))).trans e1⟩
  ·obtain ⟨o',e1⟩:=I.base.there b o e hx;exact ⟨o',(hs.2 b (um3 (ue8 (um2 e) (I.ok.cab x c hfn hc)))).trans e1⟩
  ·by_cases hj:j=i
   ·subst hj;rw [hi] at e1;cases e1
    rw [uc0 hiσ] at e2
    cases e2
    exact ⟨u,r,.inr ⟨.inl hk,c,hc,hc'⟩⟩
   ·rw [ud7 (Ne.symm hj)] at e2;obtain ⟨u',r',q⟩:=hl j y v' e1 e2 e3;refine ⟨u',r',?_⟩;rcases q with q | ⟨k,c',e,z'⟩
    ·exact .inl q
    ·refine .inr ⟨k,c',e,z'.sameBut hs ?_⟩;rintro rfl;exact hj (IJ hN e1 (I.ok.inj _ _ _ e hc ▸ hi))
  ·by_cases hcc:c'=c
   ·subst hcc;exact ⟨_,hc'⟩
   ·obtain ⟨w2,z2⟩:=I.cell y c' e;exact ⟨w2,z2.sameBut hs hcc⟩
  ·obtain ⟨e,n,ne,nf,d⟩:=I.pin p hp;refine ⟨(hs.2 p.1 ?_).trans e,n,ne,nf,d⟩;intro q;rw [q,hoc] at e;have q':oc=p.2:=ui9 e;exact d w' (by rw [<-q'];exact hocd)
theorem IS {M:Model}{A:Around}(I:Inv X pins σ H s)(hN:X.N.Nodup)(hi:X.N[i]?=some x)(hx:Loc X.env.scope x)(r:RelV v u)
 (h:∀s',Inv X pins (σ.set i (some v)) H s'->Q () s') (hf:X.fn x=true\/X.env.scope.names.lookup x=some .local:=by walk_at "h"):wpAny M A (storeName X.env x u) Q E s:=
 Hq I hN hi hx r (λs' I' _=>h s' I') hf
theorem Inv.call' {s':Shared}(I:Inv X pins σ H s)(ho:s'.os=s.os)(u:Un (frs X.stack) ch H H' s.heap s'.heap)(hok:HOk X.prog X.w H' s'.heap)(hg:AllBare s'.gens)
 (hch:∀b∈ch,(b∈X.ex\/X.s₀.heap.objs.size<=b)/\b≠X.env.locals/\(∀x c,X.env.cells.lookup x=some c->c≠b)/\∀p∈X.pn++pins,p.1≠b):Inv X pins σ H' s':=by
 obtain ⟨h',g',d',t',o'⟩:=s';have e:o'=s.os:=ho;subst e;exact I.call (g':=g') (t':=t') (d':=d') u hok hg hch
end
abbrev XK:=Value->Option Addr->Hp->Prop
abbrev St:=List (Option V)
abbrev VK:=V->Hp->Prop
abbrev TE:=St->Hp->VK->Prop
abbrev TT:=St->Hp->(Bool->Hp->Prop)->Prop
abbrev TA:=St->Hp->(List V->Hp->Prop)->Prop
structure Ends where
 nx:St->Hp->Prop
 rt:VK
 bk:St->Hp->Prop:=λ_ _=>False
 ct:St->Hp->Prop:=λ_ _=>False
abbrev TS:=Ends->St->Hp->Prop
inductive EP (X:Cx)(pins:List (Addr×Obj))(σ:St)(Q:VK)(u:Value)(s':Shared):Prop where
 | mk (v:V) (H':Hp) (i:Inv X pins σ H' s') (r:RelV v u) (q:Q v H'):EP X pins σ Q u s'
inductive TP (X:Cx)(pins:List (Addr×Obj))(σ:St)(Q:Bool->Hp->Prop)(b:Bool)(s':Shared):Prop where
 | mk (H':Hp) (i:Inv X pins σ H' s') (q:Q b H'):TP X pins σ Q b s'
inductive AP (X:Cx)(pins:List (Addr×Obj))(σ:St)(Q:List V->Hp->Prop)(us:List Value)(s':Shared):Prop where
 | mk (vs:List V) (H':Hp) (i:Inv X pins σ H' s') (r:Vals vs us) (q:Q vs H'):AP X pins σ Q us s'
def SP (X:Cx)(pins:List (Addr×Obj))(D:Ends)(f:Flow)(s':Shared):Prop:=
 match f with
 | .next=>∃σ' H',Inv X pins σ' H' s'/\D.nx σ' H'
 | .brk=>∃σ' H',Inv X pins σ' H' s'/\D.bk σ' H'
 | .cont=>∃σ' H',Inv X pins σ' H' s'/\D.ct σ' H'
 | .ret u=>∃v σ' H',Inv X pins σ' H' s'/\RelV v u/\D.rt v H'
def PE (X:Cx)(e:Expr)(t:TE):Prop:=
 ∀(pins:List (Addr×Obj)) (s:Shared) (σ:St) (H:Hp) (Q:VK),Inv X pins σ H s->t σ H Q->wpAny (model X.prog X.w) X.A (eval e X.env) (EP X pins σ Q) X.xe s
def PT (X:Cx)(e:Expr)(t:TT):Prop:=
 ∀(pins:List (Addr×Obj)) (s:Shared) (σ:St) (H:Hp) (Q:Bool->Hp->Prop),Inv X pins σ H s->t σ H Q->wpAny (model X.prog X.w) X.A (isTrue e X.env (eval e X.env)) (TP X pins σ Q) X.xe s
def PW (X:Cx)(e:Expr)(t:TT):Prop:=
 ∀(whole:Sem Value) (pins:List (Addr×Obj)) (s:Shared) (σ:St) (H:Hp) (Q:Bool->Hp->Prop),Inv X pins σ H s->t σ H Q->wpAny (model X.prog X.w) X.A (isTrue e X.env whole) (TP X pins σ Q) X.xe s
variable {X:Cx}{e:Expr}
theorem PW.pt {t:TT}(h:PW X e t):PT X e t:=h _
def PA (X:Cx)(es:List Expr)(t:TA):Prop:=
 ∀(pos:Pos) (pins:List (Addr×Obj)) (s:Shared) (σ:St) (H:Hp) (Q:List V->Hp->Prop),Inv X pins σ H s->t σ H Q->wpAny (model X.prog X.w) X.A (spliced (backTo pos (starEach es X.env))) (AP X pins σ Q) X.xe s
def PS (X:Cx)(st:Stmt)(t:TS):Prop:=
 ∀(pins:List (Addr×Obj)) (s:Shared) (σ:St) (H:Hp) (D:Ends),Inv X pins σ H s->t D σ H->wpAny (model X.prog X.w) X.A (exec st X.env) (SP X pins D) X.xe s
def PSs (X:Cx)(st:List Stmt)(t:TS):Prop:=
 ∀(pins:List (Addr×Obj)) (s:Shared) (σ:St) (H:Hp) (D:Ends),Inv X pins σ H s->t D σ H->wpAny (model X.prog X.w) X.A (execs st X.env) (SP X pins D) X.xe s
variable {s:Shared}
theorem thn {α:Type}{t:Sem α}{Q Q':α->Shared->Prop}{M:Model}{A:Around}(h:wpAny M A t Q E s)(hQ:∀a s,Q a s->Q' a s):wpAny M A t Q' E s:=uo1 h hQ λ_ _ x=>x
variable {pins:List (Addr×Obj)}{σ:St}{c:Expr}
section
variable {X:Cx}
def Zb (i:Nat):TE:=λσ H Q=>∃v,σ[i]?=some (some v)/\Q v H
def tC (v:V):TE:=λ_ H Q=>Q v H
theorem C7 {pos:Pos}(hN:X.N[i]?=some x)(hv:Vis X.env.scope x)(hd:(x == ("__debug__" : Str))=false:=by decide)(hcd:(x == ("__classdict__" : Str))=false:=by decide):PE X (.Name x pos) (Zb i):=by
 intro pins s σ H Q I h;obtain ⟨v,e,h⟩:=h;obtain ⟨m,hn,hl⟩:=I.loc;obtain ⟨u,r,l⟩:=hl i x v hN e hv;have fin:EP X pins σ Q u s:=⟨v,H,I,r,h⟩;rcases l with ⟨hk,hm⟩ | ⟨hk,c,hc,hcell⟩
 ·exact wpAny_Name (wpAny_loadName_local I.ok.kind hk hn hm fin) hd
 ·rcases hk with hk | hk
  ·exact wpAny_Name (wpAny_loadName_cell I.ok.kind hk hc hcell fin) hd
  ·exact wpAny_Name (wpAny_loadName_free I.ok.kind hk hc hcell fin hcd) hd
theorem Yv {i j pos}:PE X (.Constant (.int i) j pos) (tC (.int i)):=λ_ _ _ H _ I h=>wpAny_Constant_int ⟨.int i,H,I.tok _,⟨_,rfl⟩,h⟩
theorem ZQ {b j pos}:PE X (.Constant (.bool b) j pos) (tC (.bl b)):=λ_ _ _ H _ I h=>Constant_bool ⟨.bl b,H,I,rfl,h⟩
theorem Yx {j pos}:PE X (.Constant .none j pos) (tC .non):=λ_ _ _ H _ I h=>Constant_none ⟨.non,H,I,rfl,h⟩
theorem Rc {x j pos}:PE X (.Constant (.str x) j pos) (tC (.str x)):=λ_ _ _ H _ I h=>Calls.Constant_str ⟨.str x,H,I.tok _,⟨_,rfl⟩,h⟩
def Gl (X:Cx)(x:Str):Prop:=X.env.kindOf x=some .globalImplicit
theorem CF {pos:Pos}{Q:Value->Shared->Prop}(I:Inv X pins σ H s)(hg:Gl X x)(hm:X.mg x=some u)(h:Q u s)
 (hd:(x == ("__debug__" : Str))=false:=by decide):wpAny (model X.prog X.w) X.A (eval (.Name x pos) X.env) Q E s:=
 Calls.Name_function_global I.ok.kind hg (Calls.loadGlobal_global (by rw [I.ok.glob];exact I.mod.glob.keeps I.bk) hm h) hd
theorem Ha {pos:Pos}{Q:Value->Shared->Prop}(I:Inv X pins σ H s)(hg:Gl X x)(hm:X.mg x=none)(hv:bootBuiltins x=some u)(h:Q u s)
 (hn:x≠"__name__":=by decide) (hd:(x == ("__debug__" : Str))=false:=by decide):wpAny (model X.prog X.w) X.A (eval (.Name x pos) X.env) Q E s:=by
 obtain ⟨mb,h1,h2⟩:=I.mod.blt;exact Calls.Name_function_global I.ok.kind hg (Calls.loadGlobal_builtin (by rw [I.ok.glob];exact I.mod.glob.keeps I.bk) hm (by rw [I.ok.blt];exact h1.keeps I.bk) ((h2 x hn).trans hv) h) hd
theorem Oi {pos:Pos}(hg:Gl X x)(hm:X.mg x=some u)(r:RelV v u)(hd:(x == ("__debug__" : Str))=false:=by decide):PE X (.Name x pos) (tC v):=
 λ_ _ _ H _ I h=>CF I hg hm ⟨v,H,I,r,h⟩ hd
theorem VZ {pos:Pos}(hg:Gl X x)(hm:X.mg x=none)(hv:bootBuiltins x=some u)(r:RelV v u)(hn:x≠"__name__":=by decide)(hd:(x == ("__debug__" : Str))=false:=by decide):PE X (.Name x pos) (tC v):=
 λ_ _ _ H _ I h=>Ha I hg hm hv ⟨v,H,I,r,h⟩ hn hd
variable {a b:Expr}{ta tb:TE}{pos:Pos}
def tB (t:TE):TT:=λσ H Q=>t σ H λx H1=>∃c,x = .bl c/\Q c H1
theorem YI {t:TE}(h:PE X e t)(he:∀whole,isTrue e X.env whole=(do let v <-whole;standAt e.pos;holding [v] (truthy v)):=by intro _;rfl):PT X e (tB t):=by
 intro pins s σ H Q I hw;refine isTrue_plain (thn (h pins s σ H _ I hw) λv s1 z9=>?_) (he _);obtain ⟨x,H1,I1,r1,q1⟩:=z9;obtain ⟨d,rfl,q⟩:=q1
 cases r1
 exact wpAny_truthy_bool ⟨H1,I1,q⟩
variable {tA tB':TT}{rest:List Expr}
def bG (t u:TT):TT:=λσ H Q=>t σ H λc H1=>if c=true then u σ H1 Q else Q false H1
def tOr (t u:TT):TT:=λσ H Q=>t σ H λc H1=>if c=true then Q true H1 else u σ H1 Q
def bN (t:TT):TT:=λσ H Q=>t σ H λc H1=>Q (!c) H1
theorem Wl (ha:PT X a tA):PW X (.BoolOp .And [a] pos) tA:=by
 intro wh pins s σ H Q I h;refine isTrue_and (thn (ha pins s σ H Q I h) λc s1 e=>?_)
 cases c with
 | true=>exact isTrue_and_nil e
 | false=>exact e
theorem YL (ha:PT X a tA):PW X (.BoolOp .Or [a] pos) tA:=by
 intro wh pins s σ H Q I h;refine isTrue_or (thn (ha pins s σ H Q I h) λc s1 e=>?_)
 cases c with
 | false=>exact isTrue_or_nil e
 | true=>exact e
theorem YK (ha:PT X a tA)(hb:PW X (.BoolOp .And (b :: rest) pos) tB'):PW X (.BoolOp .And (a :: b :: rest) pos) (bG tA tB'):=by
 intro wh pins s σ H Q I h;refine isTrue_and (thn (ha pins s σ H _ I h) λc s1 z9=>?_);obtain ⟨H1,I1,q1⟩:=z9
 cases c with
 | true=>exact hb wh pins s1 σ H1 Q I1 q1
 | false=>exact ⟨H1,I1,q1⟩
theorem ZX (ha:PT X a tA)(hb:PW X (.BoolOp .Or (b :: rest) pos) tB'):PW X (.BoolOp .Or (a :: b :: rest) pos) (tOr tA tB'):=by
 intro wh pins s σ H Q I h;refine isTrue_or (thn (ha pins s σ H _ I h) λc s1 z9=>?_);obtain ⟨H1,I1,q1⟩:=z9
 cases c with
 | true=>exact ⟨H1,I1,q1⟩
 | false=>exact hb wh pins s1 σ H1 Q I1 q1
theorem YH (ha:PT X a tA):PT X (.UnaryOp .Not a pos) (bN tA):=by
 intro pins s σ H Q I h;refine isTrue_not (thn (ha pins s σ H (λc H1=>Q (!c) H1) I h) λc s1 z=>?_);obtain ⟨H1,I1,q1⟩:=z;exact ⟨H1,I1,q1⟩
def ZZ (ta tb:TE):TE:=λσ H Q=>ta σ H λx H1=>∃c,x = .bl c/\if c=true then tb σ H1 Q else Q (.bl false) H1
def Z4 (ta:TE):TE:=λσ H Q=>ta σ H λx H1=>∃c,x = .bl c/\Q (.bl (!c)) H1
theorem Yz {op}{t:TE}(h:PE X a t):PE X (.BoolOp op [a] pos) t:=λpins s σ H Q I hw=>BoolOp_one (h pins s σ H Q I hw)
theorem Yt (ha:PE X a ta)(hb:PE X (.BoolOp .And (b :: rest) pos) tb):PE X (.BoolOp .And (a :: b :: rest) pos) (ZZ ta tb):=by
 intro pins s σ H Q I h;refine BoolOp_and (thn (ha pins s σ H _ I h) λv s1 z9=>?_);obtain ⟨x,H1,I1,r1,q1⟩:=z9;obtain ⟨c,rfl,q1⟩:=q1
 cases r1
 refine wpAny_truthy_bool ?_
 cases c with
 | true=>exact hb pins s1 σ H1 Q I1 q1
 | false=>exact ⟨.bl false,H1,I1,rfl,q1⟩
theorem Yy (ha:PE X a ta):PE X (.UnaryOp .Not a pos) (Z4 ta):=by
 intro pins s σ H Q I h;refine UnaryOp_ (thn (ha pins s σ H _ I h) λv s1 z9=>?_);obtain ⟨x,H1,I1,r1,q1⟩:=z9;obtain ⟨c,rfl,q1⟩:=q1
 cases r1
 exact not_of (wpAny_truthy_bool ⟨.bl (!c),H1,I1,rfl,q1⟩)
def tIf (t:TT)(ta tb:TE):TE:=λσ H Q=>t σ H λc H1=>if c=true then ta σ H1 Q else tb σ H1 Q
theorem TB (hc:PT X c tA)(ha:PE X a ta)(hb:PE X b tb):PE X (.IfExp c a b pos) (tIf tA ta tb):=by
 intro pins s σ H Q I h;refine wpAny_IfExp (thn (hc pins s σ H _ I h) λd s1 z9=>?_);obtain ⟨H1,I1,q1⟩:=z9
 cases d with
 | true=>exact ha pins s1 σ H1 Q I1 q1
 | false=>exact hb pins s1 σ H1 Q I1 q1
end
def SqL (K:PySem.W.Frag)(H:Hp)(a:Addr)(xs:List V):Prop:=
 Rd H a (.lst xs)\/
  ∃(o:Obj) (its:Array Value) (n:Nat),K.lookup a=some o/\o.cls = .type "list"/\o.dict=none/\o.data = .seq its n/\its.size<=sizeLine/\Vals xs its.toList
def SqT (K:PySem.W.Frag)(H:Hp)(a:Addr)(xs:List V):Prop:=
 Rd H a (.tup xs)\/
  ∃(o:Obj) (its:Array Value) (n:Nat),K.lookup a=some o/\o.cls = .type "tuple"/\o.data = .seq its n/\its.size<=sizeLine/\Vals xs its.toList
noncomputable def aZ:Value->Option V
 | .none=>some .non
 | .bool b=>some (.bl b)
 | .int i _=>some (.int i)
 | .str x _=>some (.str x)
 | .bytes b _=>some (.byt b)
 | .float b _=>some (.flt b)
 | .ref a=>some (.ref a)
 | .type n=>some (.ty n)
 | _=>none
theorem RelV.abs {x:V}(r:RelV x u):aZ u=some x:=by
 cases x with
 | non=>cases r;rfl
 | bl _=>cases r;rfl
 | int _=>obtain ⟨t,rfl⟩:=r;rfl
 | str _=>obtain ⟨t,rfl⟩:=r;rfl
 | byt _=>obtain ⟨t,rfl⟩:=r;rfl
 | flt _=>obtain ⟨t,rfl⟩:=r;rfl
 | ref _=>cases r;rfl
 | ty _=>cases r;rfl
theorem RelV.inj {x y:V}{u:Value}(r:RelV x u)(q:RelV y u):x=y:=ui9 (r.abs.symm.trans q.abs)
theorem Vals.inj {xs ys:List V}{us:List Value}(a:Vals xs us)(b:Vals ys us):xs=ys:=by
 cases a with
 | nil=>
   cases b
   rfl
 | cons r t=>
   cases b with
   | cons r' t'=>rw [r.inj r',Vals.inj t t']
variable {K:PySem.W.Frag}
section
variable {X:Cx}{pins:List (Addr×Obj)}{σ:St}{H:Hp}{s:Shared}{a:Addr}{xs ys:List V}
theorem SqL.of (h:H a=some (.lst xs)):SqL K H a xs:=.inl (.inl h)
theorem SqT.of (h:H a=some (.tup xs)):SqT K H a xs:=.inl (.inl h)
theorem Inv.list (I:Inv X pins σ H s)(h:SqL X.K H a xs):∃its:List Value,Vals xs its/\PlainL s.heap a its.toArray/\xs.length<=sizeLine:=by
 rcases h with h | ⟨o,its,n,hk,hc,hd,hs,hz,r⟩
 ·obtain ⟨z,its,n,r,e⟩:=h.ok I.hok;exact ⟨its,r,⟨_,n,e,rfl,rfl,rfl⟩,z⟩
 ·refine ⟨its.toList,r,⟨o,n,I.kIn a o hk,hc,hd,by simpa using hs⟩,?_⟩;have e:=r.length;simp only [Array.length_toList] at e;lia
theorem Inv.tuple (I:Inv X pins σ H s)(h:SqT X.K H a xs):∃its:List Value,Vals xs its/\IsTup s.heap a its.toArray/\xs.length<=sizeLine:=by
 rcases h with h | ⟨o,its,n,hk,hc,hs,hz,r⟩
 ·obtain ⟨z,its,r,p⟩:=h.ok I.hok;exact ⟨its,r,p,z⟩
 ·refine ⟨its.toList,r,⟨o,I.kIn a o hk,hc,n,by simpa using hs⟩,?_⟩;have e:=r.length;simp only [Array.length_toList] at e;lia
theorem Inv.list_inj (I:Inv X pins σ H s)(h:SqL X.K H a xs)(h':SqL X.K H a ys):xs=ys:=by
 obtain ⟨its,r,⟨o,n,e,_,_,d⟩,_⟩:=I.list h;obtain ⟨its',r',⟨o',n',e',_,_,d'⟩,_⟩:=I.list h';rw [e] at e';cases e'
 rw [d] at d';injection d' with d1 _
 have:its=its':=by simpa using congrArg Array.toList d1
 subst this;exact r.inj r'
theorem Inv.tuple_inj (I:Inv X pins σ H s)(h:SqT X.K H a xs)(h':SqT X.K H a ys):xs=ys:=by
 obtain ⟨its,r,⟨o,e,_,n,d⟩,_⟩:=I.tuple h;obtain ⟨its',r',⟨o',e',_,n',d'⟩,_⟩:=I.tuple h';rw [e] at e';cases e'
 rw [d] at d';injection d' with d1 _
 have:its=its':=by simpa using congrArg Array.toList d1
 subst this;exact r.inj r'
end
abbrev Cx.wish (X:Cx)(E:Value->Shared->Prop):Cx:={ X with xe:=E }
abbrev Cx.nox (X:Cx):Cx:=X.wish λ_ _=>False
theorem Cx.Ok.wish {X:Cx}(ok:X.Ok)(E:Value->Shared->Prop):(X.wish E).Ok:=
 ⟨ok.mod,ok.kind,ok.glob,ok.blt,ok.above,ok.inj,ok.has,ok.cab,ok.hd,ok.frames,ok.stk,ok.exf,ok.bs,ok.bsz,ok.noex,ok.exfs,ok.funs,ok.frf⟩
theorem Cx.Ok.unwish (ok:(X.wish E).Ok):X.Ok:=
 ⟨ok.mod,ok.kind,ok.glob,ok.blt,ok.above,ok.inj,ok.has,ok.cab,ok.hd,ok.frames,ok.stk,ok.exf,ok.bs,ok.bsz,ok.noex,ok.exfs,ok.funs,ok.frf⟩
section
variable {X:Cx}{pins:List (Addr×Obj)}{σ:St}{H:Hp}{s:Shared}{E:Value->Shared->Prop}
theorem Inv.wish (I:Inv X pins σ H s)(E:Value->Shared->Prop):Inv (X.wish E) pins σ H s:=⟨I.ok.wish E,I.os,I.bare,I.base,I.loc,I.cell,I.free,I.freeC,I.pin,I.hok,I.len⟩
theorem Inv.unwish (I:Inv (X.wish E) pins σ H s):Inv X pins σ H s:=⟨I.ok.unwish,I.os,I.bare,I.base,I.loc,I.cell,I.free,I.freeC,I.pin,I.hok,I.len⟩
theorem SP.unwish {D:Ends}{f:Flow}{s':Shared}(h:SP (X.wish E) pins D f s'):SP X pins D f s':=by
 cases f with
 | next=>obtain ⟨σ',H',I,q⟩:=h;exact ⟨σ',H',I.unwish,q⟩
 | brk=>obtain ⟨σ',H',I,q⟩:=h;exact ⟨σ',H',I.unwish,q⟩
 | cont=>obtain ⟨σ',H',I,q⟩:=h;exact ⟨σ',H',I.unwish,q⟩
 | ret u=>obtain ⟨v,σ',H',I,r,q⟩:=h;exact ⟨v,σ',H',I.unwish,r,q⟩
theorem PSs.nox {st:List Stmt}{t:TS}(h:PSs X.nox st t):PSs X st t:=λpins s σ H D I hw=>
 uo1 (h pins s σ H D (I.wish _) hw) (λ_ _ q=>q.unwish) λ_ _ z=>False.elim z
end
section
variable {X:Cx}{st:Stmt}{rest:List Stmt}{t u:TS}{e:Expr}{te:TE}{pos:Pos}
def Z3:TS:=λD σ H=>D.nx σ H
def bP (t u:TS):TS:=λD σ H=>t { D with nx:=u D } σ H
theorem Wi:PSs X [] Z3:=λ_ _ σ H _ I h=>wpAny_execs_nil ⟨σ,H,I,h⟩
theorem IM (h1:PS X st t)(h2:PSs X rest u):PSs X (st :: rest) (bP t u):=by
 intro pins s σ H D I h;refine wpAny_execs_cons (thn (h1 pins s σ H { D with nx:=u D } I h) λf s1 q=>?_)
 cases f with
 | next=>
   obtain ⟨σ',H',I',q⟩:=q;exact h2 pins s1 σ' H' D I' q
 | ret v=>exact q
 | brk=>exact q
 | cont=>exact q
theorem HU (h1:PS X st t):PSs X [st] t:=by
 intro pins s σ H D I h;refine wpAny_execs_cons (thn (h1 pins s σ H D I h) λf s1 q=>?_)
 cases f with
 | next=>exact wpAny_execs_nil q
 | ret v=>exact q
 | brk=>exact q
 | cont=>exact q
def Y7:TS:=λD σ H=>D.bk σ H
theorem TL:PS X (.Break pos) Y7:=λ_ _ σ H _ I h=>wpAny_Break ⟨σ,H,I,h⟩
theorem Inv.quiet (I:Inv X pins σ H s):interactive X.env=false:=by simp [interactive,I.ok.kind]
def UN (te:TE):TS:=λD σ H=>te σ H λ_ H1=>D.nx σ H1
theorem Kr (he:PE X e te)(hs:swapsWith e none pos.line X.env=pure false:=by rfl):PS X (.Expr e pos) (UN te):=by
 intro pins s σ H D I h;exact wpAny_Expr_any (thn (he pins s σ H _ I h) λv s1 z9=>by obtain ⟨x,H1,I1,r1,q1⟩:=z9;exact ⟨σ,H1,I1,q1⟩) I.quiet hs
def bO (te:TE):TS:=λD σ H=>te σ H D.rt
theorem Hk (he:PE X e te):PS X (.Return (some e) pos) (bO te):=by
 intro pins s σ H D I h;exact wpAny_Return_some (thn (he pins s σ H _ I h) λv s1 z9=>by obtain ⟨x,H1,I1,r1,q1⟩:=z9;exact ⟨x,σ,H1,I1,r1,q1⟩)
def bL (c:TT)(t u:TS):TS:=λD σ H=>c σ H λb H1=>if b=true then t D σ H1 else u D σ H1
theorem ZW {a b:List Stmt}{tc:TT}(hc:PT X c tc)(ha:PSs X a t)(hb:PSs X b u):PS X (.If c a b pos) (bL tc t u):=by
 intro pins s σ H D I h;refine wpAny_If (thn (hc pins s σ H _ I h) λd s1 z9=>?_);obtain ⟨H1,I1,q1⟩:=z9
 cases d with
 | true=>exact ha pins s1 σ H1 D I1 q1
 | false=>exact hb pins s1 σ H1 D I1 q1
end
abbrev TG:=V->St->Hp->(St->Hp->Prop)->Prop
abbrev TGs:=List V->St->Hp->(St->Hp->Prop)->Prop
def PG (X:Cx)(target:Expr)(t:TG):Prop:=
 ∀(pins:List (Addr×Obj)) (s:Shared) (σ:St) (H:Hp) (v:V) (u:Value) (Q:St->Hp->Prop),Inv X pins σ H s->RelV v u->t v σ H Q->
  wpAny (model X.prog X.w) X.A (assign target X.env u) (λ_ s'=>∃σ' H',Inv X pins σ' H' s'/\Q σ' H') X.xe s
def PGs (X:Cx)(ts:List Expr)(t:TGs):Prop:=
 ∀(pins:List (Addr×Obj)) (s:Shared) (σ:St) (H:Hp) (vs:List V) (us:List Value) (Q:St->Hp->Prop),Inv X pins σ H s->Vals vs us->t vs σ H Q->
  wpAny (model X.prog X.w) X.A (assignInOrder ((assignEach ts X.env).map (·.2)) us) (λ_ s'=>∃σ' H',Inv X pins σ' H' s'/\Q σ' H') X.xe s
abbrev Sc:=V->V->V->Hp->(Hp->Prop)->Prop
def Xe (X:Cx)(t:Sc):Prop:=
 ∀(pins:List (Addr×Obj)) (s:Shared) (σ:St) (H:Hp) (o i v:V) (ov iv u:Value) (Q:Hp->Prop),Inv X pins σ H s->RelV o ov->RelV i iv->RelV v u->t o i v H Q->
  wpAny (model X.prog X.w) X.A (setItem ov iv u) (λ_ s'=>∃H',Inv X pins σ H' s'/\Q H') X.xe s
variable {tg:Expr}
section
variable {X:Cx}{pos:Pos}
def Ju (i:Nat):TG:=λv σ H Q=>Q (σ.set i (some v)) H
theorem V4 (hN:X.N.Nodup)(hi:X.N[i]?=some x)(hx:Loc X.env.scope x)(hf:X.fn x=true\/X.env.scope.names.lookup x=some .local:=by walk_at "h"):PG X (.Name x pos) (Ju i):=by
 intro pins s σ H v u Q I r h;exact wpAny_assign_Name (IS I hN hi hx r (λs' I'=>⟨_,H,I',h⟩) hf)
def bn:TGs:=λvs σ H Q=>vs=[]/\Q σ H
def UB (t:TG)(u:TGs):TGs:=λvs σ H Q=>∃v r,vs=v :: r/\t v σ H λσ' H'=>u r σ' H' Q
theorem V5:PGs X [] bn:=by
 intro pins s σ H vs us Q I r h;obtain ⟨e,h⟩:=h;subst e
 cases r
 exact assignInOrder_nil ⟨σ,H,I,h⟩
theorem TF {es:List Expr}{t:TG}{u:TGs}(h1:PG X e t)(h2:PGs X es u)
 (hs:(assignEach (e :: es) X.env).map (·.2)=assign e X.env :: (assignEach es X.env).map (·.2):=by rfl):PGs X (e :: es) (UB t u):=by
 intro pins s σ H vs us Q I r h;obtain ⟨v,vr,e1,h⟩:=h;subst e1
 cases r with
 | cons r rr=>
   rw [hs];refine assignInOrder_cons (thn (h1 pins s σ H _ _ _ I r h) λ_ s1 z9=>?_);obtain ⟨σ1,H1,I1,q1⟩:=z9;exact h2 pins s1 σ1 H1 _ _ Q I1 rr q1
def bp (K:PySem.W.Frag)(n:Nat)(t:TGs):TG:=λv σ H Q=>∃a xs,v = .ref a/\SqT K H a xs/\xs.length=n/\t xs σ H Q
theorem YC {es:List Expr}{k:Nat}{t:TGs}{n:Nat}(hc:X.calm=true)(h:PGs X es t)
 (hn:(assignEach es X.env).length=n:=by rfl) (hst:(assignEach es X.env).findIdx? (·.1)=none:=by rfl):PG X (.Tuple es k pos) (bp X.K n t):=by
 intro pins s σ H v u Q I r hw;obtain ⟨a,xs,e1,hq,hl,hw⟩:=hw;subst e1
 cases r
 obtain ⟨its,rv,ht,hz⟩:=I.tuple hq;refine assign_Tuple_tuple (I.ok.hd hc) ht (by simp [hn,<-hl,rv.length]) hst λh' hx=>?_;have I1:Inv X pins σ H { s with heap:=h' }:=I.kept (t':=s.toks) λb o e=>hx b o (um3 (um2 e)) e;exact h pins _ σ H xs _ Q I1 (by simpa using rv) hw
def bo (to ti:TE)(t:Sc):TG:=λv σ H Q=>to σ H λo H1=>ti σ H1 λi H2=>t o i v H2 λH3=>Q σ H3
theorem YB {o i:Expr}{to ti:TE}{t:Sc}(ho:PE X o to)(hi:PE X i ti)(hs:Xe X t)
 (ha:∀v,assign (.Subscript o i pos) X.env v=(do
   let ov <-holding [v] (eval o X.env)
   let iv <-holding [v,ov] (eval i X.env)
   standAt pos
   holding [v,ov,iv] (setItem ov iv v)
   release [v,ov,iv] []):=by intro _;rfl):PG X (.Subscript o i pos) (bo to ti t):=by
 intro pins s σ H v u Q I r h;rw [ha];refine un9 (um1 (thn (ho pins s σ H _ I h) λov s1 z9=>?_));obtain ⟨x,H1,I1,r1,q1⟩:=z9;refine un9 (um1 (thn (hi pins s1 σ H1 _ I1 q1) λiv s2 z9=>?_));obtain ⟨y,H2,I2,r2,q2⟩:=z9;refine un9 (wpAny_standAt (un9 (um1 (thn (hs pins s2 σ H2 x y v ov iv u _ I2 r1 r2 r q2) λ_ s3 z9=>?_))));obtain ⟨H3,I3,q3⟩:=z9;exact wpAny_release ⟨σ,H3,I3,q3⟩
def NB (te:TE)(g:TG):TS:=λD σ H=>te σ H λx H1=>g x σ H1 D.nx
theorem Rk {te:TE}{g:TG}(he:PE X e te)(hg:PG X tg g)(hs:swapsWithSole [tg] e pos.line X.env=pure false:=by rfl)(hw:swappedStores [tg] e X.env=pure none:=by rfl)
 (h1:(assignEach [tg] X.env).map (·.2)=[assign tg X.env]:=by rfl):PS X (.Assign [tg] e pos) (NB te g):=by
 intro pins s σ H D I h;refine wpAny_Assign_stores (thn (he pins s σ H _ I h) λv s1 z9=>?_) hs hw;obtain ⟨x,H1,I1,r1,q1⟩:=z9;rw [h1];exact thn (hg pins s1 σ H1 x v _ I1 r1 q1) λ_ s2 q=>q
theorem Nk {te:TE}{pos':Pos}(hN:X.N.Nodup)(hi:X.N[i]?=some x)(hx:Loc X.env.scope x)(he:PE X e te)(hs:swapsWith e (some (.Name x pos')) pos.line X.env=pure false:=by rfl)(hf:X.fn x=true\/X.env.scope.names.lookup x=some .local:=by walk_at "h") :
 PS X (.Assign [.Name x pos'] e pos) (NB te (Ju i)):=by
 intro pins s σ H D I h;refine wpAny_Assign_Name (thn (he pins s σ H _ I h) λv s1 z9=>?_) hs;obtain ⟨y,H1,I1,r1,q1⟩:=z9;exact IS I1 hN hi hx r1 (λs2 I2=>⟨_,H1,I2,q1⟩) hf
end
section
variable {X:Cx}{pos:Pos}
def RN (c:TT)(tb:TS):TS:=λD σ H=>∃W:Nat->St->Hp->Prop,(∃m,W m σ H)/\∀m σ H,W m σ H->
 c σ H λb H1=>if b=true then ∃N:St->Hp->Prop,(∀σ' H',N σ' H'->∃m',m' < m/\W m' σ' H')/\tb { D with nx:=N,ct:=N,bk:=D.nx } σ H1 else D.nx σ H1
theorem TN {body:List Stmt}{tc:TT}{tb:TS}(hp:PassesOwn (model X.prog X.w) X.A X.env X.xe)(hc:PT X c tc)(hb:PSs X body tb):PS X (.While c body [] pos) (RN tc tb):=by
 intro pins s σ H D I h;obtain ⟨W,⟨m0,w0⟩,turn⟩:=h;refine wpAny_While (codeAny_whileLoop (λn s'=>∃σ' H',Inv X pins σ' H' s'/\W n σ' H') ?_ m0 ⟨σ,H,I,w0⟩);rintro n s1 ⟨σ1,H1,I1,w1⟩;refine wpAny_passesOwn hp (thn (hc pins s1 σ1 H1 _ I1 (turn n σ1 H1 w1)) λb s2 z9=>?_);obtain ⟨H2,I2,q2⟩:=z9
 cases b with
 | true=>
   obtain ⟨N,hN,q2⟩:=q2;rw [if_pos rfl];refine wpAny_passesOwn hp (thn (hb pins s2 σ1 H2 _ I2 q2) λf s3 q3=>?_)
   cases f with
   | next=>
     obtain ⟨σ3,H3,I3,n3⟩:=q3;obtain ⟨m',hm,w3⟩:=hN σ3 H3 n3;exact ⟨m',hm,σ3,H3,I3,w3⟩
   | cont=>
     obtain ⟨σ3,H3,I3,n3⟩:=q3;obtain ⟨m',hm,w3⟩:=hN σ3 H3 n3;exact ⟨m',hm,σ3,H3,I3,w3⟩
   | brk=>exact q3
   | ret v=>exact q3
 | false=>
   rw [if_neg uf0];exact wpAny_execs_nil ⟨σ1,H2,I2,q2⟩
end
structure It where
 go:Nat->Hp->Prop
 yld:Nat->Hp->V->Hp->Prop
 stop:Nat->Hp->Prop
def FpOk (X:Cx)(pins:List (Addr×Obj))(H:Hp)(b:Addr):Prop:=
 H b=none/\b≠X.env.locals/\b∉X.fs/\(b∈X.ex\/X.s₀.heap.objs.size<=b)/\(∀x c,X.env.cells.lookup x=some c->c≠b)/\∀p∈X.pn++pins,p.1≠b
theorem Inv.fpOk {H':Hp}(I:Inv X pins σ H s)(hb:s.heap.objs.size<=b)(hn:H' b=none):FpOk X pins H' b:=by
 refine ⟨hn,um6 (ue8 I.lt hb),I.nofs hb,.inr (um4 I.sz hb),λx c e z=>?_,λp hp z=>?_⟩
 ·obtain ⟨v,q⟩:=I.cell x c e;exact absurd (ue8 q.lt (by rw [z];exact hb)) (ul2 _)
 ·exact absurd (ue8 (um2 (I.pin p hp).1) (by rw [z];exact hb)) (ul2 _)
structure Turn (P:Program)(w:World)(K:PySem.W.Frag)(tg:Expr)(J:It)(fp:List Addr)(it:Addr)(tn:Nat->Heap->Prop):Prop where
 mem:it∈fp
 obj:∀i h,tn i h->∀b∈fp,∃o,h.get? b=some o/\∀v,o.data≠.cell v
 keep:∀i h h',tn i h->(∀b∈fp,∀o,h.get? b=some o->h'.get? b=some o)->tn i h'
 item:∀(X:Cx),X.prog=P->X.w=w->X.K=K->X.calm=true->∀(i:Nat) (pins:List (Addr×Obj)) (s:Shared) (σ:St) (H:Hp) (E:Value->Shared->Prop),Inv X pins σ H s->(∀b∈fp,FpOk X pins H b)->tn i s.heap->J.go i H->
  wpAny (model P w) X.A (pyNext (.ref it)) (λr s1=>∃u,r=some u/\
   wpAny (model P w) X.A (letOwnedTupleGo tg (.ref it) u) (λ_ s2=>∃x H',Inv X pins σ H' s2/\RelV x u/\J.yld i H x H'/\tn (i + 1) s2.heap/\∀b∈fp,H' b=none) E s1) E s
 done:∀(X:Cx),X.prog=P->X.w=w->X.K=K->X.calm=true->∀(i:Nat) (pins:List (Addr×Obj)) (s:Shared) (σ:St) (H:Hp) (E:Value->Shared->Prop),Inv X pins σ H s->(∀b∈fp,FpOk X pins H b)->tn i s.heap->J.stop i H->
  wpAny (model P w) X.A (pyNext (.ref it)) (λr s1=>r=none/\Inv X pins σ H s1) E s
 self:∀(A:Around) (i:Nat) (s:Shared) (Q:Value->Shared->Prop) (E:Value->Shared->Prop),tn i s.heap->Q (.ref it) s->wpAny (model P w) A (pyIter (.ref it)) Q E s
abbrev TI:=St->Hp->(It->Hp->Prop)->Prop
def PIE (X:Cx)(pins:List (Addr×Obj))(σ:St)(tg:Expr)(R:It->Hp->Prop)(itv:Value)(s2:Shared):Prop:=
 ∃(it:Addr) (fp:List Addr) (tn:Nat->Heap->Prop) (J:It) (H':Hp),itv = .ref it/\Inv X pins σ H' s2/\Turn X.prog X.w X.K tg J fp it tn/\tn 0 s2.heap/\(∀b∈fp,FpOk X pins H' b)/\R J H'
def PI (X:Cx)(tg iter:Expr)(wi:TI):Prop:=
 ∀(pins:List (Addr×Obj)) (s:Shared) (σ:St) (H:Hp) (R:It->Hp->Prop),Inv X pins σ H s->wi σ H R->
  wpAny (model X.prog X.w) X.A (eval iter X.env) (λv s1=>wpAny (model X.prog X.w) X.A (pyIter v) (PIE X pins σ tg R) X.xe s1) X.xe s
theorem LC {M:Model}{A:Around}{it:Addr}{o:Obj}{n:String}{vs:Array Value}(ho:s.heap.get? it=some o)(hc:o.cls = .type n)(hd:o.data = .fields vs)
 (hn:["enumerate", "zip", "dict_itemiterator", "dict_reverseitemiterator", "odict_iterator", "itertools.zip_longest", "itertools.pairwise"].contains n=false) (hQ:Q () s):wpAny M A (letOwnedTupleGo tg (.ref it) u) Q E s:=by
 unfold letOwnedTupleGo
 cases tg <;> first
  | exact uo0 hQ
  | (cases u <;> first
      | exact uo0 hQ
      | (refine un9 (wpAny_load ho ?_)
         rw [hc,hd];show wpAny M A (if (["enumerate", "zip", "dict_itemiterator", "dict_reverseitemiterator", "odict_iterator", "itertools.zip_longest", "itertools.pairwise"].contains n && vs[0]? == some (rawInt _))=true then _ else _) Q E s;rw [if_neg (by intro h;rw [hn,uk8] at h;cases h)]
         exact uo0 hQ))
def Itl (K:PySem.W.Frag)(a:Addr):It:=
 ⟨λi H=>∃xs x,SqL K H a xs/\xs[i]?=some x,λi H x H'=>H'=H/\∀xs,SqL K H a xs->xs[i]?=some x,λi H=>∃xs,SqL K H a xs/\xs.length<=i⟩
def Itt (K:PySem.W.Frag)(a:Addr):It:=
 ⟨λi H=>∃xs x,SqT K H a xs/\xs[i]?=some x,λi H x H'=>H'=H/\∀xs,SqT K H a xs->xs[i]?=some x,λi H=>∃xs,SqT K H a xs/\xs.length<=i⟩
noncomputable def Itr (lo:Int)(n:Nat):It:=⟨λi _=>i < n,λi H x H'=>H'=H/\x = .int (lo + i),λi _=>n<=i⟩
theorem RV (a it:Addr):Turn P w K tg (Itl K a) [it] it (λi h=>h.IsListIter it a i) where
 mem:=by simp
 obj:=λi h st b hb=>by
  have e:b=it:=by simpa using hb
  subst e;obtain ⟨o,e,c,d⟩:=st;exact ⟨o,e,λv z=>by rw [d] at z;cases z⟩
 keep:=λi h h' st k=>st.at λo e=>k it (by simp) o e
 item:=by
  intro X hP hw hK hc i pins s σ H E I hf st hg;subst hP hw hK;obtain ⟨xs,x,hq,hx⟩:=hg;obtain ⟨its,rv,p,hz⟩:=I.list hq;obtain ⟨u,hu,ru⟩:=rv.get hx;obtain ⟨f0,f1,f2,f3,f4,f5⟩:=hf it (by simp);refine wpAny_pyNext_list_item st p.isList (x:=u) (by simpa using hu) λh' st' sb=>?_;have I1:Inv X pins σ H { s with heap:=h' }:=I.turned (t':=s.toks) (λb o hb e=>(sb.2 b hb).trans e) f0 f1 f3 f4 f5;obtain ⟨o,e,c,d⟩:=id st';exact ⟨u,rfl,LC (s:={ s with heap:=h' }) e c d (by decide) ⟨x,H,I1,ru,⟨rfl,λys hy=>by rw [I.list_inj hy hq];exact hx⟩,st',λb hb=>(hf b hb).1⟩⟩
 done:=by
  intro X hP hw hK hc i pins s σ H E I hf st hg;subst hP hw hK;obtain ⟨xs,hq,hx⟩:=hg;obtain ⟨its,rv,p,hz⟩:=I.list hq;obtain ⟨f0,f1,f2,f3,f4,f5⟩:=hf it (by simp);have hl:=rv.length;exact wpAny_pyNext_list_end (I.ok.hd hc) st p.isList (by simp;lia) λh' eb=>⟨rfl,I.turned (t':=s.toks) (λb o hb e=>eb b o hb e) f0 f1 f3 f4 f5⟩
 self:=λ_ _ _ _ _ st h=>wpAny_pyIter_listiter st h
theorem Py (a it:Addr):Turn P w K tg (Itt K a) [it] it (λi h=>h.IsTupleIter it a i) where
 mem:=by simp
 obj:=λi h st b hb=>by
  have e:b=it:=by simpa using hb
  subst e;obtain ⟨o,e,c,d⟩:=st;exact ⟨o,e,λv z=>by rw [d] at z;cases z⟩
 keep:=λi h h' st k=>st.at λo e=>k it (by simp) o e
 item:=by
  intro X hP hw hK hc i pins s σ H E I hf st hg;subst hP hw hK;obtain ⟨xs,x,hq,hx⟩:=hg;obtain ⟨its,rv,p,hz⟩:=I.tuple hq;obtain ⟨u,hu,ru⟩:=rv.get hx;obtain ⟨f0,f1,f2,f3,f4,f5⟩:=hf it (by simp);refine wpAny_pyNext_tuple_item st (show s.heap.IsTuple a its.toArray from p) (x:=u) (by simpa using hu) λh' st' sb=>?_;have I1:Inv X pins σ H { s with heap:=h' }:=I.turned (t':=s.toks) (λb o hb e=>(sb.2 b hb).trans e) f0 f1 f3 f4 f5;obtain ⟨o,e,c,d⟩:=id st';exact ⟨u,rfl,LC (s:={ s with heap:=h' }) e c d (by decide) ⟨x,H,I1,ru,⟨rfl,λys hy=>by rw [I.tuple_inj hy hq];exact hx⟩,st',λb hb=>(hf b hb).1⟩⟩
 done:=by
  intro X hP hw hK hc i pins s σ H E I hf st hg;subst hP hw hK;obtain ⟨xs,hq,hx⟩:=hg;obtain ⟨its,rv,p,hz⟩:=I.tuple hq;obtain ⟨f0,f1,f2,f3,f4,f5⟩:=hf it (by simp);have hl:=rv.length;exact wpAny_pyNext_tuple_end (I.ok.hd hc) st (show s.heap.IsTuple a its.toArray from p) (by simp;lia) λh' eb=>⟨rfl,I.turned (t':=s.toks) (λb o hb e=>eb b o hb e) f0 f1 f3 f4 f5⟩
 self:=λ_ _ _ _ _ st h=>wpAny_pyIter_tupleiter st h
theorem Px (it:Addr)(lo:Int)(n:Nat):Turn P w K tg (Itr lo n) [it] it (λi h=>IsRangeIter h it (lo + (i:Nat) * 1) ((n:Int) - (i:Nat)) 1) where
 mem:=by simp
 obj:=λi h st b hb=>by
  have e:b=it:=by simpa using hb
  subst e;exact ⟨_,st,λv z=>by
   have z':Data.fields _=Data.cell v:=z
   cases z'⟩
 keep:=λi h h' st k=>k it (by simp) _ st
 item:=by
  intro X hP hw hK hc i pins s σ H E I hf st hg;subst hP hw hK;obtain ⟨f0,f1,f2,f3,f4,f5⟩:=hf it (by simp);have W:=Walks.range (prog:=X.prog) (w:=X.w) (I.ok.hd hc) it lo 1 n;refine W.item i s _ _ hg st λv h' tk hv st' kk=>?_;obtain ⟨t,rfl⟩:=hv;have I1:Inv X pins σ H { s with heap:=h',toks:=tk }:=I.turned (λb o hb e=>kk b o (by simpa using hb) e) f0 f1 f3 f4 f5;refine ⟨_,rfl,LC (s:={ s with heap:=h',toks:=tk }) (n:="range_iterator") st' rfl rfl (by decide) ⟨.int (lo + i),H,I1,⟨t,?_⟩,⟨rfl,rfl⟩,st',λb hb=>(hf b hb).1⟩⟩;rw [Int.mul_one]
 done:=by
  intro X hP hw hK hc i pins s σ H E I hf st hg;subst hP hw hK;obtain ⟨f0,f1,f2,f3,f4,f5⟩:=hf it (by simp);exact wpAny_pyNext_range_end (I.ok.hd hc) st (by have:n<=i:=hg;lia) λh' eb=>⟨rfl,I.turned (t':=s.toks) (λb o hb e=>eb b o hb e) f0 f1 f3 f4 f5⟩
 self:=λ_ _ _ _ _ st h=>wpAny_pyIter_rangeiter st h
variable {fp:List Addr}
section
variable {X:Cx}{tg:Expr}
theorem Nm {R:It->Hp->Prop}{lo hi:Int}{t u v:Tok}{tk:Nat}(I:Inv X pins σ H s)(h1 : -(2 ^ 62)<=lo)(h2:lo < 2 ^ 62)(h3 : -(2 ^ 62)<=hi)(h4:hi < 2 ^ 62)
 (q:R (Itr lo (hi - lo).toNat) H):wpAny (model X.prog X.w) X.A (pyIter (.ref s.heap.objs.size)) (PIE X pins σ tg R) E { s with heap:=s.heap.push { cls:=.type "range",data:=.fields #[.int lo t,.int hi u,.int 1 v] },toks:=tk }:=by
 refine wpAny_pyIter_range (IsRange.new ..) (small_one h1 h2 h3 h4) ?_;have I1:Inv X pins σ H { s with heap:=s.heap.push { cls:=.type "range",data:=.fields #[.int lo t,.int hi u,.int 1 v] },toks:=tk }:=I.kept λb o e=>uc1 _ e;refine ⟨(s.heap.push { cls:=.type "range",data:=.fields #[.int lo t,.int hi u,.int 1 v] }).objs.size,[(s.heap.push { cls:=.type "range",data:=.fields #[.int lo t,.int hi u,.int 1 v] }).objs.size],_,_,H,rfl,
  I1.kept (t':=tk) λb o e=>uc1 _ e,Px _ lo (hi - lo).toNat,?_,λb hb=>?_,q⟩
 ·have e1:lo + ((0:Nat):Int) * 1=lo:=by simp
  have e2:(((hi - lo).toNat:Nat):Int) - ((0:Nat):Int)=Builtin.Range.rangeSize lo hi 1:=by rw [rangeSize_one];split <;> lia
  show IsRangeIter _ _ (lo + ((0:Nat):Int) * 1) ((((hi - lo).toNat:Nat):Int) - ((0:Nat):Int)) 1;rw [e1,e2];exact ue1 _ rfl
 ·have e:b=(s.heap.push { cls:=.type "range",data:=.fields #[.int lo t,.int hi u,.int 1 v] }).objs.size:=by simpa using hb
  subst e;exact I1.fpOk (un5 _) (I1.hok.fresh (un5 _))
def ZI (ta:TA):TI:=λσ H R=>ta σ H λvs H1=>∃j:Int,vs=[.int j]/\-(2 ^ 62)<=j/\j < 2 ^ 62/\R (Itr 0 j.toNat) H1
def ZJ (ta:TA):TI:=λσ H R=>ta σ H λvs H1=>∃i j:Int,vs=[.int i,.int j]/\(-(2 ^ 62)<=i/\i < 2 ^ 62/\-(2 ^ 62)<=j/\j < 2 ^ 62)/\R (Itr i (j - i).toNat) H1
theorem Rg {a:Expr}{ta:TA}{p pos:Pos}(hg:Gl X "range")(hm:X.mg "range" = none)(ha:PA X [a] ta)(hs:starEach [a] X.env=[(false,eval a X.env)]:=by rfl):PI X tg (.Call (.Name "range" p) [a] [] pos) (ZI ta):=by
 intro pins s σ H R I h;refine Call_ (Ha I hg hm boot_range (ua4 (thn (ha pos pins s σ H _ I h) λus s1 z9=>?_) hs rfl));obtain ⟨vs,H1,I1,r1,q1⟩:=z9;obtain ⟨j,e,q1,q2,q⟩:=q1;subst e
 cases r1 with
 | cons r rr=>
   cases rr
   obtain ⟨t,rfl⟩:=r;exact call_range_1 (Nm I1 (by lia) (by lia) q1 q2 (by simpa using q))
theorem Rh {a b:Expr}{ta:TA}{p pos:Pos}(hg:Gl X "range")(hm:X.mg "range" = none)(ha:PA X [a,b] ta)(hs:starEach [a,b] X.env=[(false,eval a X.env),(false,eval b X.env)]:=by rfl)(hs2:starEach [b] X.env=[(false,eval b X.env)]:=by rfl) :
 PI X tg (.Call (.Name "range" p) [a,b] [] pos) (ZJ ta):=by
 intro pins s σ H R I h;refine Call_ (Ha I hg hm boot_range (ua4 (thn (ha pos pins s σ H _ I h) λus s1 z9=>?_) (by rw [hs,hs2]) (by rw [hs2];rfl)));obtain ⟨vs,H1,I1,r1,q1⟩:=z9;obtain ⟨i,j,e,⟨q1,q2,q3,q4⟩,q⟩:=q1;subst e
 cases r1 with
 | cons r rr=>
   cases rr with
   | cons r' rr=>
     cases rr
     obtain ⟨t,rfl⟩:=r;obtain ⟨t',rfl⟩:=r';exact call_range_2 (Nm I1 q1 q2 q3 q4 q)
def Y9 (wi:TI)(g:TG)(tb:TS):TS:=λD σ H=>wi σ H λJ H1=>∃W:Nat->Nat->St->Hp->Prop,(∃m,W 0 m σ H1)/\∀i m σ H,W i m σ H->
 (J.stop i H/\D.nx σ H)\/(J.go i H/\∃N:St->Hp->Prop,(∀σ' H',N σ' H'->∃m',m' < m/\W (i + 1) m' σ' H')/\∀x H',J.yld i H x H'->g x σ H' λσ2 H2=>tb { D with nx:=N,ct:=N,bk:=D.nx } σ2 H2)
noncomputable def Hh (fp:List Addr)(h:Heap):List (Addr×Obj):=fp.filterMap λb=>(h.get? b).map λo=>(b,o)
theorem E5 {o:Obj}(hb:b∈fp)(e:h.get? b=some o):(b,o)∈Hh fp h:=List.mem_filterMap.mpr ⟨b,hb,by rw [e];rfl⟩
theorem Q5 {p:Addr×Obj}(hp:p∈Hh fp h):p.1∈fp/\h.get? p.1=some p.2:=by
 obtain ⟨b,hb,e⟩:=List.mem_filterMap.mp hp
 cases q:h.get? b with
 | none=>rw [q] at e;cases e
 | some o=>
   rw [q] at e;have e':(b,o)=p:=ui9 e;subst e';exact ⟨hb,q⟩
theorem Inv.pinned (I:Inv X pins σ H s)(hf:∀b∈fp,FpOk X pins H b)(ho:∀b∈fp,∃o,s.heap.get? b=some o/\∀v,o.data≠.cell v):Inv X (pins++Hh fp s.heap) σ H s:=
 I.pins_of λp hp=>(ui8.mp hp).elim (λz=>I.pin p (uc8 _ z)) λz=>by
  obtain ⟨hb,e⟩:=Q5 z;obtain ⟨f0,f1,f2,_⟩:=hf p.1 hb;obtain ⟨o,e',d⟩:=ho p.1 hb;rw [e] at e';cases e'
  exact ⟨e,f0,f1,f2,d⟩
theorem Inv.unpinned {pl:List (Addr×Obj)}(I:Inv X (pins++pl) σ H s):Inv X pins σ H s:=I.pins_of λp hp=>I.pin p (uc8 _ (ud6 _ hp))
theorem YF {iter:Expr}{body:List Stmt}{wi:TI}{g:TG}{tb:TS}{pos:Pos}(hp:PassesOwn (model X.prog X.w) X.A X.env X.xe)(hc:X.calm=true)(hi:PI X tg iter wi)(hg:PG X tg g)(hb:PSs X body tb)
 (hs:∀x,foldedSetIterable iter X.env x=pure x:=by intro _;rfl):PS X (.For tg iter body [] pos) (Y9 wi g tb):=by
 intro pins s σ H D I h;refine wpAny_For (thn (hi pins s σ H _ I h) λv s1 h1=>thn h1 λitv s2 h2=>?_) hs;obtain ⟨it,fp,tn,J,H2,e,I2,T,st2,f2,W,⟨m0,w0⟩,turn⟩:=h2;subst e
 -- what stays true of the iterator's objects through the loop
 have stat:∀{H':Hp},(∀b∈fp,H' b=none)->∀b∈fp,FpOk X pins H' b:=λhn b hb=>⟨hn b hb,(f2 b hb).2⟩;refine codeAny_forLoop_any (λn s'=>∃i σ' H',Inv X pins σ' H' s'/\tn i s'.heap/\(∀b∈fp,H' b=none)/\W i n σ' H') ?_ m0 ⟨0,σ,H2,I2,st2,λb hb=>(f2 b hb).1,w0⟩;rintro n s3 ⟨i,σ3,H3,I3,st3,fr3,w3⟩;rcases turn i n σ3 H3 w3 with ⟨stop,qn⟩ | ⟨go,N,hN,step⟩
 ·refine wpAny_passesOwn hp (thn (T.done X rfl rfl rfl hc i pins s3 σ3 H3 X.xe I3 (stat fr3) st3 stop) λr s4 z9=>?_);obtain ⟨hr,I4⟩:=z9;subst hr;exact wpAny_execs_nil ⟨σ3,H3,I4,qn⟩
 ·refine wpAny_passesOwn hp (thn (T.item X rfl rfl rfl hc i pins s3 σ3 H3 X.xe I3 (stat fr3) st3 go) λr s4 z9=>?_);obtain ⟨u,hr,h4⟩:=z9;subst hr;refine wpAny_passesOwn hp (thn h4 λ_ s5 z9=>?_);obtain ⟨x,H5,I5,r5,y5,st5,fr5⟩:=z9;have I5':=I5.pinned (stat fr5) (T.obj _ _ st5);refine wpAny_passesOwn hp (thn (hg _ s5 σ3 H5 x u _ I5' r5 (step x H5 y5)) λ_ s6 z9=>?_);obtain ⟨σ6,H6,I6,q6⟩:=z9;refine wpAny_passesOwn hp (thn (hb _ s6 σ6 H6 _ I6 q6) λf s7 q7=>?_);have again:∀{σ7:St} {H7:Hp},Inv X (pins++Hh fp s5.heap) σ7 H7 s7->N σ7 H7->∃m,m < n/\∃i σ' H',Inv X pins σ' H' s7/\tn i s7.heap/\(∀b∈fp,H' b=none)/\W i m σ' H':=λ{σ7 H7} I7 n7=>by
   obtain ⟨m',hm,w7⟩:=hN σ7 H7 n7;refine ⟨m',hm,i + 1,σ7,H7,I7.unpinned,T.keep _ _ _ st5 λb hb o e=>(I7.pin (b,o) (uc8 _ (uc8 _ (E5 hb e)))).1,λb hb=>?_,w7⟩;obtain ⟨o,e,d⟩:=T.obj _ _ st5 b hb;exact (I7.pin (b,o) (uc8 _ (uc8 _ (E5 hb e)))).2.1
  cases f with
  | next=>obtain ⟨σ7,H7,I7,n7⟩:=q7;exact again I7 n7
  | cont=>obtain ⟨σ7,H7,I7,n7⟩:=q7;exact again I7 n7
  | brk=>obtain ⟨σ7,H7,I7,q7⟩:=q7;exact ⟨σ7,H7,I7.unpinned,q7⟩
  | ret v=>obtain ⟨x7,σ7,H7,I7,r7,q7⟩:=q7;exact ⟨x7,σ7,H7,I7.unpinned,r7,q7⟩
end
abbrev R2:=V->V->Hp->VK->Prop
def OpR (X:Cx)(f:Value->Value->Sem Value)(r:R2):Prop:=
 ∀(pins:List (Addr×Obj)) (s:Shared) (σ:St) (H:Hp) (x y:V) (v u:Value) (Q:VK),Inv X pins σ H s->RelV x v->RelV y u->r x y H Q->
  wpAny (model X.prog X.w) X.A (f v u) (EP X pins σ Q) X.xe s
def Cm (X:Cx)(f:Value)(r:List V->Hp->VK->Prop):Prop:=
 ∀(pins:List (Addr×Obj)) (s:Shared) (σ:St) (H:Hp) (xs:List V) (us:List Value) (Q:VK),Inv X pins σ H s->Vals xs us->r xs H Q->
  wpAny (model X.prog X.w) X.A (call f us) (EP X pins σ Q) X.xe s
def tOp (r:R2)(ta tb:TE):TE:=λσ H Q=>ta σ H λx H1=>tb σ H1 λy H2=>r x y H2 Q
def rI (C:Int->Int->Prop)(g:Int->Int->V):R2:=λx y H Q=>∃i j,x = .int i/\y = .int j/\C i j/\Q (g i j) H
def rI0 (g:Int->Int->V):R2:=λx y H Q=>∃i j,x = .int i/\y = .int j/\Q (g i j) H
variable {r:R2}{f:Value->Value->Sem Value}
section
variable {X:Cx}{a b c:Expr}{ta tb tc:TE}{pos:Pos}
theorem Sg (ha:PE X a ta)(hb:PE X b tb){pins:List (Addr×Obj)}{s:Shared}{σ:St}{H:Hp}{R:V->V->Hp->Prop}(I:Inv X pins σ H s)
 (h:ta σ H λx H1=>tb σ H1 λy H2=>R x y H2) {Q:Value->Shared->Prop} {f:Value->Value->Sem Value}
 (hf:∀v u s2 x y H2,Inv X pins σ H2 s2->RelV x v->RelV y u->R x y H2->wpAny (model X.prog X.w) X.A (f v u) Q X.xe s2) :
 wpAny (model X.prog X.w) X.A (eval a X.env) (λv s₁=>wpAny (model X.prog X.w) X.A (eval b X.env) (λu s₂=>wpAny (model X.prog X.w) X.A (f v u) Q X.xe s₂) X.xe s₁) X.xe s:=by
 refine thn (ha pins s σ H _ I h) λv s1 z9=>?_;obtain ⟨x,H1,I1,r1,q1⟩:=z9;refine thn (hb pins s1 σ H1 _ I1 q1) λu s2 z9=>?_;obtain ⟨y,H2,I2,r2,q2⟩:=z9;exact hf v u s2 x y H2 I2 r1 r2 q2
theorem Pi {op:Operator}(ho:OpR X (binaryOp op) r)(ha:PE X a ta)(hb:PE X b tb):PE X (.BinOp a op b pos) (tOp r ta tb):=by
 intro pins s σ H Q I h;exact wpAny_BinOp (Sg ha hb I h λv u s2 x y H2 I2 rx ry q=>ho pins s2 σ H2 x y v u Q I2 rx ry q)
theorem opI {C:Int->Int->Prop}{g:Int->Int->Int}
 (rule:∀(i j:Int) (t u:Tok) (s:Shared) (Q:Value->Shared->Prop) (E:Value->Shared->Prop),C i j->Q (.int (g i j) s.toks) { s with toks:=s.toks + 1 }->wpAny (model X.prog X.w) X.A (f (.int i t) (.int j u)) Q E s) :
 OpR X f (rI C λi j=>.int (g i j)):=by
 intro pins s σ H x y v u Q I rx ry h;obtain ⟨i,j,rfl,rfl,hc,q⟩:=h;obtain ⟨t,rfl⟩:=rx;obtain ⟨t',rfl⟩:=ry;exact rule i j t t' s _ _ hc ⟨.int (g i j),H,I.tok _,⟨_,rfl⟩,q⟩
theorem Yk {g:Int->Int->Int}
 (rule:∀(i j:Int) (t u:Tok) (s:Shared) (Q:Value->Shared->Prop) (E:Value->Shared->Prop),Q (.int (g i j) s.toks) { s with toks:=s.toks + 1 }->wpAny (model X.prog X.w) X.A (f (.int i t) (.int j u)) Q E s) :
 OpR X f (rI0 λi j=>.int (g i j)):=by
 intro pins s σ H x y v u Q I rx ry h;obtain ⟨i,j,rfl,rfl,q⟩:=h;obtain ⟨t,rfl⟩:=rx;obtain ⟨t',rfl⟩:=ry;exact rule i j t t' s _ _ ⟨.int (g i j),H,I.tok _,⟨_,rfl⟩,q⟩
theorem Ph {g:Int->Int->Bool}
 (rule:∀(i j:Int) (t u:Tok) (s:Shared) (Q:Value->Shared->Prop) (E:Value->Shared->Prop),Q (.bool (g i j)) s->wpAny (model X.prog X.w) X.A (f (.int i t) (.int j u)) Q E s) :
 OpR X f (rI0 λi j=>.bl (g i j)):=by
 intro pins s σ H x y v u Q I rx ry h;obtain ⟨i,j,rfl,rfl,q⟩:=h;obtain ⟨t,rfl⟩:=rx;obtain ⟨t',rfl⟩:=ry;exact rule i j t t' s _ _ ⟨.bl (g i j),H,I,rfl,q⟩
def W7 (i j:Int):Prop:=0 < j/\j < 1073741824
def W8 (i j:Int):Prop:=0<=j/\j<=1000000/\i.natAbs < 2 ^ 64
def CMul (i j:Int):Prop:=(-(2 ^ 64) < i/\i < 2 ^ 64)\/(-(2 ^ 64) < j/\j < 2 ^ 64)
theorem CMul.ok {i j:Int}(h:CMul i j):IntMulOk i j:=by
 rcases h with ⟨h1,h2⟩ | ⟨h1,h2⟩
 ·exact .of_left (intBits_le_64 h1 h2)
 ·exact .of_right (intBits_le_64 h1 h2)
theorem two_pow_nn (k:Nat):(0:Int)<=2 ^ k:=by
 rw [two_pow_cast];exact Int.natCast_nonneg _
theorem op_add:OpR X (binaryOp .Add) (rI0 λi j=>.int (i + j)):=Yk λ_ _ _ _ _ _ _ q=>add_int q
theorem Yr:OpR X (binaryOp .Sub) (rI0 λi j=>.int (i - j)):=Yk λ_ _ _ _ _ _ _ q=>sub_int q
theorem Yo:OpR X (binaryOp .Mult) (rI CMul λi j=>.int (i * j)):=opI λ_ _ _ _ _ _ _ hc q=>mul_int q hc.ok
theorem VQ:OpR X (binaryOp .FloorDiv) (rI W7 λi j=>.int (i / j)):=opI λi j _ _ _ _ _ hc q=>by
 have h1:(0:Int) < j:=hc.1;have h2:j < 1073741824:=hc.2;exact floordiv_int (by lia) (by rw [ua6 i (by lia)];exact q) (.inl (PyProof.noPylong_small (by lia)))
theorem Yn:OpR X (binaryOp .Mod) (rI (λ_ j=>0 < j) λi j=>.int (i % j)):=opI λi j _ _ _ _ _ hc q=>by
 have h1:(0:Int) < j:=hc;exact mod_int' (by lia) (by rw [Int.fmod_eq_emod_of_nonneg i (by lia)];exact q)
theorem Yp:OpR X (binaryOp .Pow) (rI W8 λi j=>.int (i ^ j.toNat)):=opI λ_ _ _ _ _ _ _ hc q=>pow_int_small hc.1 hc.2.1 hc.2.2 q
theorem Yq:OpR X (binaryOp .RShift) (rI (λ_ j=>0<=j) λi j=>.int (i / 2 ^ j.toNat)):=opI λi j _ _ _ _ _ hc q=>
 rshift_int hc (by rw [ua6 i (two_pow_nn _)];exact q)
end
variable {op:CmpOp}{us:List Value}
section
variable {X:Cx}{a b c:Expr}{ta tb tc:TE}{pos:Pos}
theorem op_lt:OpR X (compareOp .Lt) (rI0 λi j=>.bl (decide (i < j))):=Ph λ_ _ _ _ _ _ _ q=>lt_int q
theorem op_le:OpR X (compareOp .LtE) (rI0 λi j=>.bl (decide (i<=j))):=Ph λ_ _ _ _ _ _ _ q=>le_int q
theorem op_gt:OpR X (compareOp .Gt) (rI0 λi j=>.bl (decide (j < i))):=Ph λ_ _ _ _ _ _ _ q=>gt_int q
theorem op_ge:OpR X (compareOp .GtE) (rI0 λi j=>.bl (decide (j<=i))):=Ph λ_ _ _ _ _ _ _ q=>ge_int q
theorem OpR.or {r':R2}(h:OpR X f r)(h':OpR X f r'):OpR X f (λx y H Q=>r x y H Q\/r' x y H Q):=by
 intro pins s σ H x y v u Q I rx ry q;rcases q with q | q
 ·exact h pins s σ H x y v u Q I rx ry q
 ·exact h' pins s σ H x y v u Q I rx ry q
theorem Cs (b:Expr){op:CmpOp}(h:op≠.In:=by decide)(h2:op≠.NotIn:=by decide):behindInMarks op b=false:=by
 have e1:(op == CmpOp.In)=false:=by cases op <;> first | rfl | exact absurd rfl h
 have e2:(op == CmpOp.NotIn)=false:=by cases op <;> first | rfl | exact absurd rfl h2
 cases b <;> simp [behindInMarks,e1,e2]
theorem V0 (ho:OpR X (compareOp op) r)(ha:PE X a ta)(hb:PE X b tb)(hm:behindInMarks op b=false):PE X (.Compare a [op] [b] pos) (tOp r ta tb):=by
 intro pins s σ H Q I h;exact wpAny_Compare1 (Sg ha hb I h λv u s2 x y H2 I2 rx ry q=>ho pins s2 σ H2 x y v u Q I2 rx ry q) hm
def Z6 (t:TE):TT:=λσ H Q=>t σ H λx H'=>∃k,x = .bl k/\Q k H'
theorem Wj (ho:OpR X (compareOp op) r)(ha:PE X a ta)(hb:PE X b tb)(hm:behindInMarks op b=false):PT X (.Compare a [op] [b] pos) (Z6 (tOp r ta tb)):=by
 intro pins s σ H Q I h;refine wpAny_isTrue_Compare1 (thn (ha pins s σ H _ I h) λv s1 ⟨x,H1,I1,r1,q1⟩=>thn (hb pins s1 σ H1 _ I1 q1) λu s2 ⟨y,H2,I2,r2,q2⟩=>
  thn (ho pins s2 σ H2 x y v u _ I2 r1 r2 q2) λc s3 ⟨z,H3,I3,r3,k,e,q3⟩=>?_) hm
 subst e
 cases r3
 exact wpAny_truthy_bool ⟨H3,I3,q3⟩
def RM (r r':R2)(ta tb tc:TE):TE:=λσ H Q=>ta σ H λx H1=>tb σ H1 λy H2=>r x y H2 λz H3=>∃k,z = .bl k/\
 (if k=true then tc σ H3 λw' H4=>r' y w' H4 Q else Q (.bl false) H3)
theorem Ty {op':CmpOp}{r':R2}(ho:OpR X (compareOp op) r)(ho':OpR X (compareOp op') r')(ha:PE X a ta)(hb:PE X b tb)(hc:PE X c tc)
 (hm:lastMarks [op,op'] [b,c]=false:=by with_unfolding_all rfl):PE X (.Compare a [op,op'] [b,c] pos) (RM r r' ta tb tc):=by
 intro pins s σ H Q I h;refine Compare_chain (thn (ha pins s σ H _ I h) λv s1 ⟨x,H1,I1,r1,q1⟩=>chain_link (thn (hb pins s1 σ H1 _ I1 q1) λu s2 ⟨y,H2,I2,r2,q2⟩=>
  thn (ho pins s2 σ H2 x y v u _ I2 r1 r2 q2) λd s3 ⟨z,H3,I3,r3,k,e,q3⟩=>?_)) hm
 subst e
 cases r3
 refine wpAny_truthy_bool ?_
 cases k with
 | false=>exact ite_ff ⟨.bl false,H3,I3,rfl,q3⟩
 | true=>exact ite_tt (chain_last (thn (hc pins s3 σ H3 _ I3 q3) λw' s4 z9=>by obtain ⟨z',H4,I4,r4,q4⟩:=z9;exact ho' pins s4 σ H4 y z' u w' Q I4 r2 r4 q4))
theorem Jz:(sizeLine:Nat) < 2 ^ 63:=by rw [sizeLine_eq];decide
theorem op_add_str:OpR X (binaryOp .Add) (λx y H Q=>∃i j,x = .str i/\y = .str j/\i.length + j.length<=sizeLine/\Q (.str (i++j)) H):=by
 intro pins s σ H x y v u Q I rx ry h;obtain ⟨i,j,rfl,rfl,hz,q⟩:=h;obtain ⟨t,rfl⟩:=rx;obtain ⟨t',rfl⟩:=ry;exact add_str (λt' tk=>⟨.str (i++j),H,I.tok _,⟨_,rfl⟩,q⟩) hz
theorem E7 {x:V}(r:Vals [x] us):∃u,us=[u]/\RelV x u:=by
 cases r with
 | cons r1 r2=>cases r2;exact ⟨_,rfl,r1⟩
theorem LG {x y:V}(r:Vals [x,y] us):∃u w',us=[u,w']/\RelV x u/\RelV y w':=by
 cases r with
 | cons r1 r2=>
   cases r2 with
   | cons r3 r4=>cases r4;exact ⟨_,_,rfl,r1,r3⟩
theorem P9 (hc:X.calm=true):Cm X (.builtin "min") (λxs H Q=>∃i j,xs=[.int i,.int j]/\Q (.int (if j < i then j else i)) H):=by
 intro pins s σ H xs us Q I r h;obtain ⟨i,j,rfl,q⟩:=h;obtain ⟨u,w',rfl,⟨t,rfl⟩,⟨t',rfl⟩⟩:=LG r;refine min_two_ints (I.ok.hd hc) λh' tk k=>⟨_,H,I.kept k,?_,q⟩
 by_cases hj:j < i
 ·rw [if_pos hj,if_pos hj];exact ⟨_,rfl⟩
 ·rw [if_neg hj,if_neg hj];exact ⟨_,rfl⟩
theorem P7:Cm X (.type "int") (λxs H Q=>(∃i,xs=[.int i]/\Q (.int i) H)\/∃k,xs=[.bl k]/\Q (.int (if k then 1 else 0)) H):=by
 intro pins s σ H xs us Q I r h;rcases h with ⟨i,rfl,q⟩ | ⟨k,rfl,q⟩
 ·obtain ⟨u,rfl,t,rfl⟩:=E7 r;exact call_int_int ⟨.int i,H,I,⟨_,rfl⟩,q⟩
 ·obtain ⟨u,rfl,r1⟩:=E7 r
  cases r1
  exact call_int_bool ⟨.int (if k then 1 else 0),H,I.tok _,⟨_,rfl⟩,q⟩
theorem Sk:Cm X (.builtin "ord") (λxs H Q=>∃x,xs=[.str x]/\x.length=1/\Q (.int (x.cps.getD 0 0:Nat)) H):=by
 intro pins s σ H xs us Q I r h;obtain ⟨x,rfl,hz,q⟩:=h;obtain ⟨u,rfl,t,rfl⟩:=E7 r;exact ord_of_one hz ⟨.int _,H,I.tok _,⟨_,rfl⟩,q⟩
def Xc (K:PySem.W.Frag)(x:V)(H:Hp)(n:Nat):Prop:=
 match x with
 | .str y=>y.length<=sizeLine/\n=y.length
 | .byt y=>y.size<=sizeLine/\n=y.size
 | .ref p=>(∃xs,SqL K H p xs/\n=xs.length)\/∃xs,SqT K H p xs/\n=xs.length
 | _=>False
theorem Sj:Cm X (.builtin "len") (λxs H Q=>∃x n,xs=[x]/\Xc X.K x H n/\Q (.int n) H):=by
 intro pins s σ H xs us Q I r h;obtain ⟨x,n,rfl,e,q⟩:=h;obtain ⟨u,rfl,rx⟩:=E7 r;have hl:=Jz;have hs:sizeLine=16777216:=sizeLine_eq
 cases x with
 | str y=>
   obtain ⟨t,rfl⟩:=rx;obtain ⟨hy,e'⟩:y.length<=sizeLine/\n=y.length:=e;subst e';exact len_str (by lia) ⟨.int _,H,I.tok _,⟨_,rfl⟩,q⟩
 | byt y=>
   obtain ⟨t,rfl⟩:=rx;obtain ⟨hy,e'⟩:y.size<=sizeLine/\n=y.size:=e;subst e';exact PySem.W.len_bytes (by lia) ⟨.int _,H,I.tok _,⟨_,rfl⟩,q⟩
 | ref p=>
   cases rx
   have e':(∃xs,SqL X.K H p xs/\n=xs.length)\/∃xs,SqT X.K H p xs/\n=xs.length:=e;rcases e' with ⟨xs,hx,e'⟩ | ⟨xs,hx,e'⟩
   ·subst e';obtain ⟨its,r',pl,hz⟩:=I.list hx;have hlen:=r'.length;exact Calls.call_len_list pl.isList (by simp only [uf9];lia) ⟨.int xs.length,H,I.tok _,⟨_,by simp only [uf9];rw [hlen]⟩,q⟩
   ·subst e';obtain ⟨its,r',pl,hz⟩:=I.tuple hx;have hlen:=r'.length;exact len_tuple pl (by simp only [uf9];lia) ⟨.int xs.length,H,I.tok _,⟨_,by simp only [uf9];rw [hlen]⟩,q⟩
 | _=>exact (show False from e).elim
end
structure ObjM (h:Heap)(x dx C:Addr)(mA:Str->Option Value):Prop where
 obj:h.get? x=some (PySem.W.instObj C dx)
 ns:h.Ns1 dx mA
 ne:dx≠x
theorem Hb {dx:Addr}{mA:Str->Option Value}(n:h.Ns1 dx mA):∃od,h.get? dx=some od/\∀name,PySem.W.lookIn name od=some (mA name):=by
 obtain ⟨o,es,ep,ho,hd,hk,_,hm⟩:=n;refine ⟨o,ho,λname=>?_⟩;have e:=hm name;unfold nsFind findBy at e;rw [<-uf1] at e;unfold PySem.W.lookIn;rw [hd];dsimp only
 split
 ·rename_i y q;rw [q] at e;exact congrArg some e
 ·rename_i q;rw [q] at e;have a:es.toList.any (·.refKey)=false:=by
   rw [List.any_eq_false];intro y hy;obtain ⟨z,t,hkey⟩:=hk y (Array.mem_toList_iff.mp hy);simp [DictEntry.refKey,hkey]
  have a':¬es.toList.any (·.refKey)=true:=by rw [a];exact uf0
  rw [if_neg a'];exact congrArg some e
variable {C:Addr}
theorem ObjM.look {x dx:Addr}{mA:Str->Option Value}(I:ObjM h x dx C mA):∃od,PySem.W.InstAt h x (PySem.W.instObj C dx) C (some od)/\∀name,PySem.W.lookIn name od=some (mA name):=
 let ⟨od,ho,hl⟩:=Hb I.ns
 ⟨od,⟨I.obj,rfl,rfl,ho⟩,hl⟩
variable {pl:Sem Bool}{kw:List (Str×Value)}
section
variable {prog:Program}{w:World}{A:Around}{E:Value->Shared->Prop}{s:Shared}{K:PySem.W.Frag}{x dx C f:Addr}{mA:Str->Option Value}{name:Str}{v:Value}
theorem Vq {expr:Bool}{Q:Value->Shared->Prop}(X:K.In s.heap)(I:ObjM s.heap x dx C mA)(hg:PySem.W.plainGet K C name=true)(hh:PySem.W.hasDictIn K C=true)
 (ha:PySem.W.findIn K (.ref C) name=some none) (hv:mA name=some v) (hv':PySem.W.handedIn v=true) (h:Q v { s with toks:=s.toks + 1 }) :
 wpAny (model prog w) A (getAttr (.ref x) name expr) Q E s:=by
 obtain ⟨od,J,hl⟩:=I.look;exact PySem.W.get_value X J (ue2 hg).1 (PySem.W.findObj_own hh ha rfl (by rw [hl,hv])) hv' h
theorem ST {Q:Value×List Value->Shared->Prop}(X:K.In s.heap)(I:ObjM s.heap x dx C mA)(hg:PySem.W.plainGet K C name=true)
 (hf:PySem.W.findIn K (.ref C) name=some (some (.ref f))) (ht:PySem.W.isFn K (.ref f)=true) (hv:mA name=none) (h:Q (.ref f,[.ref x]) s) :
 wpAny (model prog w) A (getMethod (.ref x) name pl) Q E s:=by
 obtain ⟨od,J,hl⟩:=I.look;exact PySem.W.method_fn X J (ue2 hg).1 (ue2 hg).2 hf (beq_iff_eq.mp ht) (by show (PySem.W.lookIn name od).map (·.isSome)=some false;rw [hl,hv];rfl) h
theorem WL {ns:List Str}(X:K.In s.heap)(I:ObjM s.heap x dx C mA)
 (hs:PySem.W.findIn K (.ref C) "__setattr__" = some (some (.builtin "object.__setattr__"))) (hp:PySem.W.plainOver K C=true) (ht:PySem.W.takerIn K C name=some none) (hh:PySem.W.hasDictIn K C=true)
 (hw:PySem.Within mA ns) (hsz:ns.length<=sizeLine)
 (h:∀h',ObjM h' x dx C (λy=>if y=name then some v else mA y)->Heap.SameBut dx s.heap h'->Q () { s with heap:=h',toks:=s.toks + 2 }) :
 wpAny (model prog w) A (setAttr (.ref x) name v) Q E s:=by
 obtain ⟨od,J,hl⟩:=I.look;refine PySem.W.set_plain X J hs (PySem.W.osa_open (s:={ s with toks:=s.toks + 1 }) (r:=none) X J hp ht λb=>?_);obtain ⟨cd,hc,hd'⟩:=PySem.W.any_some hh;have hx:s.heap.get? x=some ⟨.ref C,some dx,.plain,#[]⟩:=I.obj;refine un9 (uo0 (un9 (un9 (wpAny_loadPart hx (un9 (PySem.W.Looks.here (s:={ s with toks:=s.toks + 1 }) (PySem.W.looks_clsIn X hc) ?_))))));rw [hd'];refine uo0 (a:=some dx) (un9 (uo0 (un9 ?_)));refine wpAny_nsSet1 (s:={ s with toks:=s.toks + 1 }) I.ns λh' hn2 hs2=>?_;obtain ⟨oD,esD,epD,hoD,hdD,hcD⟩:=hn2.count (PySem.Within.cons name v hw);refine un9 (wpAny_lookBehind hoD (by rw [hdD];exact pastItsLine_dict (um4 hcD (by rw [uh2];lia))) ?_);exact uo0 (h _ ⟨(hs2.2 _ (Ne.symm I.ne)).trans I.obj,hn2,I.ne⟩ hs2)
theorem Tg {R:Result->Shared->Prop}{vs:List Value}(X:K.In s.heap)(hm:PySem.W.makesIn K C=true)
 (hi:PySem.W.findIn K (.ref C) "__init__" = some (some (.ref f))) (hf:PySem.W.typeIn K (.ref f)=some (.type "function"))
 (h:codeAny (model prog w) (A.under (.builtin "type.__call__" ⟨.ref C :: vs,kw⟩)) (.call (.ref f) ⟨.ref (s.heap.objs.size + 1) :: vs,kw⟩) (PySem.W.InitBack (s.heap.objs.size + 1) R)
   { s with heap:=(s.heap.push PySem.W.emptyDict).push (PySem.W.instObj C s.heap.objs.size) }) :
 codeAny (model prog w) A (.call (.ref C) ⟨vs,kw⟩) R s:=by
 obtain ⟨hh,g,d,t,os⟩:=s;exact PySem.W.make_core (PySem.W.makes_of X hm) (PySem.W.looks_findIn X hi) (λself=>PySem.W.bind_fn X self hf) (.inl rfl) h
end
noncomputable def CZ (f:Str)(v:V):List (Str×V)->List (Str×V)
 | []=>[(f,v)]
 | (g,x) :: r=>if g=f then (g,v) :: r else (g,x) :: CZ f v r
theorem Io (f g:Str)(v:V):∀fs:List (Str×V),(CZ f v fs).lookup g=if g=f then some v else fs.lookup g
 | []=>by
   show List.lookup g [(f,v)]=_
   by_cases h:g=f
   ·have hb:(g == f)=true:=beq_iff_eq.mpr h;simp only [List.lookup,hb,if_pos h]
   ·have hb:(g == f)=false:=beq_eq_false_iff_ne.mpr h;simp only [List.lookup,hb,if_neg h]
 | (k,x) :: r=>by
   have ih:=Io f g v r;rw [show CZ f v ((k,x) :: r)=(if k=f then (k,v) :: r else (k,x) :: CZ f v r) from rfl]
   by_cases hk:k=f
   ·rw [if_pos hk]
    by_cases h:g=k
    ·have hb:(g == k)=true:=beq_iff_eq.mpr h;simp only [List.lookup,hb,if_pos (h.trans hk)]
    ·have hb:(g == k)=false:=beq_eq_false_iff_ne.mpr h;simp only [List.lookup,hb,if_neg (λe:g=f=>h (e.trans hk.symm))]
   ·rw [if_neg hk]
    by_cases h:g=k
    ·have hb:(g == k)=true:=beq_iff_eq.mpr h;simp only [List.lookup,hb,if_neg (λe:g=f=>hk (h.symm.trans e))]
    ·have hb:(g == k)=false:=beq_eq_false_iff_ne.mpr h;simp only [List.lookup,hb];exact ih
theorem GZ (f:Str)(v:V):∀fs:List (Str×V),f∈(CZ f v fs).map (·.1)/\∀g,g∈fs.map (·.1)->g∈(CZ f v fs).map (·.1)
 | []=>⟨by simp [CZ],λg h=>by simp at h⟩
 | (k,x) :: r=>by
   obtain ⟨i1,i2⟩:=GZ f v r;rw [show CZ f v ((k,x) :: r)=(if k=f then (k,v) :: r else (k,x) :: CZ f v r) from rfl]
   by_cases hk:k=f
   ·rw [if_pos hk];subst hk;exact ⟨by simp,λg h=>by simpa using h⟩
   ·rw [if_neg hk];refine ⟨?_,λg h=>?_⟩
    ·rw [ul4];exact ud5 _ i1
    ·rw [ul4] at h ⊢;rcases ul3.mp h with e | e
     ·exact ul3.mpr (.inl e)
     ·exact ud5 _ (i2 g e)
theorem Ij (f:Str)(v:V):∀fs:List (Str×V),(CZ f v fs).length<=fs.length + 1
 | []=>by simp [CZ]
 | (k,x) :: r=>by
   have ih:=Ij f v r;rw [show CZ f v ((k,x) :: r)=(if k=f then (k,v) :: r else (k,x) :: CZ f v r) from rfl]
   by_cases hk:k=f
   ·rw [if_pos hk,uh2,uh2];lia
   ·rw [if_neg hk,uh2,uh2];lia
theorem RelO.some_of {o:Option Value}(r:RelO (some v) o):∃u,o=some u/\RelV v u:=by
 cases o with
 | none=>exact (show False from r).elim
 | some u=>exact ⟨u,rfl,r⟩
theorem RelO.none_of {o:Option Value}(r:RelO none o):o=none:=by
 cases o with
 | none=>rfl
 | some u=>exact (show False from r).elim
theorem KU (r:RelV v u):PySem.W.handedIn u=true:=by
 cases v with
 | non=>cases (show u=Value.none from r);rfl
 | bl b=>cases (show u=Value.bool b from r);rfl
 | int i=>obtain ⟨t,e⟩:=(show ∃t,u=Value.int i t from r);cases e;rfl
 | str x=>obtain ⟨t,e⟩:=(show ∃t,u=Value.str x t from r);cases e;rfl
 | byt b=>obtain ⟨t,e⟩:=(show ∃t,u=Value.bytes b t from r);cases e;rfl
 | flt b=>obtain ⟨t,e⟩:=(show ∃t,u=Value.float b t from r);cases e;rfl
 | ref a=>cases (show u=Value.ref a from r);rfl
 | ty n=>cases (show u=Value.type n from r);rfl
section
variable {P:Program}{w:World}{H H':Hp}{h h':Heap}{a C dx:Addr}{fs fs':List (Str×V)}
theorem HG (hok:HOk P w H h)(e:H a=some (.ins C dx fs)):∃mA,ObjM h a dx C mA/\(∀f,RelO (fs.lookup f) (mA f))/\PySem.Within mA (fs.map (·.1))/\fs.length<=1000/\H dx=some (.own a):=by
 obtain ⟨d,z,ne,ob,mA,n,r,q⟩:=(show ObjOk P w H h a (.ins C dx fs) from hok a _ e);exact ⟨mA,⟨ob,n,ne⟩,r,q,z,d⟩
end
structure Cls (K:PySem.W.Frag)(C:Addr):Prop where
 pg:PySem.W.plainGet K C Str.empty=true
 hd:PySem.W.hasDictIn K C=true
 po:PySem.W.plainOver K C=true
 sa:PySem.W.findIn K (.ref C) "__setattr__" = some (some (.builtin "object.__setattr__"))
theorem Cls.get {K:PySem.W.Frag}{C:Addr}(c:Cls K C)(f:Str):PySem.W.plainGet K C f=true:=c.pg
def NoAttr (K:PySem.W.Frag)(C:Addr)(f:Str):Prop:=PySem.W.findIn K (.ref C) f=some none
theorem NoAttr.taker {f:Str}(n:NoAttr K C f):PySem.W.takerIn K C f=some none:=by
 unfold PySem.W.takerIn;rw [show PySem.W.findIn K (.ref C) f=some none from n];rfl
structure Con (K:PySem.W.Frag)(C:Addr)(f:Str)(v:V)(u:Value):Prop where
 at_:PySem.W.findIn K (.ref C) f=some (some u)
 rel:RelV v u
 get:PySem.W.specialIn K u "__get__" = some none
 cp:PySem.W.copiedNames.contains f=false
structure Meth (K:PySem.W.Frag)(C:Addr)(m:Str)(f:Addr):Prop where
 at_:PySem.W.findIn K (.ref C) m=some (some (.ref f))
 fn:PySem.W.isFn K (.ref f)=true
 kp:PySem.W.keepIn K (.ref f)=true
section
variable {X:Cx}{pins:List (Addr×Obj)}{σ:St}{H:Hp}{s:Shared}{a C dx:Addr}{fs:List (Str×V)}{f:Str}{v:V}{A:Around}{E:Value->Shared->Prop}
theorem O2 {b:Bool}{Q:Value->Shared->Prop}(I:Inv X pins σ H s)(e:H a=some (.ins C dx fs))(c:Cls X.K C)(n:NoAttr X.K C f)(l:fs.lookup f=some v)
 (h:∀u s',Inv X pins σ H s'->RelV v u->Q u s'):wpAny (model X.prog X.w) A (getAttr (.ref a) f b) Q E s:=by
 obtain ⟨mA,O,r,_,_,_⟩:=HG I.hok e;obtain ⟨u,hu,ru⟩:=RelO.some_of (v:=v) (o:=mA f) (by rw [<-l];exact r f);exact Vq I.kIn O (c.get f) c.hd n hu (KU ru) (h u _ (I.tok _) ru)
theorem Gn {m:Str}{g:Addr}{Q:Value×List Value->Shared->Prop}(I:Inv X pins σ H s)(e:H a=some (.ins C dx fs))(c:Cls X.K C)(k:Meth X.K C m g)(l:fs.lookup m=none)
 (h:Q (.ref g,[.ref a]) s):wpAny (model X.prog X.w) A (getMethod (.ref a) m pl) Q E s:=by
 obtain ⟨mA,O,r,_,_,_⟩:=HG I.hok e;have hn:mA m=none:=RelO.none_of (by rw [<-l];exact r m);exact ST I.kIn O (c.get m) k.at_ k.fn hn h
theorem Pv {y:V}(I:Inv X pins σ H s)(e:H a=some (.ins C dx fs))(c:Cls X.K C)(n:NoAttr X.K C f)(hl:fs.length < 1000)(ry:RelV y u)
 (h:∀s',Inv X pins σ (upd H a (.ins C dx (CZ f y fs))) s'->Q () s'):wpAny (model X.prog X.w) A (setAttr (.ref a) f u) Q E s:=by
 obtain ⟨mA,O,r,wi,_,ho⟩:=HG I.hok e;have hz:(fs.map (·.1)).length<=sizeLine:=by rw [uj0,sizeLine_eq];lia
 refine WL I.kIn O c.sa c.po n.taker c.hd wi hz λh' O' sb=>h _ ?_;have hd:∃o,h'.get? dx=some o:=let ⟨o,_,_,e',_⟩:=O'.ns;⟨o,e'⟩;refine I.write (x:=a) (e:=dx) (by rw [e];exact True.intro) (.inr ho) (λb q hb z=>(sb.2 b hb).trans z) hd ?_;refine ⟨by rw [Ai O.ne];exact ho,?_,O.ne,O'.obj,_,O'.ns,λg=>?_,λg hg=>?_⟩
 ·have:=Ij f y fs;lia
 ·show RelO ((CZ f y fs).lookup g) (if g=f then some u else mA g);rw [Io]
  by_cases q:g=f
  ·rw [if_pos q,if_pos q];exact ry
  ·rw [if_neg q,if_neg q];exact r g
 ·by_cases q:g=f
  ·rw [q];exact (GZ f y fs).1
  ·refine (GZ f y fs).2 g (wi g λz=>hg ?_);show (if g=f then some u else mA g)=none;rw [if_neg q];exact z
theorem Inv.made (I:Inv X pins σ H s):Inv X pins σ (upd (upd H s.heap.objs.size (.own (s.heap.objs.size + 1))) (s.heap.objs.size + 1) (.ins C s.heap.objs.size []))
 { s with heap:=(s.heap.push PySem.W.emptyDict).push (PySem.W.instObj C s.heap.objs.size) }:=by
 have e1:(s.heap.push PySem.W.emptyDict).get? s.heap.objs.size=some PySem.W.emptyDict:=ue1 s.heap rfl;have e2:((s.heap.push PySem.W.emptyDict).push (PySem.W.instObj C s.heap.objs.size)).get? (s.heap.objs.size + 1)=some (PySem.W.instObj C s.heap.objs.size):=by
  have:=ue1 (s.heap.push PySem.W.emptyDict) (o:=PySem.W.instObj C s.heap.objs.size) rfl
  rwa [Heap.size_push] at this
 have e3:(s.heap.push PySem.W.emptyDict).Ns s.heap.objs.size (λ_=>none):=⟨PySem.W.emptyDict,#[],_,e1,rfl,(λe he=>absurd he (by simp)),λ_=>rfl⟩;have I1:=I.laid (a:=s.heap.objs.size) (o:=.own (s.heap.objs.size + 1)) (h':=s.heap.push PySem.W.emptyDict) (t':=s.toks) (λb u q=>uc1 _ q) (un5 _) ⟨_,e1⟩;refine I1.laid (a:=s.heap.objs.size + 1) (o:=.ins C s.heap.objs.size []) (t':=s.toks) (λb u q=>uc1 _ q) (um7 (Heap.size_push _ _)) ?_;have ne:s.heap.objs.size≠s.heap.objs.size + 1:=um3 (uh3 _);refine ⟨by rw [Ai ne,Ar],un6 _,ne,e2,λ_=>none,(Heap.Ns1.of_empty e3).at λo q=>uc1 _ q,λ_=>True.intro,λy hy=>absurd rfl hy⟩
theorem NS {prog:Program}{env:Env}{f:Str}{pos:Pos}{s:Shared}{Q:Value->Shared->Prop}(hb:attributeBase e f env (eval e env)=eval e env)
 (h:wpAny (model prog w) A (eval e env) (λo s₁=>wpAny (model prog w) A (getAttr o f true) Q E s₁) E s):wpAny (model prog w) A (eval (.Attribute e f pos) env) Q E s:=
 Attribute_any_ h (by rw [arm_eval_Attribute,hb])
end
def bI (K:PySem.W.Frag)(ta:TE)(f:Str):TE:=λσ H Q=>ta σ H λx H1=>∃a C dx fs v,x = .ref a/\H1 a=some (.ins C dx fs)/\Cls K C/\NoAttr K C f/\fs.lookup f=some v/\Q v H1
def bD (K:PySem.W.Frag)(ta tv:TE)(f:Str):TS:=λD σ H=>tv σ H λy H1=>ta σ H1 λx H2=>∃a C dx fs,x = .ref a/\H2 a=some (.ins C dx fs)/\Cls K C/\NoAttr K C f/\fs.length < 1000/\
 D.nx σ (upd H2 a (.ins C dx (CZ f y fs)))
section
variable {X:Cx}{o e value:Expr}{f:Str}{pos pos' tpos:Pos}{ta tv:TE}
theorem Yu (he:PE X e ta)(hb:attributeBase e f X.env (eval e X.env)=eval e X.env):PE X (.Attribute e f pos) (bI X.K ta f):=by
 intro pins s σ H Q I h;refine NS hb (thn (he pins s σ H _ I h) λu s1 z9=>?_);obtain ⟨x,H1,I1,rx,a,C,dx,fs,v,ex,ea,c,n,l,q⟩:=z9;subst ex;obtain rfl:u=Value.ref a:=rx;exact O2 I1 ea c n l λu' s2 I2 ru=>⟨v,H1,I2,ru,q⟩
theorem YE (ha:PE X o ta)(hv:PE X value tv)(hs:swapsWith value (some (.Attribute o f pos')) pos.line X.env=pure false):PS X (.Assign [.Attribute o f pos'] value pos) (bD X.K ta tv f):=by
 intro pins s σ H D I h;refine plainObj_wpAny_Assign_Attribute (thn (hv pins s σ H _ I h) λu s1 ⟨y,H1,I1,ry,q⟩=>thn (ha pins s1 σ H1 _ I1 q) λov s2 z9=>?_) hs;obtain ⟨x,H2,I2,rx,a,C,dx,fs,ex,ea,c,n,l,q2⟩:=z9;subst ex;obtain rfl:ov=Value.ref a:=rx;exact Pv I2 ea c n l ry λs3 I3=>⟨σ,_,I3,q2⟩
end
section
variable {X:Cx}{pins:List (Addr×Obj)}{σ:St}{H:Hp}{s:Shared}{A:Around}{E:Value->Shared->Prop}{Q:Value->Shared->Prop}{c:Value}{b:Bool}
inductive TyOf (K:PySem.W.Frag)(H:Hp):V->Value->Prop where
 | non:TyOf K H .non (.type "NoneType")
 | bl (x:Bool):TyOf K H (.bl x) (.type "bool")
 | int (i:Int):TyOf K H (.int i) (.type "int")
 | str (x:Str):TyOf K H (.str x) (.type "str")
 | flt (x:UInt64):TyOf K H (.flt x) (.type "float")
 | lst {a:Addr} {xs:List V} (e:H a=some (.lst xs)):TyOf K H (.ref a) (.type "list")
 | frz {a:Addr} {o:Obj} {xs:List V} (e:H a=some (.frz o (.lst xs))):TyOf K H (.ref a) (.type "list")
 | tup {a:Addr} {xs:List V} (e:H a=some (.tup xs)):TyOf K H (.ref a) (.type "tuple")
 | dK {a:Addr} {kvs:List (Key×V)} (e:H a=some (.dK kvs)):TyOf K H (.ref a) (.type "dict")
 | dT {a:Addr} {kvs:List (List Key×V)} (e:H a=some (.dT kvs)):TyOf K H (.ref a) (.type "dict")
 | ins {a C dx:Addr} {fs:List (Str×V)} (e:H a=some (.ins C dx fs)) (cl:Cls K C) (ha:PySem.W.findIn K (.ref C) "__class__" = some (some (.builtin "object.__class__")))
    (hn:PySem.W.specialIn K (.builtin "object.__class__") "__get__" = some (some (.builtin "getset_descriptor.__get__"))) (htk:PySem.W.takesIn K (.builtin "object.__class__")=some true)
    (hm:PySem.W.mroIn K C (.type "object")=some true):TyOf K H (.ref a) (.ref C)
theorem QO {x:V}{t:Value}(I:Inv X pins σ H s)(rx:RelV x u)(ty:TyOf X.K H x t)(e:PySem.W.kitOne X.K t c=some b)(h:∀tk,Q (.bool b) { s with toks:=tk }) :
 wpAny (model X.prog X.w) A (call (.builtin "isinstance") [u,c]) Q E s:=by
 cases ty with
 | non=>cases (show u=Value.none from rx);exact uj1 PySem.W.kitx_none I.kIn True.intro e (λz=>nomatch z) h
 | bl y=>cases (show u=Value.bool y from rx);exact uj1 PySem.W.kitx_bool I.kIn True.intro e (λz=>nomatch z) h
 | int i=>obtain ⟨t,q⟩:=(show ∃t,u=Value.int i t from rx);cases q;exact uj1 PySem.W.kitx_int I.kIn True.intro e (λz=>nomatch z) h
 | str y=>obtain ⟨t,q⟩:=(show ∃t,u=Value.str y t from rx);cases q;exact uj1 PySem.W.kitx_str I.kIn True.intro e (λz=>nomatch z) h
 | flt y=>obtain ⟨t,q⟩:=(show ∃t,u=Value.float y t from rx);cases q;exact uj1 PySem.W.kitx_float I.kIn True.intro e (λz=>nomatch z) h
 | @lst a xs ea=>
   cases (show u=Value.ref a from rx)
   obtain ⟨_,_,n,_,h1⟩:=(show ObjOk X.prog X.w H s.heap a (.lst xs) from I.hok a _ ea);exact uj1 ug0 I.kIn ⟨_,h1,rfl⟩ e (λz=>nomatch z) h
 | @frz a ob xs ea=>
   cases (show u=Value.ref a from rx)
   obtain ⟨_,_,_,n,_,h1⟩:=(show ObjOk X.prog X.w H s.heap a (.frz ob (.lst xs)) from I.hok a _ ea);exact uj1 ug0 I.kIn ⟨_,h1,rfl⟩ e (λz=>nomatch z) h
 | @tup a xs ea=>
   cases (show u=Value.ref a from rx)
   obtain ⟨_,_,_,p⟩:=(show ObjOk X.prog X.w H s.heap a (.tup xs) from I.hok a _ ea);obtain ⟨o,h1,h2,_⟩:=p;exact uj1 PySem.W.kitx_tuple I.kIn ⟨o,h1,h2⟩ e (λz=>nomatch z) h
 | @dK a kvs ea=>
   cases (show u=Value.ref a from rx)
   obtain ⟨_,_,vs,_,p⟩:=(show ObjOk X.prog X.w H s.heap a (.dK kvs) from I.hok a _ ea);obtain ⟨o,es,ep,h1,h2,_⟩:=p;exact uj1 ug1 I.kIn ⟨o,h1,h2.1⟩ e (λz=>nomatch z) h
 | @dT a kvs ea=>
   cases (show u=Value.ref a from rx)
   obtain ⟨_,_,xs,_,o,es,ep,h1,h2,_⟩:=(show ObjOk X.prog X.w H s.heap a (.dT kvs) from I.hok a _ ea);exact uj1 ug1 I.kIn ⟨o,h1,h2.1⟩ e (λz=>nomatch z) h
 | @ins a C dx fs ea cl ha hn htk hm=>
   cases (show u=Value.ref a from rx)
   obtain ⟨mA,O,_⟩:=HG I.hok ea;obtain ⟨od,J,_⟩:=O.look;exact uj1 (PySem.W.kitx_own (cl.get _) cl.hd ha hn htk hm) I.kIn J e (λz=>nomatch z) h
end
structure Room (k:Nat)(A:Around):Prop where
 hd:A.handled=none
 dp:A.depth + 3 * k + 5 < recursionLimit
 un:A.units + 16 * k + 200 < cLine
theorem Room.mono {j k:Nat}{A:Around}(r:Room k A)(h:j<=k):Room j A:=⟨r.hd,by have:=r.dp;lia,by have:=r.un;lia⟩
theorem Room.deeper {k:Nat}{A:Around}(r:Room (k + 1) A)(env:Env):Room k (A.deeper env):=
 ⟨r.hd,by have:=r.dp;show A.depth + 1 + 3 * k + 5 < _;lia,by have:=r.un;show A.units + 3 + 16 * k + 200 < _;lia⟩
theorem Pa {A:Around}:(A.under (.builtin "type.__call__" ⟨.ref C :: us,kw⟩)).depth=A.depth + 1:=by
 first | rfl | simp [Around.under,Code.weight,Code.isCreation,Code.isGuard,Code.isCaller,Code.frames,Code.isFrame,guardIds]
theorem Pb {A:Around}:(A.under (.builtin "type.__call__" ⟨.ref C :: us,kw⟩)).units=A.units + 1:=by
 first | rfl | simp [Around.under,Code.cUnits,Code.frames,Code.isFrame]
theorem Room.make {k:Nat}{A:Around}(r:Room (k + 1) A)(C:Addr)(us:List Value)(kw:List (Str×Value)):Room k (A.under (.builtin "type.__call__" ⟨.ref C :: us,kw⟩)):=
 ⟨r.hd,by have:=r.dp;rw [Pa];lia,by have:=r.un;rw [Pb];lia⟩
theorem Room.depth {k:Nat}{A:Around}(r:Room k A):A.depth < recursionLimit:=by have:=r.dp;lia
theorem Room.units {k:Nat}{A:Around}(r:Room k A):A.units + 64 < cLine:=by have:=r.un;lia
def Ub:TA:=λ_ H Q=>Q [] H
def Z0 (ta:TE)(tr:TA):TA:=λσ H Q=>ta σ H λx H1=>tr σ H1 λxs H2=>Q (x :: xs) H2
section
variable {X:Cx}{e:Expr}{es:List Expr}{te:TE}{t:TA}{pos:Pos}
theorem Ys:PA X [] Ub:=λ_ _ _ _ H Q I h=>Calls.spliced_nil ⟨[],H,I,.nil,h⟩
theorem VX (ha:PE X e te)(hr:PA X es t)(hs:starEach (e :: es) X.env=(false,eval e X.env) :: starEach es X.env:=by rfl):PA X (e :: es) (Z0 te t):=by
 intro pos pins s σ H Q I h;rw [hs];show wpAny _ _ (spliced ((false,eval e X.env) :: backTo pos (starEach es X.env))) _ _ s;refine Calls.spliced_cons (thn (ha pins s σ H _ I h) λu s1 z9=>?_);obtain ⟨x,H1,I1,r1,q1⟩:=z9;exact thn (hr pos pins s1 σ H1 _ I1 q1) λus s2 ⟨xs,H2,I2,r2,q2⟩=>⟨x :: xs,H2,I2,.cons r1 r2,q2⟩
def bQ (t:TA):TE:=λσ H Q=>t σ H λxs H1=>xs.length<=sizeLine/\∀p,H1 p=none->Q (.ref p) (upd H1 p (.tup xs))
def bM (t:TA):TE:=λσ H Q=>t σ H λxs H1=>xs.length<=sizeLine/\∀p,H1 p=none->Q (.ref p) (upd H1 p (.lst xs))
theorem YA {x1}(h:PA X es t):PE X (.Tuple es x1 pos) (bQ t):=by
 intro pins s σ H Q I hq;refine wpAny_Tuple_spliced (thn (h pos pins s σ H _ I hq) λus s1 z9=>?_);obtain ⟨xs,H1,I1,r,z,q⟩:=z9;refine ⟨by rw [<-r.length];exact z,?_⟩;have hf:H1 s1.heap.objs.size=none:=I1.hok.fresh (un5 _);refine ⟨.ref s1.heap.objs.size,upd H1 s1.heap.objs.size (.tup xs),I1.laid (t':=s1.toks) (λb u e=>uc1 _ e) (un5 _) ?_,rfl,q _ hf⟩;exact ⟨z,us,r,⟨_,ue1 _ rfl,rfl,_,rfl⟩⟩
theorem Yw (h:PA X es t):PE X (.List es pos) (bM t):=by
 intro pins s σ H Q I hq;refine wpAny_List_spliced (thn (h pos pins s σ H _ I hq) λus s1 z9=>?_);obtain ⟨xs,H1,I1,r,z,q⟩:=z9;refine ⟨by rw [<-r.length];exact z,?_⟩;have hf:H1 s1.heap.objs.size=none:=I1.hok.fresh (un5 _);refine ⟨.ref s1.heap.objs.size,upd H1 s1.heap.objs.size (.lst xs),I1.laid (t':=s1.toks) (λb u e=>uc1 _ e) (un5 _) ?_,rfl,q _ hf⟩;exact ⟨z,us,0,r,ue1 _ rfl⟩
end
abbrev Sp:=List V->Hp->VK->XK->Prop
abbrev CXT:=List Env->Hp->Shared->XK->Value->Shared->Prop
structure Env0 (P:Program)(w:World)(K:PySem.W.Frag)(mg:Str->Option Value)(base:Heap)(A:Around)(outer:List Env)(s:Shared)(H:Hp):Prop where
 frames:A.frames=some outer
 mod:Mod K mg base
 bs:∀b o,base.get? b=some o->s.heap.get? b=some o/\H b=none
 bsz:base.objs.size<=s.heap.objs.size
 funs:s.heap.FunFrames base outer
 frf:∀b∈frs outer,H b=none
 hok:HOk P w H s.heap
 bare:AllBare s.gens
def CE (outer:List Env)(P:Program)(w:World)(H:Hp)(s:Shared)(Q:VK)(u:Value)(s':Shared):Prop:=
 ∃v H',s'.os=s.os/\AllBare s'.gens/\Un (frs outer) [] H H' s.heap s'.heap/\HOk P w H' s'.heap/\RelV v u/\Q v H'
def CR (CX:CXT)(outer:List Env)(P:Program)(w:World)(H:Hp)(s:Shared)(Q:VK)(E:XK)(r:Result)(s':Shared):Prop:=
 match r with
 | .ok (.ret u)=>CE outer P w H s Q u s'
 | .ok _=>False
 | .error e=>CX outer H s E e s'
structure FnOk (P:Program)(w:World)(K:PySem.W.Frag)(mg:Str->Option Value)(base:Heap)(CX:CXT)(k:Nat)(f:Addr)(fd:FuncData)(ps:List Str)(sp:Sp):Prop where
 len:∀vs H Q E,sp vs H Q E->vs.length=ps.length
 run:∀(A:Around) (outer:List Env) (s:Shared) (H:Hp) (args:Args) (us:List Value) (vs:List V) (Q:VK) (E:XK),Room k A->Env0 P w K mg base A outer s H->BindsTo s fd args (ps.zip us)->Vals vs us->sp vs H Q E->
  codeAny (model P w) A (.call (.ref f) args) (CR CX outer P w H s Q E) s
theorem FnOk.mono {P:Program}{w:World}{K:PySem.W.Frag}{mg:Str->Option Value}{base:Heap}{CX:CXT}{j k:Nat}{f:Addr}{fd:FuncData}{ps:List Str}{sp:Sp}(F:FnOk P w K mg base CX j f fd ps sp)(h:j<=k) :
 FnOk P w K mg base CX k f fd ps sp:=⟨F.len,λA outer s H args us vs Q E hr=>F.run A outer s H args us vs Q E (hr.mono h)⟩
variable {mg:Str->Option Value}{base:Heap}
theorem Env0.make {A:Around}{outer:List Env}(e:Env0 P w K mg base A outer s H)(C:Addr)(us:List Value)(kw:List (Str×Value)) :
 Env0 P w K mg base (A.under (.builtin "type.__call__" ⟨.ref C :: us,kw⟩)) outer s H:=⟨by first | exact e.frames | (simpa [Around.under,Code.envs,Code.isFrame,pushEnvs] using e.frames),e.mod,e.bs,e.bsz,e.funs,e.frf,e.hok,e.bare⟩
section
variable {X:Cx}{pins:List (Addr×Obj)}{σ:St}{H:Hp}{s s':Shared}
theorem Inv.env0 (I:Inv X pins σ H s):Env0 X.prog X.w X.K X.mg X.base X.A X.stack s H:=
 ⟨I.ok.frames,I.ok.mod,I.bs,um4 I.ok.bsz I.sz,I.stack,I.stkFree,I.hok,I.bare⟩
theorem Inv.after {Q:VK}(I:Inv X pins σ H s)(h:CE X.stack X.prog X.w H s Q u s'):EP X pins σ Q u s':=by
 obtain ⟨v,H',os,bare,un,hok,r,q⟩:=h;obtain ⟨hh,g,d,t,os'⟩:=s';obtain rfl:os'=s.os:=os;exact ⟨v,H',I.call (h':=hh) (g':=g) (d':=d) (t':=t) (ch:=[]) un hok bare (λb z=>absurd z (by simp)),r,q⟩
end
def UM (sp:Sp)(dvs:List V)(E:XK)(t:TA):TE:=λσ H Q=>t σ H λvs H1=>sp (vs++dvs) H1 Q E
def UO (C:Addr)(m:Str)(sp:Sp)(dvs:List V)(E:XK)(ta:TE)(t:TA):TE:=λσ H Q=>ta σ H λx H1=>∃a dx fs,x = .ref a/\H1 a=some (.ins C dx fs)/\fs.lookup m=none/\
 t σ H1 λvs H2=>sp (x :: (vs++dvs)) H2 Q E
def Z2 (C:Addr)(sp:Sp)(dvs:List V)(E:XK)(t:TA):TE:=λσ H Q=>t σ H λvs H1=>∀x dx,H1 x=none->H1 dx=none->dx≠x->
 sp (.ref x :: (vs++dvs)) (upd (upd H1 dx (.own x)) x (.ins C dx [])) (λv H2=>v = .non/\Q (.ref x) H2) E
def Binds (K:PySem.W.Frag)(fd:FuncData)(ps:List Str)(ds:List Value):Prop:=
 ∀(s:Shared) (us:List Value),K.In s.heap->(us++ds).length=ps.length->BindsTo s fd ⟨us,[]⟩ (ps.zip (us++ds))
theorem Binds.all {fd:FuncData}{ps:List Str}(h:∀us:List Value,us.length=ps.length->bindArgs fd ⟨us,[]⟩=pure (ps.zip us)):Binds K fd ps []:=λs us _ hl=>by
 rw [uj2] at hl ⊢;exact .of_eq (h us hl)
def EI (CX:CXT)(X:Cx)(E:XK):Prop:=∀(pins:List (Addr×Obj)) (σ:St) (H:Hp) (s:Shared) (e:Value) (s':Shared),Inv X pins σ H s->CX X.stack H s E e s'->X.xe e s'
variable {vs:List V}
section
variable {X:Cx}{CX:CXT}{k:Nat}{f C:Addr}{fd:FuncData}{ps:List Str}{sp:Sp}{dvs:List V}{ds:List Value}{E:XK}{x m:Str}{p pos apos:Pos}{e o:Expr}{es:List Expr}{ta:TE}{t:TA}
theorem JL {Q:VK}(F:FnOk X.prog X.w X.K X.mg X.base CX k f fd ps sp)(hr:Room k X.A)(hb:Binds X.K fd ps ds)(hd:Vals dvs ds)(hx:EI CX X E)
 (I:Inv X pins σ H s) (r:Vals vs us) (h:sp (vs++dvs) H Q E):wpAny (model X.prog X.w) X.A (call (.ref f) us) (EP X pins σ Q) X.xe s:=by
 have r2:Vals (vs++dvs) (us++ds):=r.append hd;have hl:(us++ds).length=ps.length:=by rw [<-r2.length];exact F.len _ _ _ _ h
 refine wpAny_call (codeAny_mono (F.run X.A X.stack s H ⟨us,[]⟩ (us++ds) (vs++dvs) Q E hr I.env0 (hb s us I.kIn hl) r2 h) λr s' hq=>?_)
 cases r with
 | error e=>exact hx pins σ H s e s' I hq
 | ok fl=>
   cases fl with
   | ret u=>exact I.after hq
   | next=>exact False.elim hq
   | brk=>exact False.elim hq
   | cont=>exact False.elim hq
theorem Og (F:FnOk X.prog X.w X.K X.mg X.base CX k f fd ps sp)(hr:Room k X.A)(hg:Gl X x)(hm:X.mg x=some (.ref f))(hk:PySem.W.keepIn X.K (.ref f)=true)(hb:Binds X.K fd ps ds)(hd:Vals dvs ds)(hx:EI CX X E)
 (ha:PA X (e :: es) t) (hdb:(x == ("__debug__" : Str))=false:=by decide) (he:starEach (e :: es) X.env=(false,eval e X.env) :: starEach es X.env:=by rfl) (hpl:(backTo pos (starEach es X.env)).any (·.1)=false:=by rfl) :
 PE X (.Call (.Name x p) (e :: es) [] pos) (UM sp dvs E t):=by
 intro pins s σ H Q I h;refine wpAny_Call_Name_kw (CF I hg hm ?_ hdb);refine uf2 (h₀:=X.base) I.ok.mod.kin hk (thn (ha pos pins s σ H _ I h) λus s1 z9=>?_) he hpl;obtain ⟨vs,H1,I1,r,q⟩:=z9;refine ⟨I1.kIn,?_⟩;exact JL F hr hb hd hx I1 r q
theorem Tv (F:FnOk X.prog X.w X.K X.mg X.base CX k f fd ps sp)(hr:Room k X.A)(hg:Gl X x)(hm:X.mg x=some (.ref f))(hk:PySem.W.keepIn X.K (.ref f)=true)(hb:Binds X.K fd ps ds)(hd:Vals dvs ds)(hx:EI CX X E)
 (hdb:(x == ("__debug__" : Str))=false:=by decide):PE X (.Call (.Name x p) [] [] pos) (UM sp dvs E Ub):=by
 intro pins s σ H Q I h;refine wpAny_Call_Name_kw (CF I hg hm ?_ hdb);exact PySem.W.callWith_K0 I.kIn hk (JL (us:=[]) F hr hb hd hx I .nil h)
theorem V3 (he:PE X o ta)(c:Cls X.K C)(hm:Meth X.K C m f)(F:FnOk X.prog X.w X.K X.mg X.base CX k f fd ps sp)(hr:Room k X.A)(hb:Binds X.K fd ps ds)(hd:Vals dvs ds)(hx:EI CX X E)(ha:PA X (e :: es) t)
 (hst:starEach (e :: es) X.env=(false,eval e X.env) :: starEach es X.env:=by rfl) (hpl:(backTo pos (starEach es X.env)).any (·.1)=false:=by rfl)
 (ht:eval (.Call (.Attribute o m apos) (e :: es) [] pos) X.env=(do
   let ov <-eval o X.env
   standAt apos.atName
   let (f,first) <-holding [ov] (getMethod ov m pl)
   callWith pos f first (backTo pos (starEach (e :: es) X.env)) (backToKw pos (keywordEach [] X.env))):=by rfl) :
 PE X (.Call (.Attribute o m apos) (e :: es) [] pos) (UO C m sp dvs E ta t):=by
 intro pins s σ H Q I h;refine uc9 (pl:=pl) (thn (he pins s σ H _ I h) λu s1 z9=>?_) ht;obtain ⟨x,H1,I1,rx,a,dx,fs,ex,ea,l,q⟩:=z9;subst ex;obtain rfl:u=Value.ref a:=rx;refine Gn I1 ea c hm l ?_;refine uf2 (first:=[.ref a]) (h₀:=X.base) I.ok.mod.kin hm.kp (thn (ha pos pins s1 σ H1 _ I1 q) λus s2 z9=>?_) hst hpl;obtain ⟨vs,H2,I2,r,q2⟩:=z9;refine ⟨I2.kIn,?_⟩;exact JL (us:=.ref a :: us) (vs:=.ref a :: vs) F hr hb hd hx I2 (.cons rfl r) q2
theorem TC (he:PE X o ta)(c:Cls X.K C)(hm:Meth X.K C m f)(F:FnOk X.prog X.w X.K X.mg X.base CX k f fd ps sp)(hr:Room k X.A)(hb:Binds X.K fd ps ds)(hd:Vals dvs ds)(hx:EI CX X E)
 (ht:eval (.Call (.Attribute o m apos) [] [] pos) X.env=(do
   let ov <-eval o X.env
   standAt apos.atName
   let (f,first) <-holding [ov] (getMethod ov m pl)
   callWith pos f first (backTo pos (starEach [] X.env)) (backToKw pos (keywordEach [] X.env))):=by rfl) :
 PE X (.Call (.Attribute o m apos) [] [] pos) (UO C m sp dvs E ta Ub):=by
 intro pins s σ H Q I h;refine uc9 (pl:=pl) (thn (he pins s σ H _ I h) λu s1 z9=>?_) ht;obtain ⟨x,H1,I1,rx,a,dx,fs,ex,ea,l,q⟩:=z9;subst ex;obtain rfl:u=Value.ref a:=rx;refine Gn I1 ea c hm l ?_;exact PySem.W.callWith_K0 (first:=[.ref a]) I1.kIn hm.kp (JL (us:=[.ref a]) (vs:=[.ref a]) F hr hb hd hx I1 (.cons rfl .nil) q)
structure Mk (K:PySem.W.Frag)(C f:Addr):Prop where
 makes:PySem.W.makesIn K C=true
 init:PySem.W.findIn K (.ref C) "__init__" = some (some (.ref f))
 fn:PySem.W.isFn K (.ref f)=true
 kp:PySem.W.keepIn K (.ref C)=true
theorem TX {Q:VK}(M:Mk X.K C f)(F:FnOk X.prog X.w X.K X.mg X.base CX k f fd ps sp)(hr:Room (k + 1) X.A)(hb:Binds X.K fd ps ds)(hd:Vals dvs ds)
 (hx:EI CX X E) (I:Inv X pins σ H s) (r:Vals vs us)
 (h:∀x dx,H x=none->H dx=none->dx≠x->sp (.ref x :: (vs++dvs)) (upd (upd H dx (.own x)) x (.ins C dx [])) (λv H2=>v = .non/\Q (.ref x) H2) E) :
 wpAny (model X.prog X.w) X.A (call (.ref C) us) (EP X pins σ Q) X.xe s:=by
 have hq:=h (s.heap.objs.size + 1) s.heap.objs.size (I.hok.fresh (un7 _)) (I.hok.fresh (un5 _)) (um3 (uh3 _));have I2:=Inv.made (C:=C) I;have r2:Vals (V.ref (s.heap.objs.size + 1) :: (vs++dvs)) (Value.ref (s.heap.objs.size + 1) :: (us++ds)):=.cons rfl (r.append hd);have hl:(Value.ref (s.heap.objs.size + 1) :: us++ds).length=ps.length:=by
  have e:=r2.length;rw [F.len _ _ _ _ hq] at e;exact e.symm
 refine wpAny_call (Tg (f:=f) I.kIn M.makes M.init (beq_iff_eq.mp M.fn) (codeAny_mono (F.run _ X.stack _ _ ⟨Value.ref (s.heap.objs.size + 1) :: us,[]⟩ (Value.ref (s.heap.objs.size + 1) :: (us++ds)) _ _ E (hr.make C us [])
  (I2.env0.make C us []) (hb _ (Value.ref (s.heap.objs.size + 1) :: us) I2.kIn hl) r2 hq) λr s' hq'=>?_))
 cases r with
 | error e=>exact hx pins σ _ _ e s' I2 hq'
 | ok fl=>
   cases fl with
   | ret u=>
     obtain ⟨v,H',I3,rv,ev,q3⟩:=I2.after hq';subst ev;exact ⟨rv,⟨V.ref (s.heap.objs.size + 1),H',I3,rfl,q3⟩⟩
   | next=>exact False.elim hq'
   | brk=>exact False.elim hq'
   | cont=>exact False.elim hq'
theorem V2 (M:Mk X.K C f)(F:FnOk X.prog X.w X.K X.mg X.base CX k f fd ps sp)(hr:Room (k + 1) X.A)(hg:Gl X x)(hm:X.mg x=some (.ref C))(hb:Binds X.K fd ps ds)(hd:Vals dvs ds)(hx:EI CX X E)
 (ha:PA X (e :: es) t) (hdb:(x == ("__debug__" : Str))=false:=by decide) (he:starEach (e :: es) X.env=(false,eval e X.env) :: starEach es X.env:=by rfl) (hpl:(backTo pos (starEach es X.env)).any (·.1)=false:=by rfl) :
 PE X (.Call (.Name x p) (e :: es) [] pos) (Z2 C sp dvs E t):=by
 intro pins s σ H Q I h;refine wpAny_Call_Name_kw (CF I hg hm ?_ hdb);refine uf2 (h₀:=X.base) I.ok.mod.kin M.kp (thn (ha pos pins s σ H _ I h) λus s1 z9=>?_) he hpl;obtain ⟨vs,H1,I1,r,q⟩:=z9;refine ⟨I1.kIn,?_⟩;exact TX M F hr hb hd hx I1 r q
end
section
variable {X:Cx}{CX:CXT}{k:Nat}{f C:Addr}{fd:FuncData}{ps ks:List Str}{sp:Sp}{E:XK}{x m:Str}{p pos apos kpos:Pos}{e o:Expr}{es:List Expr}{kws:List Keyword}{te ta:TE}{t tk:TA}{nm:Option Str}
structure KBinds (K:PySem.W.Frag)(fd:FuncData)(ps ks:List Str)(g:List Value->List Value->List Value)(gV:List V->List V->List V):Prop where
 to:∀(s:Shared) (us ws:List Value),K.In s.heap->(g us ws).length=ps.length->BindsTo s fd ⟨us,ks.zip ws⟩ (ps.zip (g us ws))
 rel:∀{vs:List V} {us:List Value} {zs:List V} {ws:List Value},Vals vs us->Vals zs ws->Vals (gV vs zs) (g us ws)
variable {g:List Value->List Value->List Value}{gV:List V->List V->List V}
end
structure FnScope (N P:List Str)(sc:Scope):Prop where
 kind:sc.kind = .function
 co:sc.isCoroutine=false
 gen:sc.isGenerator=false
 nd:N.Nodup
 pre:N.take P.length=P
 par:∀x∈P,sc.names.lookup x=some .local\/sc.names.lookup x=some .cell
 nofree:∀y∈sc.names,y.2≠.free
theorem KM {kindOf:Str->Option NameKind}{x:Str}:∀{binds:List (Str×Value)} {m:Str->Option Value},(∀v,(x,v)∉binds)->bindL kindOf binds m x=m x
 | [],_,_=>rfl
 | (n,v) :: r,m,h=>by
   unfold bindL;rw [KM λw hw=>h w (ud5 _ hw)]
   split
   ·have:x≠n:=by rintro rfl;exact h v ue9
    simp [this]
   ·rfl
theorem KJ {kindOf:Str->Option NameKind}{x:Str}:∀{binds:List (Str×Value)} {m:Str->Option Value},(∀v,(x,v)∉binds)->bindC kindOf binds m x=m x
 | [],_,_=>rfl
 | (n,v) :: r,m,h=>by
   unfold bindC;rw [KJ λw hw=>h w (ud5 _ hw)]
   split
   ·rfl
   ·have:x≠n:=by rintro rfl;exact h v ue9
    simp [this]
theorem KL {kindOf:Str->Option NameKind}{x:Str}{v:Value}:∀{P:List Str} {vs:List Value} {i:Nat} {m:Str->Option Value},P.Nodup->P[i]?=some x->vs[i]?=some v->kindOf x=some .local->
 bindL kindOf (P.zip vs) m x=some v
 | [],_,_,_,_,h,_,_=>by simp at h
 | _ :: _,[],_,_,_,_,h,_=>by simp at h
 | p :: P,w :: vs,0,m,nd,h1,h2,hk=>by
   simp at h1 h2;subst h1;subst h2;show bindL kindOf ((p,w) :: P.zip vs) m p=_;unfold bindL;rw [KM λv hv=>(uj3.mp nd).1 (uj4 hv).1,if_pos hk];simp
 | p :: P,w :: vs,i + 1,m,nd,h1,h2,hk=>by
   show bindL kindOf ((p,w) :: P.zip vs) m x=_;unfold bindL;exact KL (i:=i) (uj3.mp nd).2 (by simpa using h1) (by simpa using h2) hk
theorem KI {kindOf:Str->Option NameKind}{x:Str}{v:Value}:∀{P:List Str} {vs:List Value} {i:Nat} {m:Str->Option Value},P.Nodup->P[i]?=some x->vs[i]?=some v->kindOf x≠some .local->
 bindC kindOf (P.zip vs) m x=some v
 | [],_,_,_,_,h,_,_=>by simp at h
 | _ :: _,[],_,_,_,_,h,_=>by simp at h
 | p :: P,w :: vs,0,m,nd,h1,h2,hk=>by
   simp at h1 h2;subst h1;subst h2;show bindC kindOf ((p,w) :: P.zip vs) m p=_;unfold bindC;rw [KJ λv hv=>(uj3.mp nd).1 (uj4 hv).1,if_neg hk];simp
 | p :: P,w :: vs,i + 1,m,nd,h1,h2,hk=>by
   show bindC kindOf ((p,w) :: P.zip vs) m x=_;unfold bindC;exact KI (i:=i) (uj3.mp nd).2 (by simpa using h1) (by simpa using h2) hk
noncomputable def start (N:List Str)(vs:List V):St:=vs.map some++List.replicate (N.length - vs.length) none
noncomputable def Dh (CX:CXT)(P:Program)(w:World)(K:PySem.W.Frag)(mg:Str->Option Value)(base:Heap)(N:List Str)(qual:Str)(scope:Scope)(f:Addr)(cd:Value)(A:Around)(outer:List Env)(s:Shared)(H:Hp)(E:XK):Cx where
 prog:=P
 w:=w
 K:=K
 mg:=mg
 base:=base
 A:=A.deeper (envOfC qual scope s.heap.objs.size f cd)
 N:=N
 s₀:=s
 H₀:=H
 env:=envOfC qual scope s.heap.objs.size f cd
 outer:=outer
 stack:=envOfC qual scope s.heap.objs.size f cd :: outer
 ex:=[]
 calm:=true
 fn:=λ_=>true
 pn:=[]
 xe:=λe s'=>wpAny (model P w) (A.deeper (envOfC qual scope s.heap.objs.size f cd)) (leaving (envOfC qual scope s.heap.objs.size f cd) e) (λ_ s''=>CX outer H s E e s'') (λe' s''=>CX outer H s E e' s'') s'
theorem Mg {sc:Scope}{n:Nat}(h:sc.names.lookup x=some .cell):∃c,(cellsFrom n sc.names []).lookup x=some c:=by
 have q:=uc2 sc.names n [] (.inl h);exact Option.isSome_iff_exists.mp q
theorem KW {CX:CXT}{N ps:List Str}{qual:Str}{scope:Scope}{f:Addr}{cd:Value}{A:Around}{outer:List Env}{s1:Shared}{E:XK}
 (S:FnScope N ps scope) (hd:A.handled=none) (e0:Env0 P w K mg base A outer s H) (hl:vs.length=ps.length) (r:Vals vs us)
 (x:InCallC s s.heap.objs.size (bindL (envOfC qual scope s.heap.objs.size f cd).kindOf (ps.zip us) λ_=>none) (cellsFrom (s.heap.objs.size + 1) scope.names []) (bindC (envOfC qual scope s.heap.objs.size f cd).kindOf (ps.zip us) λ_=>none) s1) :
 Inv (Dh CX P w K mg base N qual scope f cd A outer s H E) [] (start N vs) H s1:=by
 have hpl:ps.length<=N.length:=by have:=congrArg List.length S.pre;rw [uh4] at this;lia
 obtain ⟨h1,tk,rfl,hk⟩:=x.done;have noA:∀b:Addr,b∉(Dh CX P w K mg base N qual scope f cd A outer s H E).ex:=λb z=>absurd (show b∈([]:List Addr) from z) (by simp);refine ⟨⟨e0.mod,S.kind,rfl,rfl,un5 _,λy z c h1 h2=>?_,λy hy=>?_,λy c _ h=>?_,λ_=>hd,Around.frames_deeper e0.frames,.inr ⟨rfl,rfl⟩,λb z=>absurd z (noA b),e0.bs,e0.bsz,λb _ _=>noA b,λb z=>absurd z (noA b),e0.funs,e0.frf⟩,
  rfl,e0.bare,Un.kept hk,⟨_,x.toInCall.ns,λi y v h1 h2 h3=>?_⟩,λy c h=>⟨_,x.cell y c h⟩,e0.hok.fresh (un5 _),λy c h=>?_,λp hp=>absurd (show p∈([]:List (Addr×Obj)) from hp) (by simp),e0.hok.kept hk,?_⟩
 ·exact name_of_addr x.apart (PySem.mem_of_lookup h1) (PySem.mem_of_lookup h2)
 ·have hy:scope.names.lookup y=some .cell\/scope.names.lookup y=some .free:=hy;rcases hy with hy | hy
  ·exact Mg hy
  ·exact absurd rfl (S.nofree _ (PySem.mem_of_lookup hy))
 ·exact um5 (x.above y c (PySem.mem_of_lookup h))
 ·have hi:i < vs.length:=by
   unfold start at h2
   by_cases hi:i < vs.length
   ·exact hi
   ·rw [ua7 (by simpa using hi)] at h2;rw [ub7] at h2
    split at h2 <;> cases h2
  have ha:vs[i]?=some v:=by
   unfold start at h2;rw [ub2 (by simpa using hi),ug2] at h2
   cases e:vs[i]? with
   | none=>rw [e] at h2;cases h2
   | some a=>rw [e] at h2;cases h2;rfl
  obtain ⟨u,hu,rv⟩:=r.get ha;have hp:ps[i]?=some y:=by
   rw [<-S.pre,List.getElem?_take_of_lt (by lia)];exact h1
  have ndP:ps.Nodup:=by rw [<-S.pre];exact S.nd.sublist (List.take_sublist _ _)
  refine ⟨u,rv,?_⟩;rcases S.par y (ud8 hp) with k | k
  ·exact .inl ⟨k,KL ndP hp hu k⟩
  ·obtain ⟨c,e⟩:=Mg (n:=s.heap.objs.size + 1) k;refine .inr ⟨.inl k,c,e,?_⟩;have q:=x.cell y c e;rw [KI ndP hp hu (by show scope.names.lookup y≠_;rw [k];decide)] at q;exact q
 ·exact e0.hok.fresh (um5 (x.above y c (PySem.mem_of_lookup h)))
 ·unfold start;show _=N.length;rw [uf3,uj0,ud0];lia
theorem UA {CX:CXT}{k:Nat}{f:Addr}{name qual:Str}{params:Arguments}{body:List Stmt}{scope:Scope}{dV kV doc pm cdv ct oc:Value}{an od:Option Addr}
 {osl:Array (Option Value)} {N ps:List Str} {sp:Sp} (lk:K.lookup f=some ⟨oc,od,.func (PySem.W.fnOf name qual params body scope dV kV doc pm an cdv ct),osl⟩) (hcd:PySem.W.codeIn K cdv qual=true) (S:FnScope N ps scope)
 (len:∀vs H Q E,sp vs H Q E->vs.length=ps.length)
 (hbody:∀(A:Around) (outer:List Env) (s:Shared) (H:Hp) (vs:List V) (Q:VK) (E:XK),Room k (A.deeper (envOfC qual scope s.heap.objs.size f cdv))->sp vs H Q E->
   ∃t,PSs (Dh CX P w K mg base N qual scope f cdv A outer s H E) body t/\t { nx:=λ_ H'=>Q .non H',rt:=Q } (start N vs) H) :
 FnOk P w K mg base CX (k + 1) f (PySem.W.fnOf name qual params body scope dV kV doc pm an cdv ct) ps sp:=by
 refine ⟨len,λA outer s H args us vs Q E hr e0 hb r hsp=>?_⟩;have hl:=len _ _ _ _ hsp;have KX:K.In s.heap:=e0.mod.kin.keeps λb o e=>(e0.bs b o e).1;have lim:s.heap.NoLimit:=e0.mod.nolimit.keeps λb o e=>(e0.bs b o e).1;have hkind:∀y∈ps.zip us,scope.names.lookup y.1=some .local\/(scope.names.lookup y.1=some .cell/\((cellsFrom (s.heap.objs.size + 1) scope.names []).lookup y.1).isSome=true):=λz9 hy=>by
  obtain ⟨n,v⟩:=z9;rcases S.par n (uj4 hy).1 with q | q
  ·exact .inl q
  ·exact .inr ⟨q,uc2 _ _ _ (.inl q)⟩
 refine codeAny_call_function hr.depth (KX _ _ lk) rfl S.co S.gen rfl (PySem.W.codeRec_of KX hcd) (hb _ _ _ _ ?_);refine wpAny_newFunctionEnv_cells S.kind hkind λenv he s1 x=>?_;subst he;refine ⟨lim.keeps x.toInCall.keep,codeAny_func ?_⟩;obtain ⟨t,ht,hq⟩:=hbody A outer s H vs Q E (hr.deeper _) hsp;have I:Inv (Dh CX P w K mg base N qual scope f cdv A outer s H E) [] (start N vs) H s1:=KW S hr.hd e0 hl r x;refine uo1 (ht [] s1 (start N vs) H _ I hq) (λfl s' hs=>?_) λe s' hs=>hs;have fin:∀{σ':St} {H':Hp} {v:V} {u:Value},Inv (Dh CX P w K mg base N qual scope f cdv A outer s H E) [] σ' H' s'->RelV v u->Q v H'->CE outer P w H s Q u s':=
  λ{σ' H' v u} J rv q=>⟨v,H',J.os,J.bare,J.base,J.hok,rv,q⟩
 cases fl with
 | ret u=>
   obtain ⟨v,σ',H',J,rv,q⟩:=hs;exact fin J rv q
 | next=>
   obtain ⟨σ',H',J,q⟩:=hs;exact fin (v:=V.non) (u:=Value.none) J rfl q
 | brk=>
   obtain ⟨_,_,_,q⟩:=hs;exact False.elim q
 | cont=>
   obtain ⟨_,_,_,q⟩:=hs;exact False.elim q
section
variable {X:Cx}{x:Str}{p pos:Pos}{e:Expr}{es:List Expr}{t:TA}{id T:String}{r:List V->Hp->VK->Prop}
def tCB (r:List V->Hp->VK->Prop)(t:TA):TE:=λσ H Q=>t σ H λvs H1=>r vs H1 Q
theorem Tw (hc:Cm X (.builtin id) r)(hg:Gl X x)(hm:X.mg x=none)(hv:bootBuiltins x=some (.builtin id))(ha:PA X (e :: es) t)(hn:x≠"__name__":=by decide)(hdb:(x == ("__debug__" : Str))=false:=by decide)
 (he:starEach (e :: es) X.env=(false,eval e X.env) :: starEach es X.env:=by rfl) (hpl:(backTo pos (starEach es X.env)).any (·.1)=false:=by rfl):PE X (.Call (.Name x p) (e :: es) [] pos) (tCB r t):=by
 intro pins s σ H Q I h;refine wpAny_Call_Name_kw (Ha I hg hm hv ?_ hn hdb);exact PyProof.Rows.callWith_builtin1 (thn (ha pos pins s σ H _ I h) λus s1 z9=>by obtain ⟨vs,H1,I1,r1,q1⟩:=z9;exact hc pins s1 σ H1 vs us Q I1 r1 q1) he hpl
theorem Hg (hc:Cm X (.type T) r)(hg:Gl X x)(hm:X.mg x=none)(hv:bootBuiltins x=some (.type T))(ha:PA X (e :: es) t)(hn:x≠"__name__":=by decide)(hdb:(x == ("__debug__" : Str))=false:=by decide)
 (he:starEach (e :: es) X.env=(false,eval e X.env) :: starEach es X.env:=by rfl) (hpl:(backTo pos (starEach es X.env)).any (·.1)=false:=by rfl):PE X (.Call (.Name x p) (e :: es) [] pos) (tCB r t):=by
 intro pins s σ H Q I h;refine wpAny_Call_Name_kw (Ha I hg hm hv ?_ hn hdb);exact ua4 (thn (ha pos pins s σ H _ I h) λus s1 z9=>by obtain ⟨vs,H1,I1,r1,q1⟩:=z9;exact hc pins s1 σ H1 vs us Q I1 r1 q1) he hpl
end
end L2
namespace HT
open PySem PyProof.Rows
section
open PySem.SeqAt
open PySem.AutoSeq1 (wpAny_loadPart')
open PySem.MeetsSeq PySem.MeetsSeq2 PySem.MeetsSeq3
end
section
variable {prog:Program}{w:World}{A:Around}{E:Value->Shared->Prop}{s:Shared}
noncomputable def sIx (n d:Nat):Option Int->Nat
 | none=>d
 | some v=>if v < 0 then (v + (n:Int)).toNat else min v.toNat n
theorem dB (n d:Nat)(hd:d<=n)(o:Option Int):sIx n d o<=n:=by
 cases o with
 | none=>exact hd
 | some v=>
   show (if v < 0 then (v + (n:Int)).toNat else min v.toNat n)<=n
   by_cases hv:v < 0
   ·rw [if_pos hv];lia
   ·rw [if_neg hv];exact Nat.min_le_right _ _
theorem NU (v:Int)(n d:Nat):(if v < 0 then max (v + (n:Int)) 0 else min v (n:Int))=((sIx n d (some v):Nat):Int):=by
 show (if v < 0 then max (v + (n:Int)) 0 else min v (n:Int))=(((if v < 0 then (v + (n:Int)).toNat else min v.toNat n):Nat):Int)
 by_cases hv:v < 0
 ·simp only [if_pos hv];lia
 ·simp only [if_neg hv];lia
theorem OK (lo hi:Option Int)(n:Nat):Builtin.Slice.sliceAdjust lo hi 1 (n:Int)=(((sIx n 0 lo:Nat):Int),((sIx n n hi:Nat):Int)):=by
 have h1:¬((1:Int) < 0):=by lia
 unfold Builtin.Slice.sliceAdjust;simp only [h1,if_false];refine Prod.ext ?_ ?_
 ·cases lo with
  | none=>rfl
  | some v=>exact NU v n 0
 ·cases hi with
  | none=>rfl
  | some v=>exact NU v n n
theorem Pj (i j:Nat):Builtin.Slice.slicePlaces (i:Int) (j:Int) 1=j - i:=by
 unfold Builtin.Slice.slicePlaces;have h1:(1:Int) > 0:=by lia
 simp only [h1,if_true,Int.ediv_one]
 split <;> lia
theorem JM {v:Value}{o:Option Int}{Q:Option Int->Shared->Prop}(p:IsPart v o)(h:Q o s):wpAny (model prog w) A (Builtin.Slice.slicePartIndex v) Q E s:=by
 cases p with
 | none=>exact slicePart_none h
 | int i t=>exact slicePart_int h
theorem T9 {sl:Addr}{vl vu:Value}{lo hi:Option Int}{n:Nat}{Q:Int×Int×Nat->Shared->Prop}(hs:s.heap.IsSliceOf sl vl vu .none)(pl:IsPart vl lo)(pu:IsPart vu hi)
 (h:Q (((sIx n 0 lo:Nat):Int),1,sIx n n hi - sIx n 0 lo) s):wpAny (model prog w) A (Builtin.Slice.sliceApplied (.ref sl) (pure (n:Int))) Q E s:=by
 obtain ⟨os,hos,hcs,hds⟩:=id hs;unfold Builtin.Slice.sliceApplied Builtin.Slice.sliceFields;refine un9 (un9 (un8 hos hds (x:=vl) rfl (un9 (un8 hos hds (x:=vu) rfl (un9 (un8 hos hds (x:=.none) rfl (uo0 ?_)))))));refine un9 (slicePart_none ?_);show wpAny _ _ (if ((1:Int) == 0)=true then _ else _) _ _ s;rw [if_neg (by decide)];refine un9 (JM pl (un9 (JM pu (un9 (uo0 ?_)))));show wpAny _ _ (match Builtin.Slice.sliceAdjust lo hi 1 (n:Int) with | (lo,hi)=>pure (lo,(1:Int),Builtin.Slice.slicePlaces lo hi 1)) _ _ s;rw [OK lo hi n];show wpAny _ _ (pure (((sIx n 0 lo:Nat):Int),(1:Int),Builtin.Slice.slicePlaces ((sIx n 0 lo:Nat):Int) ((sIx n n hi:Nat):Int) 1)) _ _ s;rw [Pj];exact uo0 h
theorem bA (xs:Array Value)(i k:Nat):((List.range k).filterMap λ(m:Nat)=>xs[((i:Int) + (m:Int) * 1).toNat]?).toArray=((xs.toList.drop i).take k).toArray:=by
 have e:(λ(m:Nat)=>xs[((i:Int) + (m:Int) * 1).toNat]?)=λm=>xs[i + m]?:=by
  funext m
  have:((i:Int) + (m:Int) * 1).toNat=i + m:=by lia
  rw [this]
 rw [e];have:=pick_run xs i k;rw [List.filterMap_map] at this;have e2:((λx=>xs[x]?) ∘ λx=>i + x)=λm=>xs[i + m]?:=rfl;rw [e2] at this;rw [this]
end
end HT
namespace L2
open PySem PySem.Spec PyProof.Rows
abbrev TO:=St->Hp->(Option Int->Hp->Prop)->Prop
def PO (X:Cx)(e:Option Expr)(t:TO):Prop:=
 ∀(pins:List (Addr×Obj)) (s:Shared) (σ:St) (H:Hp) (Q:Option Int->Hp->Prop),Inv X pins σ H s->t σ H Q->
  wpAny (model X.prog X.w) X.A (evalPart e X.env) (λu s'=>∃o H',Inv X pins σ H' s'/\IsPart u o/\Q o H') X.xe s
def WP:TO:=λ_ H Q=>Q none H
def Z5 (t:TE):TO:=λσ H Q=>t σ H λx H1=>∃i,x = .int i/\Q (some i) H1
section
variable {X:Cx}{e:Expr}{te:TE}{lo hi:Option Expr}{tl th:TO}{pos p2:Pos}
theorem Wa:PO X none WP:=by
 intro pins s σ H Q I h;rw [evalPart_none];exact uo0 ⟨none,H,I,.none,h⟩
theorem Wb (h:PE X e te):PO X (some e) (Z5 te):=by
 intro pins s σ H Q I hw;rw [evalPart_some];refine thn (h pins s σ H _ I hw) λu s1 z9=>?_;obtain ⟨x,H1,I1,r1,q1⟩:=z9;obtain ⟨i,rfl,q⟩:=q1;obtain ⟨t,rfl⟩:=r1;exact ⟨some i,H1,I1,.int i t,q⟩
def SlR (X:Cx)(r:V->Option Int->Option Int->Hp->VK->Prop):Prop:=
 ∀(pins:List (Addr×Obj)) (s:Shared) (σ:St) (H:Hp) (x:V) (v vl vu:Value) (lo hi:Option Int) (sl:Addr) (Q:VK),Inv X pins σ H s->RelV x v->s.heap.IsSliceOf sl vl vu .none->IsPart vl lo->IsPart vu hi->r x lo hi H Q->
  ∃T id,typeLookup (.type T) "__getitem__" = pure (some (.builtin id))/\s.TypeIs v T/\wpAny (model X.prog X.w) X.A (getItem v (.ref sl)) (EP X pins σ Q) X.xe s
theorem SlR.or {r r':V->Option Int->Option Int->Hp->VK->Prop}(h:SlR X r)(h':SlR X r'):SlR X (λx lo hi H Q=>r x lo hi H Q\/r' x lo hi H Q):=by
 intro pins s σ H x v vl vu lo hi sl Q I rx hs pl pu q;rcases q with q | q
 ·exact h pins s σ H x v vl vu lo hi sl Q I rx hs pl pu q
 ·exact h' pins s σ H x v vl vu lo hi sl Q I rx hs pl pu q
def tSl (r:V->Option Int->Option Int->Hp->VK->Prop)(te:TE)(tl th:TO):TE:=λσ H Q=>te σ H λx H1=>tl σ H1 λl H2=>th σ H2 λu H3=>r x l u H3 Q
theorem Ng {r:V->Option Int->Option Int->Hp->VK->Prop}(hr:SlR X r)(he:PE X e te)(hl:PO X lo tl)(hu:PO X hi th):PE X (.Subscript e (.Slice lo hi none p2) pos) (tSl r te tl th):=by
 intro pins s σ H Q I h;refine Subscript_ (thn (he pins s σ H _ I h) λv s1 z9=>?_);obtain ⟨x,H1,I1,r1,q1⟩:=z9;refine wpAny_Slice (thn (hl pins s1 σ H1 _ I1 q1) λvl s2 ⟨l,H2,I2,pl,q2⟩=>thn (hu pins s2 σ H2 _ I2 q2) λvu s3 z9=>?_);obtain ⟨u,H3,I3,pu,q3⟩:=z9;rw [evalPart_none];refine uo0 ?_;have I4:Inv X pins σ H3 { s3 with heap:=s3.heap.push { cls:=.type "slice",data:=.fields #[vl,vu,.none] } }:=I3.kept (t':=s3.toks) λb ob q=>uc1 _ q;obtain ⟨T,id,hT,ht,hg⟩:=hr pins { s3 with heap:=s3.heap.push { cls:=.type "slice",data:=.fields #[vl,vu,.none] } } σ H3 x v vl vu l u s3.heap.objs.size Q I4 r1 (Heap.IsSliceOf.new ..) pl pu q3;show wpAny (model X.prog X.w) X.A (subscriptTail e (.Slice lo hi none p2) v (.ref s3.heap.objs.size)) (EP X pins σ Q) X.xe { s3 with heap:=s3.heap.push { cls:=.type "slice",data:=.fields #[vl,vu,.none] } };exact tail_any (ops:=[.ref s3.heap.objs.size,v]) ht hT hg (by with_unfolding_all rfl)
def IB (xs:List V)(lo hi:Option Int):List V:=(xs.drop (HT.sIx xs.length 0 lo)).take (HT.sIx xs.length xs.length hi - HT.sIx xs.length 0 lo)
theorem NH (xs:List V)(lo hi:Option Int):(IB xs lo hi).length<=xs.length:=by
 unfold IB;rw [uh4,uh5];lia
theorem Vals.nil_iff {xs:List V}{us:List Value}(r:Vals xs us):us=[]↔xs=[]:=by
 cases r with
 | nil=>simp
 | cons _ _=>simp
end
noncomputable def ixN (n:Nat)(i:Int):Option Nat:=if 0<=i then (if i < n then some i.toNat else none) else if -(n:Int)<=i then some (i + n).toNat else none
def atI {α:Type}(xs:List α)(i:Int):Option α:=(ixN xs.length i).bind λj=>xs[j]?
variable {n:Nat}
theorem Vx {i:Int}{j:Nat}(h:ixN n i=some j):seqIndex? i n=some j/\j < n/\-(n:Int)<=i/\i < n:=by
 unfold ixN at h
 by_cases h0:0<=i
 ·rw [if_pos h0] at h
  by_cases h1:i < n
  ·rw [if_pos h1] at h;have e:i.toNat=j:=ui9 h;exact ⟨by rw [seqIndex_of h0 h1,e],by lia,by lia,h1⟩
  ·rw [if_neg h1] at h;cases h
 ·rw [if_neg h0] at h
  by_cases h1 : -(n:Int)<=i
  ·rw [if_pos h1] at h;have e:(i + n).toNat=j:=ui9 h;exact ⟨by rw [seqIndex_neg (by lia) h1,e],by lia,h1,by lia⟩
  ·rw [if_neg h1] at h;cases h
variable {α:Type}
theorem JZ {xs:List α}{i:Int}{v:α}(h:atI xs i=some v):∃j,seqIndex? i xs.length=some j/\xs[j]?=some v/\j < xs.length/\-(xs.length:Int)<=i/\i < xs.length:=by
 unfold atI at h
 cases e:ixN xs.length i with
 | none=>rw [e] at h;cases h
 | some j=>
   rw [e] at h;obtain ⟨h1,h2,h3,h4⟩:=Vx e;exact ⟨j,h1,h,h2,h3,h4⟩
theorem Hy {xs:List α}{j:Nat}{v:α}(h:xs[j]?=some v):atI xs (j:Int)=some v:=by
 have hj:j < xs.length:=(ub1.mp h).1;have e:ixN xs.length (j:Int)=some j:=by
  unfold ixN;rw [if_pos (by lia),if_pos (by lia)];simp
 unfold atI;rw [e];exact h
def NQ (b:Expr):Prop:=∀o i,subscripted b false o i=operate [o,i] (getItem o i)
def IxR (X:Cx)(r:R2):Prop:=
 ∀(value slice:Expr) (pins:List (Addr×Obj)) (s:Shared) (σ:St) (H:Hp) (x y:V) (v u:Value) (Q:VK),Inv X pins σ H s->RelV x v->RelV y u->r x y H Q->
  subscripted slice false v u=operate [v,u] (getItem v u)->wpAny (model X.prog X.w) X.A (subscriptTail value slice v u) (EP X pins σ Q) X.xe s
def MtR (X:Cx)(id:String)(r:V->List V->Hp->VK->Prop):Prop:=
 ∀(pins:List (Addr×Obj)) (s:Shared) (σ:St) (H:Hp) (x:V) (xs:List V) (v:Value) (us:List Value) (Q:VK),Inv X pins σ H s->RelV x v->Vals xs us->r x xs H Q->
  wpAny (model X.prog X.w) X.A (call (.builtin id) (v :: us)) (EP X pins σ Q) X.xe s
variable {x:V}
section
variable {X:Cx}{a b:Expr}{ta tb:TE}{pos:Pos}
theorem IxR.or {r r':R2}(h:IxR X r)(h':IxR X r'):IxR X (λx y H Q=>r x y H Q\/r' x y H Q):=by
 intro value slice pins s σ H x y v u Q I rx ry q hs;rcases q with q | q
 ·exact h value slice pins s σ H x y v u Q I rx ry q hs
 ·exact h' value slice pins s σ H x y v u Q I rx ry q hs
theorem ZR {r:R2}(hr:IxR X r)(ha:PE X a ta)(hb:PE X b tb)(hs:NQ b):PE X (.Subscript a b pos) (tOp r ta tb):=by
 intro pins s σ H Q I h;exact Subscript_ (Sg ha hb I h λv u s2 x y H2 I2 rx ry q=>hr a b pins s2 σ H2 x y v u Q I2 rx ry q (hs _ _))
def YR (K:PySem.W.Frag):R2:=λx y H Q=>∃p xs i v,x = .ref p/\y = .int i/\SqL K H p xs/\atI xs i=some v/\Q v H
def YT (K:PySem.W.Frag):R2:=λx y H Q=>∃p xs i v,x = .ref p/\y = .int i/\SqT K H p xs/\atI xs i=some v/\Q v H
def YS:R2:=λx y H Q=>∃z i c,x = .str z/\y = .int i/\z.length<=sizeLine/\atI z.cps.toList i=some c/\Q (.str ⟨#[c]⟩) H
theorem ix_list:IxR X (YR X.K):=by
 intro value slice pins s σ H x y v u Q I rx ry h hs;obtain ⟨p,xs,i,z,rfl,rfl,hq,he,q⟩:=h
 cases rx
 obtain ⟨t,rfl⟩:=ry;obtain ⟨its,r,pl,hz⟩:=I.list hq;obtain ⟨j,h1,h2,h3,h4,h5⟩:=JZ he;obtain ⟨w,ew,rw'⟩:=r.get h2;have hl:=r.length;have hn:=Jz;have fin:EP X pins σ Q w s:=⟨z,H,I,rw',q⟩
 by_cases h0:0<=i
 ·have hj:i.toNat=j:=by
   rw [seqIndex_of h0 h5] at h1;exact ui9 h1
  exact item_listR pl.isList h0 (by lia) (by rw [hj];simpa using ew) fin hs
 ·have hj:(i + (its.toArray.size:Int)).toNat=j:=by
   rw [seqIndex_neg (by lia) h4] at h1;rw [uf9,<-hl];exact ui9 h1
  exact subscriptTail_builtinR (x:=w) pl.isList.typeIs slot_list_getitem.lookup
   (wpAny_getItem_list_neg (Q:=λr s'=>r=w/\EP X pins σ Q r s') pl.isList (by lia) (by rw [uf9] <;> lia) (by lia) (by rw [hj];simpa using ew) ⟨rfl,fin⟩) hs
theorem ix_tup:IxR X (YT X.K):=by
 intro value slice pins s σ H x y v u Q I rx ry h hs;obtain ⟨p,xs,i,z,rfl,rfl,hq,he,q⟩:=h
 cases rx
 obtain ⟨t,rfl⟩:=ry;obtain ⟨its,r,pl,hz⟩:=I.tuple hq;obtain ⟨j,h1,h2,h3,h4,h5⟩:=JZ he;obtain ⟨w,ew,rw'⟩:=r.get h2;have hl:=r.length;have hn:=Jz;have fin:EP X pins σ Q w s:=⟨z,H,I,rw',q⟩;exact subscriptTail_builtinR (x:=w) pl.typeIs slot_tuple_getitem.lookup
  (getItem_tuple (j:=j) (Q:=λr s'=>r=w/\EP X pins σ Q r s') pl (by lia) (by lia) (by rw [uf9,<-hl];exact h1) (by simpa using ew) ⟨rfl,fin⟩) hs
theorem X5:IxR X YS:=by
 intro value slice pins s σ H x y v u Q I rx ry h hs;obtain ⟨z,i,c,rfl,rfl,hz,he,q⟩:=h;obtain ⟨t,rfl⟩:=rx;obtain ⟨t',rfl⟩:=ry;obtain ⟨j,h1,h2,h3,h4,h5⟩:=JZ he;have hl:z.cps.toList.length=z.length:=by simp [Str.length]
 rw [hl] at h1 h4 h5;have hn:=Jz;exact tail_any (typeIs_str s z t) slot_str_getitem.lookup (getItem_str (c:=c) (by
  have e1:decide (i < -(2 ^ 63:Int))=false:=uk6 (by lia);have e2:decide (i ≥ 2 ^ 63)=false:=uk6 (by lia);rw [e1,e2,ul5]) (by rw [h1];simpa using h2) ⟨.str ⟨#[c]⟩,H,I.tok _,⟨_,rfl⟩,q⟩) hs
def rIx (K:PySem.W.Frag):R2:=λx y H Q=>YR K x y H Q\/YT K x y H Q\/YS x y H Q
theorem X4:IxR X (rIx X.K):=ix_list.or (ix_tup.or X5)
theorem Nz (lo hi:Option Int)(n:Nat):(sliceBounds lo hi none n).1=((HT.sIx n 0 lo:Nat):Int)/\(sliceBounds lo hi none n).2.1=((HT.sIx n n hi:Nat):Int)/\(sliceBounds lo hi none n).2.2=1:=by
 refine ⟨?_,?_,rfl⟩
 ·cases lo with
  | none=>simp [sliceBounds,HT.sIx]
  | some i=>
    simp only [sliceBounds,HT.sIx,Option.getD_none,show (1:Int) > 0 by decide,if_true]
    by_cases h:i < 0
    ·simp only [h,if_true] <;> lia
    ·simp only [h,if_false] <;> lia
 ·cases hi with
  | none=>simp [sliceBounds,HT.sIx]
  | some i=>
    simp only [sliceBounds,HT.sIx,Option.getD_none,show (1:Int) > 0 by decide,if_true]
    by_cases h:i < 0
    ·simp only [h,if_true] <;> lia
    ·simp only [h,if_false] <;> lia
theorem Ls (its:List Value)(lo hi:Option Int):slicePick its.toArray lo hi none=((its.drop (HT.sIx its.length 0 lo)).take (HT.sIx its.length its.length hi - HT.sIx its.length 0 lo)).toArray:=by
 obtain ⟨h1,h2,h3⟩:=Nz lo hi its.toArray.size;unfold slicePick;rw [h1,h2,h3];simp only [sliceRange_one,pick_run,uf9] <;> rfl
def YV (K:PySem.W.Frag):V->Option Int->Option Int->Hp->VK->Prop:=λx lo hi H Q=>∃a xs,x = .ref a/\SqL K H a xs/\∀p,H p=none->Q (.ref p) (upd H p (.lst (IB xs lo hi)))
theorem WN:SlR X (YV X.K):=by
 intro pins s σ H x v vl vu lo hi sl Q I rx hs pl pu h;obtain ⟨a,xs,rfl,hx,q⟩:=h
 cases rx
 obtain ⟨its,r,ht,hz⟩:=I.list hx;have hlen:=r.length;refine ⟨"list",_,slot_list_getitem.lookup,ht.isList.typeIs,?_⟩;refine wpAny_getItem_list_slice ht.isList hs pl pu .none (by simp) ?_ (by rw [uf9] <;> lia);rw [Ls,<-hlen];refine ⟨.ref s.heap.objs.size,_,I.laid (t':=s.toks) (o:=.lst (IB xs lo hi)) (λb ob q=>uc1 _ q) (un5 _) ?_,rfl,q _ (I.hok.fresh (un5 _))⟩;exact ⟨um4 (NH xs lo hi) hz,_,0,(r.drop (HT.sIx xs.length 0 lo)).take (HT.sIx xs.length xs.length hi - HT.sIx xs.length 0 lo),ue1 _ rfl⟩
noncomputable def E4:V->Bool
 | .non=>true
 | .bl _=>true
 | .int _=>true
 | .str _=>true
 | _=>false
noncomputable def eqV:V->V->Bool
 | .non,.non=>true
 | .bl a,.bl b=>a == b
 | .bl a,.int b=>(if a then 1 else 0) == b
 | .int a,.bl b=>a == (if b then 1 else 0)
 | .int a,.int b=>a == b
 | .str a,.str b=>a == b
 | _,_=>false
theorem Xu {A:Around}{s:Shared}{y:V}{u v:Value}(ry:RelV y u)(rx:RelV x v)(fy:E4 y=true)(fx:E4 x=true):SeqAt.EqAt A s u v (eqV y x):=by
 cases y with
 | non=>
   cases ry
   cases x with
   | non=>cases rx;exact SeqAt.EqAt.same _
   | bl b=>cases rx;exact SeqAt.EqAt.none_bool b
   | int b=>obtain ⟨t,rfl⟩:=rx;exact SeqAt.EqAt.none_int b t
   | str b=>obtain ⟨t,rfl⟩:=rx;exact SeqAt.EqAt.none_str b t
   | _=>exact absurd (show false=true from fx) uf0
 | bl a=>
   cases ry
   cases x with
   | non=>cases rx;exact SeqAt.EqAt.bool_none a
   | bl b=>cases rx;exact SeqAt.EqAt.bool_bool a b
   | int b=>obtain ⟨t,rfl⟩:=rx;exact SeqAt.EqAt.bool_int a b t
   | str b=>obtain ⟨t,rfl⟩:=rx;exact SeqAt.EqAt.bool_str a b t
   | _=>exact absurd (show false=true from fx) uf0
 | int a=>
   obtain ⟨t',rfl⟩:=ry
   cases x with
   | non=>cases rx;exact SeqAt.EqAt.int_none a t'
   | bl b=>cases rx;exact SeqAt.EqAt.int_bool a t' b
   | int b=>obtain ⟨t,rfl⟩:=rx;exact SeqAt.EqAt.int_int a t' b t
   | str b=>obtain ⟨t,rfl⟩:=rx;exact SeqAt.EqAt.int_str a t' b t
   | _=>exact absurd (show false=true from fx) uf0
 | str a=>
   obtain ⟨t',rfl⟩:=ry
   cases x with
   | non=>cases rx;exact SeqAt.EqAt.str_none a t'
   | bl b=>cases rx;exact SeqAt.EqAt.str_bool a t' b
   | int b=>obtain ⟨t,rfl⟩:=rx;exact SeqAt.EqAt.str_int a t' b t
   | str b=>obtain ⟨t,rfl⟩:=rx;exact SeqAt.EqAt.str_str a t' b t
   | _=>exact absurd (show false=true from fx) uf0
 | _=>exact absurd (show false=true from fy) uf0
def eqU (x:V)(u:Value):Bool:=match u with
 | .none=>eqV .non x
 | .bool b=>eqV (.bl b) x
 | .int i _=>eqV (.int i) x
 | .str z _=>eqV (.str z) x
 | _=>false
theorem Qe {y:V}{u:Value}(r:RelV y u)(f:E4 y=true):eqU x u=eqV y x:=by
 cases y with
 | non=>cases r;rfl
 | bl b=>cases r;rfl
 | int i=>obtain ⟨t,rfl⟩:=r;rfl
 | str z=>obtain ⟨t,rfl⟩:=r;rfl
 | _=>exact absurd (show false=true from f) uf0
theorem M2 {A:Around}{s:Shared}{x:V}{v:Value}(rx:RelV x v)(fx:E4 x=true):∀{xs:List V} {us:List Value},Vals xs us->xs.all E4=true->∀u∈us,SeqAt.EqAt A s u v (eqU x u)
 | _,_,.nil,_=>λu hu=>by cases hu
 | y :: xs,u :: us,.cons r t,f=>λu' hu=>by
   rw [ul6,uh6] at f;rcases ul3.mp hu with rfl | hu
   ·rw [Qe r f.1];exact Xu r rx f.1 fx
   ·exact M2 rx fx t f.2 u' hu
theorem Mf:Cm X (.type "list") (λxs H Q=>∃p ys,xs=[.ref p]/\(SqL X.K H p ys\/SqT X.K H p ys)/\∀l,H l=none->Q (.ref l) (upd H l (.lst ys))):=by
 intro pins s σ H xs us Q I r h;obtain ⟨p,ys,rfl,hq,q⟩:=h;obtain ⟨u,rfl,rx⟩:=E7 r
 cases rx
 have fin:∀(its:List Value),Vals ys its->ys.length<=sizeLine->∀(h':Heap) (c':Nat),(∀b o',s.heap.get? b=some o'->h'.get? b=some o')->
  h'.get? s.heap.objs.size=some { cls:=.type "list",dict:=none,data:=.seq its.toArray c',slots:=#[] }->EP X pins σ Q (.ref s.heap.objs.size) { s with heap:=h' }:=λits r' hz h' c' kp e=>
  ⟨.ref s.heap.objs.size,_,I.laid (t':=s.toks) kp (un5 _) (show ObjOk X.prog X.w _ h' _ (.lst ys) from ⟨hz,its,c',r',e⟩),rfl,q _ (I.hok.fresh (un5 _))⟩
 rcases hq with hq | hq
 ·obtain ⟨its,r',pl,hz⟩:=I.list hq;have hlen:=r'.length;obtain ⟨o,ho,hc,n,hd⟩:=pl.isList;exact call_list_seq p (.inl rfl) ho hc hd (λh' c' kp e=>fin its r' hz h' c' kp e) (by simp only [uf9] <;> lia)
 ·obtain ⟨its,r',pl,hz⟩:=I.tuple hq;have hlen:=r'.length;obtain ⟨o,ho,hc,n,hd⟩:=pl;exact call_list_seq p (.inr rfl) ho hc hd (λh' c' kp e=>fin its r' hz h' c' kp e) (by simp only [uf9] <;> lia)
theorem Lb:Cm X (.type "tuple") (λxs H Q=>∃p ys,xs=[.ref p]/\((SqL X.K H p ys/\∀l,H l=none->Q (.ref l) (upd H l (.tup ys)))\/(SqT X.K H p ys/\Q (.ref p) H))):=by
 intro pins s σ H xs us Q I r h;obtain ⟨p,ys,rfl,h⟩:=h;obtain ⟨u,rfl,rx⟩:=E7 r
 cases rx
 rcases h with ⟨hq,q⟩ | ⟨hq,q⟩
 ·obtain ⟨its,r',pl,hz⟩:=I.list hq;have hlen:=r'.length;refine call_tuple_list pl.isList (λh' kp=>?_) (by simp only [uf9] <;> lia);have I1:Inv X pins σ H { s with heap:=h' }:=I.kept (t':=s.toks) kp;have I2:Inv X pins σ (upd H h'.objs.size (.tup ys)) { s with heap:=h'.push { cls:=.type "tuple",data:=.seq its.toArray } }:=
   I1.laid (t':=s.toks) (λb o e=>uc1 _ e) (un5 _) (show ObjOk X.prog X.w _ _ _ (.tup ys) from ⟨hz,its,r',IsTup.new _ _⟩)
  exact ⟨.ref h'.objs.size,_,I2,rfl,q _ (I1.hok.fresh (un5 _))⟩
 ·obtain ⟨its,r',pl,hz⟩:=I.tuple hq;exact call_tuple_same pl ⟨.ref p,H,I,rfl,q⟩
def tyV (K:PySem.W.Frag)(T:String)(x:V)(H:Hp):Prop:=match x with
 | .str _=>T = "str"
 | .int _=>T = "int"
 | .ref p=>(T = "list"/\∃xs,SqL K H p xs)\/(T = "tuple"/\∃o,K.lookup p=some o/\o.cls = .type "tuple"/\o.dict=none)\/
    (T = "dict"/\((∃kvs,H p=some (.dK kvs))\/∃kvs,H p=some (.dT kvs)))\/(T = "set"/\∃S n,H p=some (.set S n))
 | _=>False
theorem RW {pins:List (Addr×Obj)}{σ:St}{H:Hp}{s:Shared}{T:String}{v:Value}(I:Inv X pins σ H s)(r:RelV x v)(ty:tyV X.K T x H) :
 s.TypeIs v T/\∀a,v = .ref a->∃ob,s.heap.get? a=some ob/\ob.dict=none:=by
 cases x with
 | str z=>
   obtain ⟨t,rfl⟩:=r
   cases (show T = "str" from ty)
   exact ⟨typeIs_str s z t,λ_ e=>nomatch e⟩
 | int i=>
   obtain ⟨t,rfl⟩:=r
   cases (show T = "int" from ty)
   exact ⟨typeIs_int s i t,λ_ e=>nomatch e⟩
 | ref p=>
   cases r
   rcases ty with ⟨rfl,xs,hq⟩ | ⟨rfl,o,hk,hc,hd⟩ | ⟨rfl,hk⟩ | ⟨rfl,S,n,hk⟩
   ·obtain ⟨its,_,pl,_⟩:=I.list hq;refine ⟨pl.isList.typeIs,λa e=>?_⟩
    cases e
    obtain ⟨o,n,e,c,hd,_⟩:=pl;exact ⟨o,e,hd⟩
   ·refine ⟨⟨o,I.kIn p o hk,hc⟩,λa e=>?_⟩
    cases e
    exact ⟨o,I.kIn _ o hk,hd⟩
   ·have z:∃o,s.heap.get? p=some o/\o.ExactDict:=by
     rcases hk with ⟨kvs,hk⟩ | ⟨kvs,hk⟩
     ·obtain ⟨_,_,_,_,o,_,_,e,ex,_⟩:=I.hok p _ hk;exact ⟨o,e,ex⟩
     ·obtain ⟨_,_,_,_,o,_,_,e,ex,_⟩:=I.hok p _ hk;exact ⟨o,e,ex⟩
    obtain ⟨o,e,ex⟩:=z;refine ⟨⟨o,e,ex.1⟩,λa e2=>?_⟩
    cases e2
    exact ⟨o,e,ex.2.1⟩
   ·obtain ⟨o,_,_,_,e,ex,_⟩:=I.hok p _ hk;refine ⟨⟨o,e,ex.1⟩,λa e2=>?_⟩
    cases e2
    exact ⟨o,e,ex.2.1⟩
 | _=>exact False.elim ty
def bH (K:PySem.W.Frag)(T:String)(r:V->List V->Hp->VK->Prop)(to:TE):TE:=λσ H Q=>to σ H λx H1=>tyV K T x H1/\r x [] H1 Q
def tBM (K:PySem.W.Frag)(T:String)(r:V->List V->Hp->VK->Prop)(to:TE)(t:TA):TE:=λσ H Q=>to σ H λx H1=>tyV K T x H1/\t σ H1 λxs H2=>r x xs H2 Q
variable {o e:Expr}{es:List Expr}{to:TE}{t:TA}{name:Str}{apos cpos:Pos}{T id:String}{r:V->List V->Hp->VK->Prop}
theorem Rb (pa:PlainAttrs T)(slot:Slot T name id)(hty:typeOf (.builtin id)=pure (.type "method_descriptor"))(hm:MtR X id r)(ho:PE X o to)
 (hbase:attributeBase o name X.env (eval o X.env)=eval o X.env:=by rfl) (hline:(apos.endLine == cpos.line)=true:=by rfl):PE X (.Call (.Attribute o name apos) [] [] cpos) (bH X.K T r to):=by
 intro pins s σ H Q I h;refine wpAny_Call_method0_late hbase hline (thn (ho pins s σ H _ I h) λv s1 z9=>?_);obtain ⟨x,H1,I1,r1,ty,q1⟩:=z9;obtain ⟨h1,h2⟩:=RW I1 r1 ty;exact ⟨T,id,pa,slot,hty,h1,h2,Calls.callWith_builtin rfl (PySem.evalArgs_none (hm pins s1 σ H1 x [] v [] Q I1 r1 .nil q1))⟩
theorem HS (pa:PlainAttrs T)(slot:Slot T name id)(hty:typeOf (.builtin id)=pure (.type "method_descriptor"))(hm:MtR X id r)(ho:PE X o to)(ha:PA X (e :: es) t)
 (hbase:attributeBase o name X.env (eval o X.env)=eval o X.env:=by rfl)
 (hfew:((backTo cpos (starEach (e :: es) X.env)).all (λx=>!x.1) && (backToKw cpos (keywordEach [] X.env)).all (λx=>x.1.isSome)
   && decide ((e :: es).length + ([]:List Keyword).length + (if ([]:List Keyword).isEmpty then 0 else 1) < 30))=true:=by rfl)
 (hline:(apos.endLine == cpos.line)=true:=by rfl) (hs:starEach (e :: es) X.env=(false,eval e X.env) :: starEach es X.env:=by rfl) (hplain:(backTo cpos (starEach es X.env)).any (·.1)=false:=by rfl) :
 PE X (.Call (.Attribute o name apos) (e :: es) [] cpos) (tBM X.K T r to t):=by
 intro pins s σ H Q I h;refine wpAny_Call_method_late hbase hfew hline rfl (thn (ho pins s σ H _ I h) λv s1 z9=>?_);obtain ⟨x,H1,I1,r1,ty,q1⟩:=z9;obtain ⟨h1,h2⟩:=RW I1 r1 ty;refine ⟨T,id,pa,slot,hty,h1,h2,?_⟩;have hA:=ha cpos pins s1 σ H1 _ I1 q1;rw [hs] at hA ⊢;refine Calls.callWith_builtin (by show (false || (backTo cpos (starEach es X.env)).any (·.1))=false;rw [hplain] <;> rfl) (Calls.evalArgs_plain ?_);exact thn hA λus s2 ⟨vs,H2,I2,r2,q2⟩=>hm pins s2 σ H2 x vs v us Q I2 r1 r2 q2
/- xs.append(e),list.index on a module's tuple .. are MtR facts of 06m -/
end
def MtM (X:Cx)(id:String)(r:V->List V->Hp->VK->Prop):Prop:=
 ∀(pins:List (Addr×Obj)) (s:Shared) (σ:St) (H:Hp) (x:V) (xs:List V) (v:Value) (us:List Value) (Q:VK),Inv X pins σ H s->RelV x v->Vals xs us->r x xs H Q->
  wpAny (model X.prog X.w) X.A (call (.builtin id) (v :: us)) (EP X pins σ Q) X.xe s
theorem Vals.one {us:List Value}(h:Vals [x] us):∃u,us=[u]/\RelV x u:=by
 cases h with
 | cons r t=>
   cases t
   exact ⟨_,rfl,r⟩
theorem Vals.zero:∀{us:List Value},Vals [] us->us=[]
 | _,.nil=>rfl
theorem Vals.dropLast {xs:List V}{us:List Value}(h:Vals xs us):Vals xs.dropLast us.dropLast:=by
 induction h with
 | nil=>exact .nil
 | cons r t ih=>
   cases t with
   | nil=>exact .nil
   | cons q t'=>exact .cons r ih
theorem Vals.rep {xs:List V}{us:List Value}(h:Vals xs us):∀k:Nat,Vals (List.replicate k xs).flatten (List.replicate k us).flatten
 | 0=>.nil
 | k + 1=>by
   rw [ue3,ue3,ug3,ug3];exact Vals.append h (Vals.rep h k)
theorem OS (l:List α):l.eraseIdx (l.length - 1)=l.dropLast:=by
 induction l with
 | nil=>rfl
 | cons a r ih=>
   cases r with
   | nil=>rfl
   | cons b r=>
     have e:(a :: b :: r).length - 1=((b :: r).length - 1) + 1:=by
      have h1:(a :: b :: r).length=r.length + 2:=rfl;have h2:(b :: r).length=r.length + 1:=rfl;lia
     rw [e,List.eraseIdx_cons_succ,ih]
     all_goals rfl
theorem Qt (its:List Value):∀(k:Nat) (acc:List Value),
 List.foldl (λx1 x2=>x1++x2) acc.toArray (List.replicate k its.toArray)=(acc++(List.replicate k its).flatten).toArray
 | 0,acc=>by simp
 | k + 1,acc=>by
   have e:acc.toArray++its.toArray=(acc++its).toArray:=by simp
   have e2:(acc++its)++(List.replicate k its).flatten=acc++(List.replicate (k + 1) its).flatten:=by
    rw [ue3,ug3,ug4]
   rw [<-e2,<-Qt its k (acc++its),<-e,ue3,uj5]
section
variable {X:Cx}{pins:List (Addr×Obj)}{σ:St}{H:Hp}{s:Shared}{l b:Addr}{xs ys zs:List V}
theorem Inv.lset {its its':List Value}{f:Array Value->Array Value}{t':Nat}(I:Inv X pins σ H s)(hH:H l=some (.lst xs))
 (e:s.heap.get? l=some { cls:=.type "list",data:=.seq its.toArray n }) (hf:f its.toArray=its'.toArray) (hv:Vals ys its') (hz:ys.length<=sizeLine) :
 Inv X pins σ (upd H l (.lst ys)) { s with heap:=s.heap.update l (Obj.mapSeq f),toks:=t' }:=by
 have q:=PySem.IsL.update e f;rw [hf] at q;refine I.write (x:=l) (e:=l) (by rw [hH];exact trivial) (.inl rfl) (λb' u hb hu=>(uc3 s.heap (Obj.mapSeq f) (Ne.symm hb)).trans hu) ⟨_,q⟩ ?_;exact ⟨hz,its',_,hv,q⟩
theorem Inv.lnew {its:List Value}{t':Nat}(I:Inv X pins σ H s)(hv:Vals ys its)(hz:ys.length<=sizeLine) :
 Inv X pins σ (upd H s.heap.objs.size (.lst ys)) { s with heap:=s.heap.push { cls:=.type "list",data:=.seq its.toArray },toks:=t' }:=
 I.laid (λ_ _ q=>uc1 _ q) (un5 _) ⟨hz,its,0,hv,ue1 _ rfl⟩
theorem Inv.fresh (I:Inv X pins σ H s):H s.heap.objs.size=none:=I.hok.fresh (un5 _)
theorem Inv.lstM (I:Inv X pins σ H s)(hH:H l=some (.lst xs)):xs.length<=sizeLine/\∃(its:List Value) (n:Nat),Vals xs its/\xs.length=its.length/\s.heap.get? l=some { cls:=.type "list",data:=.seq its.toArray n }:=by
 obtain ⟨z,its,n,r,e⟩:=I.hok l _ hH;exact ⟨z,its,n,r,r.length,e⟩
theorem Tm (h:n<=sizeLine):Builtin.List.listTooLong n=false:=by
 unfold Builtin.List.listTooLong;exact uk6 (by lia)
end
section
variable {X:Cx}
def On:V->List V->Hp->VK->Prop:=λx vs H Q=>∃l xs y,x = .ref l/\vs=[y]/\H l=some (.lst xs)/\xs.length < sizeLine/\Q .non (upd H l (.lst (xs++[y])))
theorem K0:MtM X "list.append" On:=by
 intro pins s σ H x vs v us Q I rx rv h;obtain ⟨l,xs,y,rfl,rfl,hH,hz,q⟩:=h
 cases rx
 obtain ⟨u,rfl,ru⟩:=rv.one;obtain ⟨z,its,n,r,hl,e⟩:=I.lstM hH;refine call_meets F.slot_list_append ⟨_,e,rfl⟩ F.entry_list_append (F.args_list_append_2 _ _) (PySem.list_append l its.toArray n u (by rw [uf9];lia)) ⟨e,?_⟩;refine ⟨.non,_,I.lset (its':=its++[u]) hH e (by simp) (r.append (.cons ru .nil)) ?_,rfl,q⟩;rw [uf3,ud1];lia
def Op:V->List V->Hp->VK->Prop:=λx vs H Q=>∃l b xs zs,x = .ref l/\vs=[.ref b]/\H l=some (.lst xs)/\H b=some (.lst zs)/\xs.length + zs.length<=sizeLine/\Q .non (upd H l (.lst (xs++zs)))
theorem QZ:MtM X "list.extend" Op:=by
 intro pins s σ H x vs v us Q I rx rv h;obtain ⟨l,b,xs,zs,rfl,rfl,hH,hB,hz,q⟩:=h
 cases rx
 obtain ⟨u,rfl,ru⟩:=rv.one
 cases ru
 obtain ⟨z,its,n,r,hl,e⟩:=I.lstM hH;obtain ⟨z2,its2,n2,r2,hl2,e2⟩:=I.lstM hB;have hsz:its.toArray.size + its2.toArray.size<=sizeLine:=by rw [uf9,uf9];lia
 have hlong:¬(!its.toArray.isEmpty && Builtin.List.listTooLong (its.toArray.size + its2.toArray.size))=true:=by
  rw [Tm hsz,uk9];exact uf0
 refine call_meets F.slot_list_extend ⟨_,e,rfl⟩ F.entry_list_extend (F.args_list_extend_2 _ _)
  (AutoSeq1.list_extend_list_list_0 l its.toArray n b its2.toArray n2 hlong (by rw [uf9];lia) (by lia)) ⟨e,e2,?_⟩
 refine ⟨.non,_,I.lset (its':=its++its2) hH e (by simp) (r.append r2) ?_,rfl,q⟩;rw [uf3];lia
def bB:V->List V->Hp->VK->Prop:=λx vs H Q=>∃l xs y,x = .ref l/\vs=[]/\H l=some (.lst xs)/\xs[xs.length - 1]?=some y/\Q y (upd H l (.lst xs.dropLast))
theorem Yc:MtM X "list.pop" bB:=by
 intro pins s σ H x vs v us Q I rx rv h;obtain ⟨l,xs,y,rfl,rfl,hH,hy,q⟩:=h
 cases rx
 have hus:=rv.zero;subst hus;obtain ⟨z,its,n,r,hl,e⟩:=I.lstM hH;obtain ⟨u,hu,ru⟩:=r.get hy;have hy':its.toArray[its.toArray.size - 1]?=some u:=by
  show its.toArray[its.length - 1]?=some u;rw [<-Array.getElem?_toList,<-hl];exact hu
 refine call_meets F.slot_list_pop ⟨_,e,rfl⟩ F.entry_list_pop (F.args_list_pop_1 _) (MeetsSeq.list_pop_last l its.toArray n u hy' (by rw [uf9];lia)) ⟨e,?_⟩;refine ⟨y,_,I.lset (its':=its.dropLast) hH e ?_ r.dropLast ?_,ru,q⟩
 ·show its.toArray.eraseIdxIfInBounds (its.toArray.size - 1)=its.dropLast.toArray;rw [uf9,List.eraseIdxIfInBounds_toArray,OS]
 ·rw [List.length_dropLast];lia
def YM:V->List V->Hp->VK->Prop:=λx vs H Q=>∃l xs,x = .ref l/\vs=[]/\H l=some (.lst xs)/\Q .non (upd H l (.lst []))
theorem Tj:MtM X "list.clear" YM:=by
 intro pins s σ H x vs v us Q I rx rv h;obtain ⟨l,xs,rfl,rfl,hH,q⟩:=h
 cases rx
 have hus:=rv.zero;subst hus;obtain ⟨z,its,n,r,hl,e⟩:=I.lstM hH;refine call_meets F.slot_list_clear ⟨_,e,rfl⟩ F.entry_list_clear (F.args_list_clear_1 _) (AutoSeq1.list_clear_list_0 l its.toArray n (by rw [uf9];lia)) ⟨e,?_⟩;exact ⟨.non,_,I.lset (its':=[]) (ys:=[]) hH e rfl .nil (un6 _),rfl,q⟩
def Pn:R2:=λx y H Q=>∃l b xs zs,x = .ref l/\y = .ref b/\H l=some (.lst xs)/\H b=some (.lst zs)/\xs.length + zs.length<=sizeLine/\∀p,H p=none->Q (.ref p) (upd H p (.lst (xs++zs)))
theorem Nb:OpR X (binaryOp .Add) Pn:=by
 intro pins s σ H x y v u Q I rx ry h;obtain ⟨l,b,xs,zs,rfl,rfl,hH,hB,hz,q⟩:=h
 cases rx
 cases ry
 obtain ⟨z,its,n,r,hl,e⟩:=I.lstM hH;obtain ⟨z2,its2,n2,r2,hl2,e2⟩:=I.lstM hB;refine PySem.P.add_list e e2 ?_ (by rw [uf9,uf9];lia);have ea:its.toArray++its2.toArray=(its++its2).toArray:=by simp
 rw [ea];exact ⟨.ref _,_,I.lnew (t':=s.toks) (r.append r2) (by rw [uf3];lia),rfl,q _ I.fresh⟩
def dS:R2:=λx y H Q=>∃l k xs,x = .ref l/\y = .int k/\H l=some (.lst xs)/\-(2 ^ 63)<=k/\k < 2 ^ 63/\xs.length * k.toNat<=sizeLine/\
 ∀p,H p=none->Q (.ref p) (upd H p (.lst (List.replicate k.toNat xs).flatten))
theorem de (xs:List α)(k:Nat):(List.replicate k xs).flatten.length=k * xs.length:=by
 induction k with
 | zero=>simp
 | succ k ih=>rw [ue3,ug3,uf3,ih,Nat.succ_mul,Nat.add_comm]
end
section
variable {prog:Program}{w:World}{A:Around}{E:Value->Shared->Prop}{s:Shared}
end
section
variable {X:Cx}
end
end L2
namespace Att
open PySem PySem.W PySem.Calls PyProof.Rows
theorem Jw {P:Params}{h:Heap}:∀(ns:List Int) (vs:List Value),WellAll P h vs (ns.map WData.int)->IntsAre vs ns:=by
 intro ns
 induction ns with
 | nil=>
   intro vs w;rw [um8] at w
   cases w
   exact .nil
 | cons n ns ih=>
   intro vs w;rw [ul4] at w
   cases w with
   | cons a b=>
     cases a
     exact .cons _ _ (ih _ b)
theorem Rw {l:OpenLaw}{n:Nat}(hn:l.most=some n){P:Params}{h:Heap}{args:List WData}{vals:List Value}
 (hpre:l.row.toRowW.claim.pre args=true) (hwl:WellAll P h vals args) :
 ∃a vs ns,vals=[Value.ref a]/\args=[WData.list (ns.map WData.int)]/\h.get? a=some { cls:=.type "list",data:=.seq vs.toArray }/\IntsAre vs ns/\ns.length<=n:=by
 have hsh:WShape.hasAll [] args [.list .int]=true:=(pre_splitW hpre).1;have hc:l.pre.holds [] { args:=args }=true:=(pre_splitW hpre).2;obtain ⟨d,r,rfl,h1,h2⟩:=hasAllW_cons hsh;obtain rfl:=hasAllW_nil h2;obtain ⟨xs,rfl,h3⟩:=hasW_list h1;obtain ⟨ns,rfl⟩:=items_int h3;have hlen:ns.length<=n:=by
  unfold OpenLaw.pre at hc;have h4:(WTm.not (.lt (.lit (.int (n:Int))) (.len (.arg 0)))).holds [] { args:=[.list (ns.map .int)] }=true:=by
   have h4:=(holds_andW hc).1;rw [hn] at h4;exact h4
  have h5:=condW_of h4 (w_not (w_lt w_lit (w_len_list (w_arg rfl))));rw [uj0] at h5;refine Nat.le_of_not_lt λq=>?_;have q':(n:Int) < ((ns.length:Nat):Int):=by lia
  first
   | (rw [ul1 q'] at h5;exact absurd h5 (by decide))
   | (simp at h5;lia)
 cases hwl with
 | cons w1 w2=>
   cases w2
   cases w1 with
   | list ho hall=>exact ⟨_,_,ns,rfl,rfl,ho,Jw ns _ hall,hlen⟩
theorem Ri (l:OpenLaw)(args:List WData):l.row.toRowW.claim.post args (.bool true) args=true:=
 postW_of (r:=l.row.toRowW) (X:=(true == true))
  (show WShape.has [] (.bool true) .bool=true by first | rfl | decide | simp [WShape.has,WShape.arms,WShape.armsAll])
  (show (WTm.eq .res (.lit (.bool true))).value [] { args:=args,res:=some (.bool true),after:=args }=some (.bool (true == true)) from w_eq_bool (w_res rfl) w_lit) rfl
theorem attach_call {l:OpenLaw}{n:Nat}{q:Program}{loose:List Str}{XP:(Str->Option Value)->Heap->Prop}{YP:World->Heap->Prop}{d:DefRec}
 (hn:l.most=some n) (hdf:d.params.defaults=[])
 (call:∀(w:World) (s₀ s₁:Shared) (mg mb:Str->Option Value) (fa:Addr) (o:Obj) (pm cd doc:Value) (a:Addr) (vs:List Value) (ns:List Int),
   Ground q loose [] XP w s₀ mg mb s₁.heap->YP w s₁.heap->
   s₁.heap.get? fa=some o->o.data = .func (docDef d.name d.params d.body d.scope pm cd doc)->s₁.heap.CodeRec cd d.name->mg d.name=some (.ref fa)->
   s₁.heap.get? a=some { cls:=.type "list",data:=.seq vs.toArray }->IntsAre vs ns->ns.length<=n->s₁.gens=#[]->
   codeAny (model l.prog w) callerA (.call (.ref fa) ⟨[.ref a],[]⟩) (λr s'=>r = .ok (.ret (.bool true))/\OldK s₁.heap s'.heap/\s'.os=s₁.os/\AllBare s'.gens) s₁) :
 WalkO q loose XP YP l.row.toRowW d [] (λf vs=>PySem.call f vs):=by
 intro w s₀ s₁ mg mb G Y fa o pm cd doc dV kV ho hd hcd hD hmg hg args vals as hpre hlay hrd hwl hlo;obtain rfl:dV = .none:=Dflts.none hD hdf;obtain rfl:kV = .none:=Dflts.noKw hD;obtain ⟨a,vs,ns,rfl,rfl,hobj,hints,hlen⟩:=Rw hn hpre hwl;refine enter_call (codeAny_mono (call w s₀ s₁ mg mb fa o pm cd doc a vs ns G Y ho (fd_plain hd) hcd hmg hobj hints hlen hg) λr s' hq=>?_);obtain ⟨rfl,h2,h3,h4⟩:=hq;exact ⟨.inl ⟨.bool true,.bool true,[],rfl,λ_=>rfl,.bool true,Ri l _,λ_=>⟨List.Pairwise.nil,λ_ hm=>(nomatch hm)⟩⟩,h2,h3,h4⟩
section
variable {prog:Program}{w:World}{A:Around}{E:Value->Shared->Prop}{s:Shared}{K:Frag}
noncomputable def dm (h:Heap)(L d:Addr):List (Addr×Obj):=(List.range h.objs.size).filterMap λa=>if a=L\/a=d then none else (h.get? a).map λo=>(a,o)
end
end Att
namespace L2
open PySem PySem.Spec PyProof.Rows
theorem K9:∀{vs:List Value} {ns:List Int},IntsAre vs ns->Vals (ns.map V.int) vs
 | _,_,.nil=>.nil
 | _,_,.cons n t h=>.cons ⟨t,rfl⟩ (K9 h)
def OG (H:Hp):Prop:=∀b,H b=none\/∃o xs,H b=some (.frz o (.lst xs))
variable {P:Program}{w:World}{fd:FuncData}{x:Str}
theorem Ta {K:PySem.W.Frag}{mg mb:Str->Option Value}{CX:CXT}{k:Nat}{fa a:Addr}{sp:Sp}{s₁:Shared}{vs:List Value}{ns:List Int}
 (KX:K.In s₁.heap) (hns:s₁.heap.Ns mainGlobals mg) (hb:s₁.heap.Ns builtinsNs mb) (hbb:∀x:Str,x≠"__name__"->mb x=bootBuiltins x) (hlim:s₁.heap.NoLimit) (hg:s₁.gens=#[])
 (ha:s₁.heap.get? a=some { cls:=.type "list",data:=.seq vs.toArray }) (hi:IntsAre vs ns) (hl:ns.length<=sizeLine) (hr:Room k callerA)
 (F:∀base:Heap,K.In base->base.Ns mainGlobals mg->FnOk P w K mg base CX k fa fd [x] sp) (hbind:∀(s:Shared) (u:Value),BindsTo s fd ⟨[u],[]⟩ [(x,u)])
 (hsp:∀H:Hp,OG H->SqL K H a (ns.map V.int)->sp [.ref a] H (λv _=>v = .bl true) λ_ _ _=>False)
 (hCX:∀H e s',CX [] H s₁ (λ_ _ _=>False) e s'->False) :
 codeAny (model P w) callerA (.call (.ref fa) ⟨[.ref a],[]⟩) (λr s'=>r = .ok (.ret (.bool true))/\OldK s₁.heap s'.heap/\s'.os=s₁.os/\AllBare s'.gens) s₁:=by
 have rv:=K9 hi;have lenV:=hi.length
 -- from an abstract heap in which nothing but the script may be tracked
 have core:∀H:Hp,OG H->SqL K H a (ns.map V.int)->HOk P w H s₁.heap->(∀b,H b≠none->b=a)->(H a≠none->K.lookup a=none)->
  codeAny (model P w) callerA (.call (.ref fa) ⟨[.ref a],[]⟩) (λr s'=>r = .ok (.ret (.bool true))/\OldK s₁.heap s'.heap/\s'.os=s₁.os/\AllBare s'.gens) s₁:=by
  intro H hO hS hok hA hK;have base_of:∀{b:Addr} {o:Obj},s₁.heap.get? b=some o->H b=none->(Gp s₁.heap H).get? b=some o:=λe n=>SX e n;have noA:∀{b:Addr} {o:Obj} {es:Array DictEntry} {ep:Nat},s₁.heap.get? b=some o->o.data = .dict es ep->H b=none:=λ{b o es ep} e d=>by
   cases q:H b with
   | none=>rfl
   | some u=>
     have e':b=a:=hA b (by rw [q];simp);subst e';rw [ha] at e;cases e
     have d':Data.seq vs.toArray _=Data.dict es ep:=d
     cases d'
  have nsK:∀{b:Addr} {m:Str->Option Value},s₁.heap.Ns b m->(Gp s₁.heap H).Ns b m:=λ{b m} ⟨o,es,ep,e,d,r⟩=>⟨o,es,ep,base_of e (noA e d),d,r⟩;have hKb:K.In (Gp s₁.heap H):=λb o e=>base_of (KX b o e) (by
   cases q:H b with
   | none=>rfl
   | some u=>
     have e':b=a:=hA b (by rw [q];simp);subst e';rw [hK (by rw [q];simp)] at e;cases e)
  have hM:Mod K mg (Gp s₁.heap H):=⟨hKb,nsK hns,⟨mb,nsK hb,hbb⟩,let ⟨mc,h1,h2⟩:=hlim;⟨mc,nsK h1,h2⟩⟩;have e0:Env0 P w K mg (Gp s₁.heap H) callerA [] s₁ H:=⟨rfl,hM,λb o e=>VN e,um7 (QE _ _),trivial,λb hb=>absurd (show b∈([]:List Addr) from hb) (by simp),hok,.of_eq hg⟩;refine codeAny_mono ((F _ hKb (nsK hns)).run callerA [] s₁ H ⟨[.ref a],[]⟩ [.ref a] [.ref a] _ _ hr e0 (hbind s₁ (.ref a)) (.cons rfl .nil) (hsp H hO hS)) λr s' h=>?_
  cases r with
  | error e=>exact (hCX H e s' h).elim
  | ok fl=>
    cases fl with
    | next=>exact False.elim h
    | brk=>exact False.elim h
    | cont=>exact False.elim h
    | ret u=>
      obtain ⟨v,H',os,bare,un,hok',r',q⟩:=h;have q':v = .bl true:=q;subst q';obtain rfl:u=Value.bool true:=r';refine ⟨rfl,OldK.of_keep λb o e=>?_,os,bare⟩
      cases q:H b with
      | none=>exact un.keep b o e q (by intro z;exact absurd (show b∈([]:List Addr) from z) (by simp)) (by simp)
      | some u=>
        rcases hO b with z | ⟨ob,xs,z⟩
        ·rw [q] at z;cases z
        ·have z2:=un.frzs b ob _ z;obtain ⟨e1,_⟩:=hok b _ z;obtain ⟨e2,_⟩:=hok' b _ z2;rw [e] at e1;cases e1
         exact e2
 cases hk:K.lookup a with
 | some o=>
   -- the script is one of the module's own objects
   have e:=KX a o hk;rw [ha] at e
   cases e
   refine core (λ_=>none) (λ_=>.inl rfl) (.inr ⟨_,vs.toArray,_,hk,rfl,rfl,rfl,by rw [uf9,lenV];exact hl,by simpa using rv⟩) (λb u z=>by have z':(none:Option HO)=some u:=z;cases z') (λb z=>absurd rfl z) λz=>absurd rfl z
 | none=>
   refine core (λb=>if b=a then some (.frz { cls:=.type "list",data:=.seq vs.toArray } (.lst (ns.map V.int))) else none) (λb=>?_) (.inl (.inr ⟨{ cls:=.type "list",data:=.seq vs.toArray },if_pos rfl⟩)) (λb u z=>?_) (λb z=>?_) λ_=>hk
   ·by_cases hb:b=a
    ·exact .inr ⟨_,_,if_pos hb⟩
    ·exact .inl (if_neg hb)
   ·by_cases hb:b=a
    ·have z':=(if_pos hb).symm.trans z
     cases z'
     subst hb;exact ⟨ha,by rw [uj0];exact hl,vs,_,rv,ha⟩
    ·have z':=(if_neg hb).symm.trans z
     cases z'
   ·by_cases hb:b=a
    ·exact hb
    ·exact absurd (if_neg hb) z
theorem W3 {l:PySem.W.OpenLaw}{n k:Nat}{q:Program}{loose:List Str}{XP:(Str->Option Value)->Heap->Prop}{YP:World->Heap->Prop}{d:DefRec}{K:Params->PySem.W.Frag}{CX:World->CXT}{sp:World->Sp}
 (hn:l.most=some n) (hn2:n<=sizeLine) (hdf:d.params.defaults=[]) (hr:Room k callerA)
 (hY:∀(w:World) (h:Heap),YP w h->(K w.params).In h)
 (F:∀(w:World) (mg:Str->Option Value) (fa:Addr) (h:Heap),(K w.params).In h->h.Ns mainGlobals mg->mg d.name=some (.ref fa)->
   ∃fd:FuncData,(∀(s:Shared) (u:Value),BindsTo s fd ⟨[u],[]⟩ [(x,u)])/\
    ∀base:Heap,(K w.params).In base->base.Ns mainGlobals mg->FnOk l.prog w (K w.params) mg base (CX w) k fa fd [x] (sp w))
 (hsp:∀(w:World) (H:Hp) (a:Addr) (ns:List Int),ns.length<=n->OG H->SqL (K w.params) H a (ns.map V.int)->sp w [.ref a] H (λv _=>v = .bl true) λ_ _ _=>False)
 (hCX:∀(w:World) (H:Hp) (s:Shared) (e:Value) (s':Shared),CX w [] H s (λ_ _ _=>False) e s'->False) :
 PySem.W.WalkO q loose XP YP l.row.toRowW d [] (λf vs=>PySem.call f vs):=by
 refine Att.attach_call hn hdf λw s₀ s₁ mg mb fa o pm cd doc a vs ns G Y ho hd hcd hmg hobj hints hlen hg=>?_;have KX:=hY w _ Y;obtain ⟨fd,hb,hF⟩:=F w mg fa _ KX G.T.g hmg;exact Ta KX G.T.g G.T.b G.T.builtins G.T.nolimit hg hobj hints (um4 hlen hn2) hr hF hb (λH hO hS=>hsp w H a ns hlen hO hS) λH e s'=>hCX w H s₁ e s'
noncomputable def DX (s:Stmt):Arguments:=match s with
 | .FunctionDef _ a _ _ _ _ _ _ _ _=>a
 | _=>{ posonlyargs:=[],args:=[],vararg:=none,kwonlyargs:=[],kw_defaults:=[],kwarg:=none,defaults:=[] }
noncomputable def Bt (s:Stmt):List Stmt:=match s with
 | .FunctionDef _ _ b _ _ _ _ _ _ _=>b
 | _=>[]
noncomputable def As (s:Stmt):Scope:=match s with
 | .FunctionDef _ _ _ _ _ _ sc _ _ _=>sc
 | _=>{ kind:=.function,names:=[],isGenerator:=false,isCoroutine:=false }
abbrev CX0:CXT:=λ_ _ _ _ _ _=>False
abbrev E0:XK:=λ_ _ _=>False
variable {X:Cx}
theorem Gy:EI CX0 X E0:=λ_ _ _ _ _ _ _ h=>h.elim
structure Fun (K:PySem.W.Frag)(x qual:Str)(st:Stmt)(f:Addr)(fd:FuncData):Prop where
 ex:∃(oc:Value) (od:Option Addr) (kV doc pm:Value) (an:Option Addr) (cdv ct:Value) (osl:Array (Option Value)),
  fd=PySem.W.fnOf x qual (DX st) (Bt st) (As st) .none kV doc pm an cdv ct/\K.lookup f=some ⟨oc,od,.func fd,osl⟩/\PySem.W.codeIn K cdv qual=true
 kp:PySem.W.keepIn K (.ref f)=true
variable {qual:Str}{f:Addr}
section
variable {P:Program}{w:World}{K:PySem.W.Frag}{mg:Str->Option Value}{base:Heap}
theorem Fun.ok {st:Stmt}{N ps:List Str}{k:Nat}{sp:Sp}(F:Fun K x qual st f fd)(S:FnScope N ps (As st))(len:∀vs H Q E,sp vs H Q E->vs.length=ps.length)
 (hbody:∀(cdv:Value) (A:Around) (outer:List Env) (s:Shared) (H:Hp) (vs:List V) (Q:VK) (E:XK),Room k (A.deeper (envOfC qual (As st) s.heap.objs.size f cdv))->sp vs H Q E->
   ∃t,PSs (Dh CX0 P w K mg base N qual (As st) f cdv A outer s H E).nox (Bt st) t/\t { nx:=λ_ H'=>Q .non H',rt:=Q } (start N vs) H):FnOk P w K mg base CX0 (k + 1) f fd ps sp:=by
 obtain ⟨oc,od,kV,doc,pm,an,cdv,ct,osl,rfl,lk,hcd⟩:=F.ex;refine UA lk hcd S len λA outer s H vs Q E hr hsp=>?_;obtain ⟨t,h,q⟩:=hbody cdv A outer s H vs Q E hr hsp;exact ⟨t,h.nox,q⟩
theorem Fun.binds {st:Stmt}{ps:List Str}(F:Fun K x qual st f fd)
 (h:∀(kV doc pm:Value) (an:Option Addr) (cdv ct:Value) (us:List Value),us.length=ps.length->bindArgs (PySem.W.fnOf x qual (DX st) (Bt st) (As st) .none kV doc pm an cdv ct) ⟨us,[]⟩=pure (ps.zip us)):Binds K fd ps []:=by
 obtain ⟨oc,od,kV,doc,pm,an,cdv,ct,osl,rfl,lk,hcd⟩:=F.ex;exact .all (h kV doc pm an cdv ct)
theorem F1 {st:Stmt}{oc:Value}{od an:Option Addr}{osl:Array (Option Value)}{kV doc pm cdv ct:Value}(l:K.lookup f=some ⟨oc,od,.func (PySem.W.fnOf x qual (DX st) (Bt st) (As st) .none kV doc pm an cdv ct),osl⟩)
 (c:PySem.W.codeIn K cdv qual=true) (k:PySem.W.keepIn K (.ref f)=true):Fun K x qual st f (PySem.W.fnOf x qual (DX st) (Bt st) (As st) .none kV doc pm an cdv ct):=⟨⟨oc,od,kV,doc,pm,an,cdv,ct,osl,rfl,l,c⟩,k⟩
end
section
variable {X:Cx}
end
def dN (H H':Hp):Prop:=∀b o,H b=some o->H' b=some o
section
variable {κ:Type}[DecidableEq κ]
noncomputable def Dz (kvs:List (κ×V))(k:κ):Option V:=(kvs.find? λkv=>decide (kv.1=k)).map (·.2)
noncomputable def Dx (kvs:List (κ×V))(k:κ)(v:V):List (κ×V):=
 if (kvs.any λkv=>decide (kv.1=k))=true then kvs.map (λkv=>if kv.1=k then (kv.1,v) else kv) else kvs++[(k,v)]
theorem GF {p:κ×V}{r:List (κ×V)}{k:κ}(e:p.1=k):Dz (p :: r) k=some p.2:=by simp [Dz,uj6,e]
theorem GD {p:κ×V}{r:List (κ×V)}{k:κ}(e:¬p.1=k):Dz (p :: r) k=Dz r k:=by simp [Dz,uj6,e]
theorem Ik (kvs:List (κ×V))(k:κ)(v:V):(Dx kvs k v).length<=kvs.length + 1:=by
 unfold Dx
 split
 ·rw [uj0];lia
 ·rw [uf3,uh2,uj7];lia
theorem RelO.isSome_eq {o:Option V}{u:Option Value}(r:RelO o u):o.isSome=u.isSome:=by
 cases o with
 | none=>cases u with
   | none=>rfl
   | some _=>exact (show False from r).elim
 | some _=>cases u with
   | none=>exact (show False from r).elim
   | some _=>rfl
theorem KV.val {kvs:List (κ×V)}{vs:List (κ×Value)}(r:KV kvs vs)(k:κ):RelO (Dz kvs k) (valueAt vs k):=by
 unfold KV at r
 induction r with
 | nil=>exact True.intro
 | @cons p q ps qs h t ih=>
   obtain ⟨h1,h2⟩:=h
   by_cases e:p.1=k
   ·have e':q.1=k:=h1.symm.trans e;have b:valueAt (q :: qs) k=some q.2:=by simp [valueAt,uj6,e']
    rw [GF e,b];exact h2
   ·have e':¬q.1=k:=λz=>e (h1.trans z);have b:valueAt (q :: qs) k=valueAt qs k:=by simp [valueAt,uj6,e']
    rw [GD e,b];exact ih
theorem KV.any {kvs:List (κ×V)}{vs:List (κ×Value)}(r:KV kvs vs)(k:κ):(kvs.any λkv=>decide (kv.1=k))=vs.any λkv=>decide (kv.1=k):=by
 unfold KV at r
 induction r with
 | nil=>rfl
 | cons h t ih=>rw [ul7,ul7,ih,h.1]
theorem KV.repl {kvs:List (κ×V)}{vs:List (κ×Value)}(r:KV kvs vs)(k:κ){y:V}{u:Value}(ry:RelV y u) :
 KV (kvs.map λkv=>if kv.1=k then (kv.1,y) else kv) (vs.map λkv=>if kv.1=k then (kv.1,u) else kv):=by
 unfold KV at r ⊢
 induction r with
 | nil=>exact .nil
 | @cons p q ps qs h t ih=>
   rw [ul4,ul4];refine .cons ?_ ih;obtain ⟨h1,h2⟩:=h
   by_cases e:p.1=k
   ·rw [if_pos e,if_pos (h1.symm.trans e)];exact ⟨h1,ry⟩
   ·rw [if_neg e,if_neg (λz=>e (h1.trans z))];exact ⟨h1,h2⟩
theorem KV.put {kvs:List (κ×V)}{vs:List (κ×Value)}(r:KV kvs vs)(k:κ){y:V}{u:Value}(ry:RelV y u):KV (Dx kvs k y) (stored vs k u):=by
 unfold Dx stored;rw [r.any k]
 by_cases e:(vs.any λkv=>decide (kv.1=k))=true
 ·rw [if_pos e,if_pos e];exact r.repl k ry
 ·rw [if_neg e,if_neg e];exact Paired.snoc r ⟨rfl,ry⟩
theorem KV.length {kvs:List (κ×V)}{vs:List (κ×Value)}(r:KV kvs vs):kvs.length=vs.length:=Paired.length r
end
theorem Jy {k:Key}{u:Value}(r:RelV (kV k) u):(BQ P w).is k u=true:=by
 cases k with
 | inl i=>obtain ⟨t,e⟩:=(show ∃t,u=Value.int i t from r);subst e;exact NI P w i t
 | inr x=>obtain ⟨t,e⟩:=(show ∃t,u=Value.str x t from r);subst e;exact NJ P w x t
theorem KY {P:Program}{w:World}:∀{ks:List Key} {us:List Value},Vals (ks.map kV) us->ItemsAre (BQ P w) ks us
 | [],_,r=>by rw [um8] at r;cases r;exact .nil
 | k :: ks,_,r=>by
   rw [ul4] at r
   cases r with
   | cons h t=>exact .cons (Jy h) (KY t)
abbrev KT (H:Hp):List (List Key×V)->List (List Key×Addr×Value)->Prop:=Paired λp q=>p.1=q.1/\H q.2.1=some (.tup (p.1.map kV))/\RelV p.2 q.2.2
variable {H:Hp}
theorem KT.val {kvs:List (List Key×V)}{xs:List (List Key×Addr×Value)}(r:KT H kvs xs)(k:List Key):RelO (Dz kvs k) ((atKey xs k).map (·.2)):=by
 induction r with
 | nil=>exact True.intro
 | @cons p q ps qs h t ih=>
   obtain ⟨h1,_,h2⟩:=h
   by_cases e:p.1=k
   ·have e':q.1=k:=h1.symm.trans e;have b:atKey (q :: qs) k=some q.2:=by simp [atKey,uj6,e']
    rw [GF e,b];exact h2
   ·have e':¬q.1=k:=λz=>e (h1.trans z);have b:atKey (q :: qs) k=atKey qs k:=by simp [atKey,uj6,e']
    rw [GD e,b];exact ih
variable {kvs:List (Key×V)}
section
variable {P:Program}{w:World}{H:Hp}{h:Heap}{a:Addr}
theorem UK {u:HO}(ok:HOk P w H h)(e:Rd H a u):ObjOk P w H h a u:=e.ok ok
theorem Uw (ok:HOk P w H h)(e:Rd H a (.dK kvs)):kvs.length<=sizeLine/\(a == sysModules)=false/\∃vs,KV kvs vs/\h.DictOf (BQ P w) a vs:=
 show ObjOk P w H h a (.dK kvs) from UK ok e
theorem LB (ok:HOk P w H h)(e:H a=some (.dK kvs)):kvs.length<=sizeLine/\(a == sysModules)=false/\∃vs,KV kvs vs/\h.DictOf (BQ P w) a vs:=Uw ok (.inl e)
theorem QR {ks:List Key}(ok:HOk P w H h)(e:H a=some (.tup (ks.map kV))):(tupleKind (BQ P w)).is h ks a:=by
 obtain ⟨_,its,r,o,h1,h2,n,h3⟩:=(show ObjOk P w H h a (.tup (ks.map kV)) from ok a _ e);exact ⟨o,its.toArray,n,h1,h2,h3,by simpa using KY r⟩
theorem Zx {kvs:List (List Key×V)}(ok:HOk P w H h)(e:Rd H a (.dT kvs)):kvs.length<=sizeLine/\(a == sysModules)=false/\
 ∃xs,KT H kvs xs/\h.DictOfH (tupleKind (BQ P w)) a xs:=by
 obtain ⟨z,y,xs,r,o,es,ep,h1,h2,h3,h4,h5⟩:=(show ObjOk P w H h a (.dT kvs) from UK ok e);refine ⟨z,y,xs,r,o,es,ep,h1,h2,h3,h4,λx hx=>?_,h5⟩;have all:∀{l:List (List Key×V)} {m:List (List Key×Addr×Value)},KT H l m->∀x∈m,(tupleKind (BQ P w)).is h x.1 x.2.1:=by
  intro l m q
  induction q with
  | nil=>intro x hx;exact nomatch hx
  | @cons p q ps qs hq t ih=>
    intro x hx;rcases ul3.mp hx with e | hx
    ·subst e;exact QR ok (by rw [<-hq.1];exact hq.2.1)
    ·exact ih x hx
 exact all r x hx
end
def DGet (H:Hp)(a:Addr)(y:V)(r:Option V):Prop:=
 (∃kvs k,Rd H a (.dK kvs)/\y=kV k/\r=Dz kvs k)\/∃kvs k b,Rd H a (.dT kvs)/\y = .ref b/\H b=some (.tup (k.map kV))/\r=Dz kvs k
def dJ (H:Hp)(a:Addr)(y v:V)(H':Hp):Prop:=
 (∃kvs k,H a=some (.dK kvs)/\y=kV k/\kvs.length < sizeLine/\H'=upd H a (.dK (Dx kvs k v)))\/
 ∃kvs k b,H a=some (.dT kvs)/\y = .ref b/\H b=some (.tup (k.map kV))/\kvs.length < sizeLine/\H'=upd H a (.dT (Dx kvs k v))
theorem DGet.k {a:Addr}{k:Key}(e:H a=some (.dK kvs)):DGet H a (kV k) (Dz kvs k):=.inl ⟨kvs,k,.inl e,rfl,rfl⟩
section
variable {X:Cx}{pins:List (Addr×Obj)}{σ:St}{H:Hp}{s:Shared}{a:Addr}{y v:V}{u r:Value}{o:Option V}{A:Around}{E:Value->Shared->Prop}
theorem Inv.big (I:Inv X pins σ H s):sysModules < s.heap.objs.size:=by
 have h:mainGlobals < s.heap.objs.size:=(I.mod.glob.keeps I.bk).lt;exact Nat.lt_trans (by decide) h
theorem a9 {Q:Value->Shared->Prop}(hu:A.units + 1 < cLine)(I:Inv X pins σ H s)(g:DGet H a y o)(ry:RelV y u)(h:∀s',Inv X pins σ H s'->Q (.bool o.isSome) s') :
 wpAny (model X.prog X.w) A (compareOp .In u (.ref a)) Q E s:=by
 rcases g with ⟨kvs,k,e,ey,l⟩ | ⟨kvs,k,b,e,ey,eb,l⟩
 ·subst ey;obtain ⟨z,hd,vs,rel,dd⟩:=Uw I.hok e;refine wpAny_in_of (Jy ry) hd dd.mapOf ?_;rw [<-(rel.val k).isSome_eq,<-l];exact h _ (I.tok _)
 ·subst ey
  cases (show u=Value.ref b from ry)
  obtain ⟨z,hd,xs,rel,dd⟩:=Zx I.hok e;refine wpAny_in_heap (tupleKind_room_in1 hu) (QR I.hok eb) hd dd ?_;have q:=(rel.val k).isSome_eq;rw [Option.isSome_map] at q;rw [<-q,<-l];exact h _ (I.tok _)
theorem NW {h':Heap}{t':Nat}{ob:HO}(I:Inv X pins σ H s)(mu:Mut (H a))(hs:Heap.SameBut a s.heap h')(he:∃q,h'.get? a=some q)(new:ObjOk X.prog X.w (upd H a ob) h' a ob) :
 Inv X pins σ (upd H a ob) { s with heap:=h',toks:=t' }:=
 I.write (x:=a) (e:=a) mu (.inl rfl) (λb q hb z=>(hs.2 b hb).trans z) he new
theorem Mn {H':Hp}{h':Heap}{vs:List (Key×Value)}(z:kvs.length<=sizeLine)(hd:(a == sysModules)=false)(rel:KV kvs vs)(dd:h'.DictOf (BQ P w) a vs) :
 ObjOk P w H' h' a (.dK kvs):=⟨z,hd,vs,rel,dd⟩
end
section
variable {X:Cx}{pins:List (Addr×Obj)}{σ:St}{H:Hp}{s:Shared}{a:Addr}{kvs:List (Key×V)}{k:Key}{u:Value}{A:Around}{E:Value->Shared->Prop}
end
section
variable {X:Cx}{o i e value:Expr}{pos pos' tpos:Pos}{td ty tv:TE}
end
theorem Mm (h:Heap)(hb:sysModules < h.objs.size):ObjOk P w H (h.push { cls:=.type "dict",data:=.dict #[] }) h.objs.size (.dK []):=
 ⟨un6 _,beq_eq_false_iff_ne.mpr (Ne.symm (um3 hb)),[],.nil,Heap.DictOf.new h⟩
def Y8:TE:=λ_ H Q=>∀p,H p=none->Q (.ref p) (upd H p (.dK []))
section
variable {X:Cx}{pos:Pos}
theorem Tz:PE X (.Dict [] [] pos) Y8:=λpins s σ H Q I h=>
 wpAny_Dict_empty ⟨.ref s.heap.objs.size,_,I.laid (a:=s.heap.objs.size) (o:=.dK []) (t':=s.toks) (λ_ _ q=>uc1 _ q) (un5 _) (Mm s.heap I.big),rfl,h _ (I.hok.fresh (un5 _))⟩
end
def JN:List (TE×TE)->St->Hp->(List (V×V)->Hp->Prop)->Prop
 | [],_,H,Q=>Q [] H
 | (tk,tv) :: r,σ,H,Q=>tk σ H λx H1=>tv σ H1 λy H2=>JN r σ H2 λps H3=>Q ((x,y) :: ps) H3
abbrev VV:List (V×V)->List (Value×Value)->Prop:=Paired λp q=>RelV p.1 q.1/\RelV p.2 q.2
def PPs (X:Cx)(pos:Pos)(keys:List (Option Expr))(values:List Expr)(trs:List (TE×TE)):Prop:=
 ∀(pins:List (Addr×Obj)) (s:Shared) (σ:St) (H:Hp) (Q:List (V×V)->Hp->Prop),Inv X pins σ H s->JN trs σ H Q->
  wpAny (model X.prog X.w) X.A (evalPairs (pairTrees keys values X.env pos)) (λvs s'=>∃ps H',Inv X pins σ H' s'/\VV ps vs/\Q ps H') X.xe s
theorem Wg {pos:Pos}:PPs X pos [] [] []:=λpins s σ H Q I h=>pairTrees_nil_walk ⟨[],H,I,.nil,h⟩
theorem TK {pos:Pos}{k v:Expr}{ks:List (Option Expr)}{vs:List Expr}{tk tv:TE}{trs:List (TE×TE)}(hk:PE X k tk)(hv:PE X v tv)(hr:PPs X pos ks vs trs) :
 PPs X pos (some k :: ks) (v :: vs) ((tk,tv) :: trs):=λpins s σ H Q I h=>
 pairTrees_cons_walk (thn (hk pins s σ H _ I h) λu s1 ⟨x,H1,I1,rx,q1⟩=>thn (hv pins s1 σ H1 _ I1 q1) λw2 s2 ⟨y,H2,I2,ry,q2⟩=>
  thn (hr pins s2 σ H2 _ I2 q2) λws s3 ⟨ps,H3,I3,rel,q3⟩=>⟨(x,y) :: ps,H3,I3,.cons ⟨rx,ry⟩ rel,q3⟩)
def Fq (kvs more:List (Key×V)):List (Key×V):=more.foldl (λacc kv=>Dx acc kv.1 kv.2) kvs
theorem KV.merge:∀{more:List (Key×V)} {rs:List (Key×Value)} {kvs:List (Key×V)} {vs:List (Key×Value)},KV more rs->KV kvs vs->KV (Fq kvs more) (merged vs rs):=by
 intro more rs kvs vs r;unfold KV at r
 induction r generalizing kvs vs with
 | nil=>intro q;exact q
 | @cons p q ps qs h t ih=>
   intro r0;have e:KV (Dx kvs p.1 p.2) (stored vs q.1 q.2):=by
    have:=r0.put p.1 h.2;rw [<-h.1];exact this
   exact ih e
theorem GJ:∀(more kvs:List (Key×V)),(Fq kvs more).length<=kvs.length + more.length
 | [],kvs=>by show kvs.length<=kvs.length + 0;lia
 | p :: r,kvs=>by
   have h1:=GJ r (Dx kvs p.1 p.2);have h2:=Ik kvs p.1 p.2;show (Fq (Dx kvs p.1 p.2) r).length<=_;rw [uh2];lia
theorem Jl {P:Program}{w:World}:∀{kvs:List (Key×V)} {ws:List (Value×Value)},VV (kvs.map λkv=>(kV kv.1,kv.2)) ws->∃rs,Carries (BQ P w) ws rs/\KV kvs rs
 | [],_,r=>by rw [um8] at r;cases r;exact ⟨[],True.intro,.nil⟩
 | p :: kvs,_,r=>by
   rw [ul4] at r
   cases r with
   | @cons a b as bs h t=>
     obtain ⟨rs,c,q⟩:=Jl (P:=P) (w:=w) t;obtain ⟨b1,b2⟩:=b;exact ⟨(p.1,b2) :: rs,⟨Jy h.1,rfl,c⟩,.cons ⟨rfl,h.2⟩ q⟩
def Z1 (trs:List (TE×TE)):TE:=λσ H Q=>∀p,H p=none->JN trs σ (upd H p (.dK [])) λps H2=>H2 p=some (.dK [])/\∃kvs:List (Key×V),ps=kvs.map (λkv=>(kV kv.1,kv.2))/\kvs.length<=15/\Q (.ref p) (upd H2 p (.dK (Fq [] kvs)))
theorem V1 {pos:Pos}{keys:List (Option Expr)}{values:List Expr}{trs:List (TE×TE)}(h:PPs X pos keys values trs)(hall:keys.all (·.isSome)=true)(hl:keys.length=values.length)(h0:keys≠[])
 (h15:keys.length<=15):PE X (.Dict keys values pos) (Z1 trs):=by
 intro pins s σ H Q I q;have hn:=I.hok.fresh (un5 s.heap.objs.size);have I1:=I.laid (a:=s.heap.objs.size) (o:=.dK []) (h':=s.heap.push { cls:=.type "dict",data:=.dict #[] }) (t':=s.toks) (λ_ _ q=>uc1 _ q) (un5 _) (Mm s.heap I.big);refine wpAny_Dict_walk (knd:=BQ X.prog X.w) hall hl h0 h15 (thn (h pins _ σ _ _ I1 (q _ hn)) λws s2 z9=>?_);obtain ⟨ps,H2,I2,rel,e,kvs,ep,lk,q2⟩:=z9;subst ep;obtain ⟨rs,c,rk⟩:=Jl (P:=X.prog) (w:=X.w) rel;obtain ⟨z,hd,vs0,r0,dd⟩:=LB I2.hok e
 cases r0
 refine ⟨rs,c,dd,λh' dd' hs=>⟨.ref s.heap.objs.size,_,?_,rfl,q2⟩⟩;have hz:(Fq [] kvs).length<=sizeLine:=by
  have h1:=GJ kvs [];rw [uj7] at h1;rw [sizeLine_eq];lia
 have he:∃q,h'.get? s.heap.objs.size=some q:=let ⟨q,_,_,hq,_⟩:=dd';⟨q,hq⟩;exact NW I2 (by rw [e];exact True.intro) hs he (Mn hz hd (rk.merge .nil) dd')
theorem Ff {env:Env}:∀(l:List (Str×NameKind)) (cs:List (Str×Addr)),(∀x c,cs.lookup x=some c->env.cells.lookup x=some c)->(∀y∈l,y.2 = .free->∃c,env.cells.lookup y.1=some c)->
 ∃cl,(forIn l cs λ(x:Str×NameKind) r=>(match x with | (name,kind)=>if (kind == NameKind.free)=true then do let c <-cellOf env name;pure (ForInStep.yield ((name,c) :: r)) else pure (ForInStep.yield r):Sem (ForInStep (List (Str×Addr)))))=pure cl/\
  (∀x c,cl.lookup x=some c->env.cells.lookup x=some c)/\(∀x c,cs.lookup x=some c->∃c',cl.lookup x=some c')/\∀y∈l,y.2 = .free->∃c,cl.lookup y.1=some c
 | [],cs,h,_=>⟨cs,rfl,h,λ_ c e=>⟨c,e⟩,λ_ z=>nomatch z⟩
 | (n,k) :: l,cs,h,hf=>by
   by_cases hk:k = .free
   ·subst hk;obtain ⟨c,hc⟩:=hf (n,.free) ue9 rfl;have hc':env.cells.lookup n=some c:=hc;have e:cellOf env n=pure c:=by unfold cellOf;rw [hc']
    obtain ⟨cl,e1,e2,e3,e4⟩:=Ff l ((n,c) :: cs) (λx c' q=>by
     rw [uh7] at q
     by_cases hx:(x == n)=true
     ·rw [hx] at q;cases q;rw [eq_of_beq hx];exact hc'
     ·rw [ug5.mpr hx] at q;exact h x c' q) (λy hy=>hf y (ud5 _ hy))
    have self:((n,c) :: cs).lookup n=some c:=by rw [uh7,ui6]
    refine ⟨cl,?_,e2,λx c' q=>?_,λy hy hyf=>?_⟩
    ·rw [List.forIn_cons];simp only [ui6,if_true,e];exact e1
    ·by_cases hx:(x == n)=true
     ·rw [eq_of_beq hx];exact e3 n c self
     ·exact e3 x c' (by rw [uh7,ug5.mpr hx];exact q)
    ·rcases ul3.mp hy with z | z
     ·subst z;exact e3 n c self
     ·exact e4 y z hyf
   ·have hb:(k == NameKind.free)=false:=by simpa using hk
    obtain ⟨cl,e1,e2,e3,e4⟩:=Ff l cs h (λy hy=>hf y (ud5 _ hy));refine ⟨cl,?_,e2,e3,λy hy hyf=>?_⟩
    ·rw [List.forIn_cons];simp only [hb,uf4,if_false];exact e1
    ·rcases ul3.mp hy with z | z
     ·subst z;exact absurd hyf hk
     ·exact e4 y z hyf
theorem Jn {scope:Scope}{env:Env}(h:∀y∈scope.names,y.2 = .free->∃c,env.cells.lookup y.1=some c) :
 ∃cl,closureFor scope env=pure cl/\(∀x c,cl.lookup x=some c->env.cells.lookup x=some c)/\∀y∈scope.names,y.2 = .free->∃c,cl.lookup y.1=some c:=by
 obtain ⟨cl,e1,e2,_,e4⟩:=Ff (env:=env) scope.names [] (λ_ _ q=>nomatch q) h;refine ⟨cl,?_,e2,e4⟩;simp only [closureFor]
 first | (rw [e1];rfl) | (simp only [e1];rfl) | (trace_state;exact e1)
theorem Mj {prog:Program}{A:Around}{R:Result->Shared->Prop}{s:Shared}{elt target iter:Expr}{ifs:List Expr}{scope:Scope}{pos:Pos}{it acc:Value}{env:Env}(I:Nat->Shared->Prop)
 (turn:∀n s,I n s->wpAny (model prog w) A (pyNext it) (λr s₁=>match r with
   | none=>R (.ok .next) s₁
   | some v=>wpAny (model prog w) A (letOwnedTupleGo target it v) (λ_ s₁'=>wpAny (model prog w) A (assign target env v) (λ_ s₂=>
      wpAny (model prog w) A (forIn ifs true λc r=>if r=true then do let ok <-isTrue c env (eval c env);pure (ForInStep.yield ok) else pure (ForInStep.yield r)) (λok s₃=>
       if ok=true then wpAny (model prog w) A (eval elt env) (λx s₄=>
        wpAny (model prog w) A (call (.builtin "list.append") [acc,x]) (λ_ s₅=>∃m,m < n/\I m s₅) (λ_ _=>False) s₄) (λ_ _=>False) s₃
       else ∃m,m < n/\I m s₃) (λ_ _=>False) s₂) (λ_ _=>False) s₁') (λ_ _=>False) s₁) (λ_ _=>False) s)
 (n:Nat) (h:I n s) :
 codeAny (model prog w) A (.compLoop (.ListComp elt [⟨target,iter,ifs,0⟩] scope pos) 0 it acc env) R s:=by
 refine codeAny_loop rfl I (λn s hI=>?_) n h;show wpAny _ A ((compTurn (.ListComp elt [⟨target,iter,ifs,0⟩] scope pos) 0 it acc env).onRaise (λx=>do noteFrame x env;theTreesLotGoes x)) _ _ s;refine wpAny_noted ?_;rw [compTurn_list];refine un9 (wpAny_standAt (un9 (uo1 (turn n s hI) (λr s₁ h₁=>?_) λ_ _ h'=>h'.elim)))
 cases r with
 | none=>exact uo0 h₁
 | some v=>
   refine un9 (uo1 h₁ (λ_ s₁' h₁'=>?_) λ_ _ h'=>h'.elim);refine un9 (uo1 h₁' (λ_ s₂ h₂=>un9 (uo1 h₂ (λok s₃ h₃=>?_) λ_ _ h'=>h'.elim)) λ_ _ h'=>h'.elim)
   cases ok with
   | false=>exact uo0 ⟨rfl,h₃⟩
   | true=>
     exact un9 (un9 (uo1 h₃ (λx s₄ h₄=>un9 (uo1 h₄ (λ_ s₅ h₅=>uo0 (uo0 ⟨rfl,h₅⟩)) λ_ _ h'=>h'.elim)) λ_ _ h'=>h'.elim))
end L2
set_option maxHeartbeats 2000000
namespace L2
open PySem PySem.Spec PyProof.Rows
noncomputable def B2 (X:Cx)(N':List Str)(scope:Scope)(cl:List (Str×Addr))(C:Addr)(s2:Shared)(H2:Hp)(fp:List Addr):Cx where
 prog:=X.prog
 w:=X.w
 K:=X.K
 mg:=X.mg
 base:=X.base
 A:=X.A
 N:=N'
 s₀:=s2
 H₀:=H2
 env:=compEnvC scope cl C X.env
 outer:=X.stack
 stack:=X.stack
 ex:=fp
 fn:=λ_=>false
 calm:=X.calm
 pn:=[]
 xe:=λ_ _=>False
theorem Il (h:Str->NameKind->NameKind)(x:Str):∀l:List (Str×NameKind),(l.map λp=>(p.1,h p.1 p.2)).lookup x=(l.lookup x).map (h x)
 | []=>rfl
 | (n,k) :: l=>by
   show List.lookup x ((n,h n k) :: _)=_;rw [uh7,uh7]
   by_cases hx:(x == n)=true
   ·rw [hx,eq_of_beq hx];rfl
   ·rw [ug5.mpr hx];exact Il h x l
theorem F5 (scope:Scope)(env:Env)(x:Str):(relabel scope env).names.lookup x=(scope.names.lookup x).map λk=>if (k == .free && env.scope.kind == .function && env.kindOf x == some .cell)=true then .cell else k:=by
 rw [<-Il (λn k=>if (k == NameKind.free && env.scope.kind == .function && env.kindOf n == some .cell)=true then .cell else k) x scope.names];unfold relabel;dsimp only
 congr 1
 apply ue4;intro p _;obtain ⟨n,k⟩:=p;dsimp only
 split <;> rfl
theorem CH {x:Str}{k:NameKind}:∀{l:List (Str×NameKind)},l.lookup x=some k->(x,k)∈l
 | (n,k') :: l,h=>by
   rw [uh7] at h
   by_cases hx:(x == n)=true
   ·rw [hx] at h;cases h;rw [eq_of_beq hx];exact ue9
   ·rw [ug5.mpr hx] at h;exact ud5 _ (CH h)
theorem Np {scope:Scope}{env:Env}{x:Str}(hcell:∀y∈scope.names,y.2≠.cell)(h:(relabel scope env).names.lookup x=some .cell\/(relabel scope env).names.lookup x=some .free):scope.names.lookup x=some .free:=by
 rw [F5] at h
 cases e:scope.names.lookup x with
 | none=>rw [e] at h;rcases h with h | h <;> cases h
 | some k=>
   by_cases hk:k = .free
   ·rw [hk]
   ·have hb:(k == NameKind.free)=false:=by simpa using hk
    rw [e] at h;simp only [uj8,hb,uk8,uf4,if_false] at h;rcases h with h | h
    ·cases h;exact absurd rfl (hcell _ (CH e))
    ·cases h;exact absurd rfl hk
def PIf (X:Cx)(ifs:List Expr)(t:TT):Prop:=
 ∀(pins:List (Addr×Obj)) (s:Shared) (σ:St) (H:Hp) (Q:Bool->Hp->Prop),Inv X pins σ H s->t σ H Q->
  wpAny (model X.prog X.w) X.A (forIn ifs true λc r=>if r=true then do let ok <-isTrue c X.env (eval c X.env);pure (ForInStep.yield ok) else pure (ForInStep.yield r)) (TP X pins σ Q) X.xe s
def Z7:TT:=λ_ H Q=>Q true H
theorem V6 {X:Cx}:PIf X [] Z7:=λ_ _ _ H _ I h=>wpAny_tests_nil ⟨H,I,h⟩
theorem V7 {X:Cx}{c:Expr}{t:TT}(h:PT X c t):PIf X [c] t:=λpins s σ H Q I q=>wpAny_tests_one (h pins s σ H Q I q)
def RK (J:It)(g:TG)(tt:TT)(te:TE)(σ₀:St)(H1:Hp)(Fin:List V->Hp->Prop):Prop:=
 ∃W:Nat->Nat->List V->St->Hp->Prop,(∃m,W 0 m [] σ₀ H1)/\∀i m acc σ' H',W i m acc σ' H'->acc.length<=sizeLine/\
  ((J.stop i H'/\Fin acc H')\/
    (J.go i H'/\∀x H2,J.yld i H' x H2->g x σ' H2 λσ3 H3=>tt σ3 H3 λb H4=>if b=true then te σ3 H4 λv H5=>∃m',m' < m/\W (i + 1) m' (acc++[v]) σ3 H5 else ∃m',m' < m/\W (i + 1) m' acc σ3 H4))
def LF (wi:TI)(g:TG)(tt:TT)(te:TE)(σf:St->St):TE:=λσ H Q=>wi σ H λJ H1=>RK J g tt te (σf σ) H1 λacc H'=>∀p,H' p=none->acc.length<=sizeLine->Q (.ref p) (upd H' p (.lst acc))
structure CmpOk (X:Cx)(scope:Scope)(N':List Str)(σf:St->St):Prop where
 kind:scope.kind = .function
 cell:∀y∈scope.names,y.2≠.cell
 loc:∀y∈scope.names,y.2 = .local->scope.names.lookup y.1=some .local
 free:∀y∈scope.names,y.2 = .free->X.env.kindOf y.1=some .cell\/X.env.kindOf y.1=some .free
 len:∀σ:St,σ.length=X.N.length->(σf σ).length=N'.length
 vals:∀(σ:St) (j:Nat) (x:Str) (v:V),N'[j]?=some x->(σf σ)[j]?=some (some v)->∃i:Nat,X.N[i]?=some x/\σ[i]?=some (some v)/\scope.names.lookup x=some .free
variable {pins:List (Addr×Obj)}{σ:St}{H2:Hp}{s2:Shared}{cl:List (Str×Addr)}{fp:List Addr}
section
variable {X:Cx}{tg elt iter:Expr}{ifs:List Expr}{scope:Scope}{pos:Pos}{N':List Str}{wi:TI}{g:TG}{tt:TT}{te:TE}{σf:St->St}
theorem Xq {C:Addr}(O:CmpOk X scope N' σf)(I2:Inv X pins σ H2 s2)(f2:∀b∈fp,FpOk X pins H2 b)(hC:s2.heap.objs.size<=C)
 (hlt:∀b∈fp,b < s2.heap.objs.size) (e2:∀x c,cl.lookup x=some c->X.env.cells.lookup x=some c) (e4:∀y∈scope.names,y.2 = .free->∃c,cl.lookup y.1=some c):(B2 X N' scope cl C s2 H2 fp).Ok where
 mod:=I2.ok.mod
 kind:=O.kind
 glob:=I2.ok.glob
 blt:=I2.ok.blt
 above:=hC
 inj:=λx y c h1 h2=>I2.ok.inj x y c (e2 x c h1) (e2 y c h2)
 has:=λx h=>by
  have q:=Np (env:=X.env) (x:=x) O.cell h;exact e4 _ (CH q) rfl
 cab:=λx c h _=>nomatch h
 hd:=I2.ok.hd
 frames:=I2.ok.frames
 stk:=.inl rfl
 exf:=λb hb=>⟨um3 (ue8 (hlt b hb) hC),λx c e=>(f2 b hb).2.2.2.2.1 x c (e2 x c e)⟩
 bs:=I2.bs
 bsz:=um4 I2.ok.bsz I2.sz
 noex:=λb o e hb=>by
  rcases (f2 b hb).2.2.2.1 with z | z
  ·exact I2.ok.noex b o e z
  ·exact absurd (ue8 (um2 (I2.ok.bs b o e).1) z) (ul2 _)
 exfs:=λb hb z=>by
  rcases ul3.mp (I2.stkSub b z) with q | q
  ·exact (f2 b hb).2.1 q
  ·exact (f2 b hb).2.2.1 q
 funs:=I2.stack
 frf:=I2.stkFree
theorem Y4 (I2:Inv X pins σ H2 s2){a:Addr}(h:s2.heap.objs.size<=a):a∉frs X.stack:=λhb=>by
 rcases ul3.mp (I2.stkSub a hb) with q | q
 ·exact absurd (ue8 I2.lt h) (by rw [q];exact ul2 _)
 ·exact I2.nofs h q
theorem LZ {it:Addr}{tn:Nat->Heap->Prop}{J:It}{Fin:List V->Hp->Prop}{RR:Value->Addr->Result->Shared->Prop}{E:Value->Shared->Prop}(O:CmpOk X scope N' σf)(hc:X.calm=true)
 (I2:Inv X pins σ H2 s2) (T:Turn X.prog X.w X.K tg J fp it tn) (st2:tn 0 s2.heap) (f2:∀b∈fp,FpOk X pins H2 b)
 (e2:∀x c,cl.lookup x=some c->X.env.cells.lookup x=some c) (e4:∀y∈scope.names,y.2 = .free->∃c,cl.lookup y.1=some c)
 (hg:∀C,PG (B2 X N' scope cl C s2 H2 fp) tg g) (ht:∀C,PIf (B2 X N' scope cl C s2 H2 fp) ifs tt) (he:∀C,PE (B2 X N' scope cl C s2 H2 fp) elt te)
 (B:RK J g tt te (σf σ) H2 Fin)
 (fin:∀C s' σ' H' acc m,s2.heap.objs.size<=C->C≠s2.heap.objs.size->Inv (B2 X N' scope cl C s2 H2 fp) [] σ' H' s'->H' s2.heap.objs.size=none->acc.length<=sizeLine->(∃its n,Vals acc its/\s'.heap.get? s2.heap.objs.size=some { cls:=.type "list",data:=.seq its.toArray n })->Fin acc H'->s'.heap.Ns C m->
   RR (.ref s2.heap.objs.size) C (.ok .next) s') :
 wpAny (model X.prog X.w) X.A (newList []) (λacc s₃=>wpAny (model X.prog X.w) X.A (newFunctionEnv scope X.env.globals cl [] X.env.qual none .none (some X.env)) (λcenv s₄=>
  codeAny (model X.prog X.w) X.A (.compStart (.ListComp elt [⟨tg,iter,ifs,0⟩] scope pos) 0 (.ref it) acc { cenv with scope:=relabel scope X.env }) (RR acc cenv.locals) s₄) E s₃) E s2:=by
 refine wpAny_newObj_type (wpAny_newFunctionEnv O.cell (by intro y hy;simp at hy) (λh₁ hns₁ hsb₁=>?_) O.kind);dsimp only at hns₁ hsb₁ ⊢;generalize hH2:s2.heap.push { cls:=.type "list",dict:=none,data:=.seq ([]:List Value).toArray }=HP at hns₁ hsb₁ ⊢;have hC:HP.objs.size=s2.heap.objs.size + 1:=by rw [<-hH2,Heap.size_push]
 generalize hDD:s2.heap.objs.size=DD at *;generalize hCC:HP.objs.size=CC at *;have hDC:DD≠CC:=by rw [hC];exact um3 (uh3 _)
 have hCle:s2.heap.objs.size<=CC:=by rw [hC,hDD];exact un7 _
 have hlt:∀b∈fp,b < s2.heap.objs.size:=λb hb=>by obtain ⟨o,e,_⟩:=T.obj _ _ st2 b hb;exact um2 e
 have hlt':∀b∈fp,b < DD:=λb hb=>by rw [<-hDD];exact hlt b hb
 have below:∀b,b < DD->b≠CC/\b≠DD:=λb hb=>⟨by rw [hC];exact um3 (Nat.lt_succ_of_lt hb),um3 hb⟩;have old:∀b o,s2.heap.get? b=some o->h₁.get? b=some o:=λb o e=>hsb₁.extBut b o (below b (by rw [<-hDD];exact um2 e)).1 (uc1 _ (hH2 ▸ uc1 _ e));have hacc:h₁.get? DD=some { cls:=.type "list",data:=.seq ([]:List Value).toArray }:=by
  refine hsb₁.extBut _ _ hDC (uc1 _ ?_);rw [<-hH2,<-hDD];exact ue1 _ rfl
 have ok:=Xq (cl:=cl) (C:=CC) O I2 f2 hCle hlt e2 e4;have hfs:DD∉frs X.stack:=Y4 I2 (by rw [hDD];exact un5 _);obtain ⟨W,⟨m0,w0⟩,turn⟩:=B
 let X':Cx:=B2 X N' scope cl CC s2 H2 fp
 have I0:Inv X' [] (σf σ) H2 { s2 with heap:=h₁,toks:=s2.toks + ([]:List (Str×Value)).length }:=by
  refine ⟨ok,rfl,I2.bare,Un.kept old,⟨_,hns₁,λj x v q1 q2 q3=>?_⟩,λx c e=>?_,I2.hok.fresh hCle,λx c e=>I2.freeC x c (e2 x c e),(λp hp=>nomatch hp),I2.hok.kept old,O.len σ I2.len⟩
  ·obtain ⟨i,n1,n2,n3⟩:=O.vals σ j x v q1 q2;obtain ⟨m,_,hl⟩:=I2.loc;have hfr:=O.free _ (CH n3) rfl;obtain ⟨u,r,l⟩:=hl i x v n1 n2 (.inr hfr);refine ⟨u,r,?_⟩;rcases l with ⟨k,_⟩ | ⟨_,c,ec,hcell⟩
   ·rcases hfr with z | z <;> (have z':=k.symm.trans z;cases z')
   ·obtain ⟨c',ec'⟩:=e4 _ (CH n3) rfl;have z:=e2 _ _ ec';have ez:X.env.cells.lookup x=some c':=z;rw [ec] at ez
    cases ez
    refine .inr ⟨?_,c,ec',?_⟩
    ·show (relabel scope X.env).names.lookup x=some .cell\/(relabel scope X.env).names.lookup x=some .free;rw [F5,n3];simp only [uj8]
     split
     ·exact .inl rfl
     ·exact .inr rfl
    ·obtain ⟨o,ho,hd⟩:=hcell;exact ⟨o,old _ _ ho,hd⟩
  ·obtain ⟨v,o,ho,hd⟩:=I2.cell x c (e2 x c e);exact ⟨v,o,old _ _ ho,hd⟩
 have loop:∀s₃:Shared,s₃ = { s2 with heap:=h₁,toks:=s2.toks + ([]:List (Str×Value)).length }->
  codeAny (model X.prog X.w) X.A (.compLoop (.ListComp elt [⟨tg,iter,ifs,0⟩] scope pos) 0 (.ref it) (.ref DD) (compEnvC scope cl CC X.env)) (RR (.ref DD) CC) s₃:=by
  rintro s₃ rfl;refine Mj (λn s'=>∃i acc its nn σ' H',Inv X' [] σ' H' s'/\tn i s'.heap/\(∀b∈fp,H' b=none)/\Vals acc its/\s'.heap.get? DD=some { cls:=.type "list",data:=.seq its.toArray nn }/\H' DD=none/\W i n acc σ' H') ?_ m0
   ⟨0,[],[],0,σf σ,H2,I0,T.keep _ _ _ st2 (λb _ o e=>old b o e),λb hb=>(f2 b hb).1,.nil,hacc,I2.hok.fresh (by rw [hDD];exact un5 _),w0⟩
  rintro n s' ⟨i,acc,its,nn,σ3,H3,I3,st3,fr3,hv,hD,hDn,w3⟩;have I3p:Inv X' [(DD,({ cls:=.type "list",data:=.seq its.toArray nn }:Obj))] σ3 H3 s':=I3.pins_of λp hp=>by
   have e:p=(DD,({ cls:=.type "list",data:=.seq its.toArray nn }:Obj)):=by simpa using hp
   subst e;exact ⟨hD,hDn,hDC,hfs,λv z=>nomatch z⟩
  have stat:∀{pins':List (Addr×Obj)} {H':Hp},(∀p∈pins',p.1=DD)->(∀b∈fp,H' b=none)->∀b∈fp,FpOk X' pins' H' b:=λ{pins' H'} hp hn b hb=>
   ⟨hn b hb,(ok.exf b hb).1,ok.exfs b hb,.inl hb,(ok.exf b hb).2,λp hp' z=>by
    have e:p.1=DD:=hp p (by simpa [X',B2] using hp');exact absurd (hlt' b hb) (by rw [<-z,e];exact ul2 _)⟩
  have one:∀p∈[(DD,({ cls:=.type "list",data:=.seq its.toArray nn }:Obj))],p.1=DD:=λp hp=>by
   have e:p=(DD,({ cls:=.type "list",data:=.seq its.toArray nn }:Obj)):=by simpa using hp
   rw [e]
  obtain ⟨hz,tr⟩:=turn i n acc σ3 H3 w3;rcases tr with ⟨stop,qf⟩ | ⟨go,step⟩
  ·refine thn (T.done X' rfl rfl rfl hc i _ s' σ3 H3 (λ_ _=>False) I3p (stat one fr3) st3 stop) λr s4 z9=>?_;obtain ⟨hr,I4⟩:=z9;subst hr;obtain ⟨m4,hm4,_⟩:=I4.loc;have pD:=(I4.pin (DD,({ cls:=.type "list",data:=.seq its.toArray nn }:Obj)) (by simp [X',B2])).1;have I4':Inv X' [] σ3 H3 s4:=I4.pins_of λp hp=>nomatch hp;exact fin CC s4 σ3 H3 acc m4 (by rw [hDD] at hCle;exact hCle) (Ne.symm hDC) I4' hDn hz ⟨its,nn,hv,pD⟩ qf hm4
  ·refine thn (T.item X' rfl rfl rfl hc i _ s' σ3 H3 (λ_ _=>False) I3p (stat one fr3) st3 go) λr s4 z9=>?_;obtain ⟨u,hr,h4⟩:=z9;subst hr;refine thn h4 λ_ s5 z9=>?_;obtain ⟨x,H5,I5,r5,y5,st5,fr5⟩:=z9;have I5':=I5.pinned (stat one fr5) (T.obj _ _ st5);refine thn (hg CC _ s5 σ3 H5 x u _ I5' r5 (step x H5 y5)) λ_ s6 z9=>?_;obtain ⟨σ6,H6,I6,q6⟩:=z9;refine thn (ht CC _ s6 σ6 H6 _ I6 q6) λb s7 z9=>?_;obtain ⟨H7,I7,q7⟩:=z9;have back:∀{H8:Hp} {s8:Shared},Inv X' ([(DD,({ cls:=.type "list",data:=.seq its.toArray nn }:Obj))]++Hh fp s5.heap) σ6 H8 s8->
    s8.heap.get? DD=some { cls:=.type "list",data:=.seq its.toArray nn }/\H8 DD=none/\tn (i + 1) s8.heap/\(∀b∈fp,H8 b=none)/\Inv X' [] σ6 H8 s8:=λ{H8 s8} I8=>by
    have p1:=I8.pin (DD,({ cls:=.type "list",data:=.seq its.toArray nn }:Obj)) (by simp [X',B2]);refine ⟨p1.1,p1.2.1,T.keep _ _ _ st5 λb hb o e=>(I8.pin (b,o) (uc8 _ (uc8 _ (E5 hb e)))).1,λb hb=>?_,I8.pins_of λp hp=>nomatch hp⟩;obtain ⟨o,e,_⟩:=T.obj _ _ st5 b hb;exact (I8.pin (b,o) (uc8 _ (uc8 _ (E5 hb e)))).2.1
   cases b with
   | false=>
     rw [if_neg uf0] at q7 ⊢;obtain ⟨m',hm,w7⟩:=q7;obtain ⟨a1,a2,a3,a4,a5⟩:=back I7;exact ⟨m',hm,i + 1,acc,its,nn,σ6,H7,a5,a3,a4,hv,a1,a2,w7⟩
   | true=>
     rw [if_pos rfl] at q7 ⊢;refine thn (he CC _ s7 σ6 H7 _ I7 q7) λy s8 z9=>?_;obtain ⟨v8,H8,I8,r8,m',hm,w8⟩:=z9;obtain ⟨a1,a2,a3,a4,a5⟩:=back I8;have hsz:its.toArray.size<=sizeLine:=by
      have e:=hv.length;simpa [e] using hz
     refine wpAny_list_append_plain (hsz:=hsz) ⟨nn,a1⟩ λh9 hl9 hs9=>?_;obtain ⟨n9,e9⟩:=hl9;have e9':h9.get? DD=some { cls:=.type "list",data:=.seq (its++[y]).toArray n9 }:=by simpa using e9
     refine ⟨m',hm,i + 1,acc++[v8],its++[y],n9,σ6,H8,a5.turned (t':=s8.toks) (h':=h9) (it:=DD) (λb o hb e=>hs9.extBut b o hb e) a2 hDC (.inr (show s2.heap.objs.size<=DD by rw [hDD];exact un5 _)) (λx' c e z=>?_) (λp hp=>nomatch hp),T.keep _ _ _ a3 λb hb o e=>hs9.extBut b o (um3 (hlt' b hb)) e,a4,hv.append (.cons r8 .nil),e9',a2,w8⟩;obtain ⟨v,o,ho,hd⟩:=I2.cell x' c (e2 x' c e);have:=um2 ho;rw [hDD,z] at this;exact ul2 _ this
 exact codeAny_compStart_list (loop _ rfl) (T.self _ 0 _ _ _ (T.keep _ _ _ st2 λb _ o e=>old b o e) (loop _ rfl))
end
section
variable {X:Cx}{tg elt iter:Expr}{ifs:List Expr}{scope:Scope}{pos:Pos}{N':List Str}{wi:TI}{g:TG}{tt:TT}{te:TE}{σf:St->St}
theorem KO {σ':St}{H':Hp}{s':Shared}{C:Addr}{acc:List V}{its:List Value}{n:Nat}{h':Heap}(I2:Inv X pins σ H2 s2)(f2:∀b∈fp,FpOk X pins H2 b)
 (hC:s2.heap.objs.size<=C) (hCD:C≠s2.heap.objs.size) (I':Inv (B2 X N' scope cl C s2 H2 fp) [] σ' H' s') (hDn:H' s2.heap.objs.size=none) (hz:acc.length<=sizeLine) (hv:Vals acc its)
 (hD:s'.heap.get? s2.heap.objs.size=some { cls:=.type "list",data:=.seq its.toArray n }) (hs:Heap.SameBut C s'.heap h') :
 Inv X pins σ (upd H' s2.heap.objs.size (.lst acc)) { s' with heap:=h' }:=by
 have U:=I'.base;have lt:∀b o,s2.heap.get? b=some o->b≠C/\b≠s2.heap.objs.size:=λb o e=>⟨um3 (ue8 (um2 e) hC),um3 (um2 e)⟩;have neD:∀b u,H' b=some u->b≠s2.heap.objs.size:=λb u e=>AO e hDn;have neC:∀b u,H' b=some u->b≠C:=λb u e=>AO e I'.free;refine I2.call' (s':={ s' with heap:=h' }) (ch:=fp) I'.os ⟨λb o e n hb hx=>?_,λb o e n hb hx=>?_,λb o e n hx=>?_,λb o e hx=>?_,λb xs e=>?_,λb o u e=>?_,λb ps e=>?_⟩ ?_ I'.bare λb hb=>⟨(f2 b hb).2.2.2.1,(f2 b hb).2.1,(f2 b hb).2.2.2.2.1,(f2 b hb).2.2.2.2.2⟩
 ·exact hs.extBut b o (lt b o e).1 (U.keep b o e n hb hx)
 ·obtain ⟨sl,q⟩:=U.slot b o e n hb hx;exact ⟨sl,hs.extBut b _ (lt b o e).1 q⟩
 ·rw [Ai (lt b o e).2];exact U.free b o e n hx
 ·obtain ⟨o',q⟩:=U.there b o e hx;exact ⟨o',hs.extBut b _ (lt b o e).1 q⟩
 ·have q:=U.tups b xs e;rw [Ai (neD b _ q)];exact q
 ·have q:=U.frzs b o u e;rw [Ai (neD b _ q)];exact q
 ·obtain ⟨m,q⟩:=U.tbls b ps e;exact ⟨m,by rw [Ai (neD b _ q)];exact q⟩
 ·intro b u e
  by_cases hb:b=s2.heap.objs.size
  ·subst hb;rw [Ar] at e
   cases e
   exact ⟨hz,its,n,hv,hs.extBut _ _ (Ne.symm hCD) hD⟩
  ·rw [Ai hb] at e;refine (I'.hok b u e).stay (λc v hc q=>hs.extBut c v ?_ q) (λc q=>by rw [Ai (neD c _ q)];exact q) λc xs q=>by rw [Ai (neD c _ q)];exact q
   rcases hc with z | z
   ·rw [z];exact neC b u e
   ·exact neC c _ z
theorem Oh (O:CmpOk X scope N' σf)(hc:X.calm=true)(hi:PI X tg iter wi)
 (hg:∀cl C s2 H2 fp,PG (B2 X N' scope cl C s2 H2 fp) tg g) (ht:∀cl C s2 H2 fp,PIf (B2 X N' scope cl C s2 H2 fp) ifs tt) (he:∀cl C s2 H2 fp,PE (B2 X N' scope cl C s2 H2 fp) elt te)
 (hs:∀x,foldedSetIterable iter X.env x=pure x:=by intro _;rfl):PE X (.ListComp elt [⟨tg,iter,ifs,0⟩] scope pos) (LF wi g tt te σf):=by
 intro pins s σ H Q I h;obtain ⟨cl,e1,e2,e4⟩:=Jn (scope:=scope) (env:=X.env) λy hy hf=>I.ok.has y.1 (O.free y hy hf);rw [eval_ListComp];refine wpAny_comprehension_free (use:=none) rfl hs e1 O.kind O.loc (thn (hi pins s σ H _ I h) λv s1 h1=>thn h1 λitv s2 h2=>?_);obtain ⟨it,fp,tn,J,H2,rfl,I2,T,st2,f2,B⟩:=h2;refine LZ (RR:=λacc C=>compPost (model X.prog X.w) X.A X.xe none (EP X pins σ Q) acc C) O hc I2 T st2 f2 e2 e4 (λC=>hg cl C s2 H2 fp) (λC=>ht cl C s2 H2 fp) (λC=>he cl C s2 H2 fp) B ?_;intro C s' σ' H' acc m hC hCD I' hDn hz hL fin hn;obtain ⟨its,n,hv,hD⟩:=hL;refine ⟨m,hn,λh' hs'=>?_⟩;exact ⟨.ref s2.heap.objs.size,upd H' _ (.lst acc),KO I2 f2 hC hCD I' hDn hz hv hD hs',rfl,fin _ hDn hz⟩
theorem Wh {i:Nat}{y:Str}{py spos:Pos}(O:CmpOk X scope N' σf)(hc:X.calm=true)(hN:X.N.Nodup)(hiN:X.N[i]?=some y)(hx:X.env.scope.names.lookup y=some .local)(hi:PI X tg iter wi)
 (hg:∀cl C s2 H2 fp,PG (B2 X N' scope cl C s2 H2 fp) tg g) (ht:∀cl C s2 H2 fp,PIf (B2 X N' scope cl C s2 H2 fp) ifs tt) (he:∀cl C s2 H2 fp,PE (B2 X N' scope cl C s2 H2 fp) elt te)
 (hsw:swapsWith (.ListComp elt [⟨tg,iter,ifs,0⟩] scope pos) (some (.Name y py)) spos.line X.env=pure true:=by rfl)
 (hs:∀x,foldedSetIterable iter X.env x=pure x:=by intro _;rfl):PS X (.Assign [.Name y py] (.ListComp elt [⟨tg,iter,ifs,0⟩] scope pos) spos) (NB (LF wi g tt te σf) (Ju i)):=by
 intro pins s σ H D I h;obtain ⟨cl,e1,e2,e4⟩:=Jn (scope:=scope) (env:=X.env) λy hy hf=>I.ok.has y.1 (O.free y hy hf);rw [exec_Assign_Name_used _ _ _ _ hsw];refine un9 (wpAny_standAt (un9 ?_));show wpAny _ X.A (do let _ <-comprehension (.ListComp elt [⟨tg,iter,ifs,0⟩] scope pos) scope X.env _ (newList []) false (eval iter X.env) (some (assign (.Name y py) X.env))) _ _ s;refine un9 (thn (wpAny_comprehension_free (use:=some (assign (.Name y py) X.env)) (Q:=λ_ s'=>SP X pins D .next s') rfl hs e1 O.kind O.loc (thn (hi pins s σ H _ I h) λv s1 h1=>thn h1 λitv s2 h2=>?_)) (λ_ s' hq=>uo0 (uo0 hq)));obtain ⟨it,fp,tn,J,H2,rfl,I2,T,st2,f2,B⟩:=h2;refine LZ (RR:=λacc C=>compPost (model X.prog X.w) X.A X.xe (some (assign (.Name y py) X.env)) (λ_ s'=>SP X pins D .next s') acc C) O hc I2 T st2 f2 e2 e4 (λC=>hg cl C s2 H2 fp) (λC=>ht cl C s2 H2 fp) (λC=>he cl C s2 H2 fp) B ?_;intro C s' σ' H' acc m hC hCD I' hDn hz hL fin hn;obtain ⟨its,n,hv,hD⟩:=hL;show wpAny _ X.A (assign (.Name y py) X.env (.ref s2.heap.objs.size)) _ _ _;have I3:=KO I2 f2 hC hCD I' hDn hz hv hD (Heap.SameBut.refl ..);refine wpAny_assign_Name (Hq I3 hN hiN (.inl hx) (v:=.ref s2.heap.objs.size) rfl (λs4 I4 z9=>?_) (.inr hx));obtain ⟨a,hsb,ha⟩:=z9;have hCL:C≠X.env.locals:=um6 (ue8 I2.lt hC);have hCc:∀x c,X.env.cells.lookup x=some c->c≠C:=λx c e z=>by
  obtain ⟨v,q⟩:=I2.cell x c e;exact absurd (ue8 q.lt (by rw [z];exact hC)) (ul2 _)
 have hCa:C≠a:=by
  rcases ha with z | z
  ·rw [z];exact hCL
  ·exact λq=>hCc _ _ z q.symm
 refine ⟨m,hn.sameBut hsb hCa,λh' hs'=>?_⟩;have hnC:(upd H' s2.heap.objs.size (.lst acc)) C=none:=by rw [Ai hCD];exact I'.free
 refine ⟨_,_,I4.turned (t':=s4.toks) (h':=h') (it:=C) (λb o hb e=>hs'.extBut b o hb e) hnC hCL (.inr (um4 I2.sz hC)) hCc (λp hp z=>?_),fin _ hDn hz⟩;exact absurd (ue8 (um2 (I2.pin p hp).1) (by rw [z];exact hC)) (ul2 _)
end
end L2
set_option autoImplicit false
namespace F2
open PySem L2 PySem.Spec
inductive D where
 | non | bl (b:Bool) | int (i:Int) | str (x:Str) | tup (xs:List D) | lst (xs:List D) | scr (ns:List Int) | dic | obj (k:Nat) | ty (n:String) | exc (n:Str) (xs:List D)
structure Cf where
 ι:List Addr
 O:Addr->Prop
def Cf.A (c:Cf)(a:Addr):Prop:=a∈c.ι\/c.O a
def Scr (K:PySem.W.Frag)(c:Cf)(H:Hp)(a:Addr)(vs:List V):Prop:=
 ((∃o,H a=some (.frz o (.lst vs)))/\¬c.A a)\/
   ∃(o:Obj) (its:Array Value) (n:Nat),K.lookup a=some o/\o.cls = .type "list"/\o.dict=none/\o.data = .seq its n/\its.size<=sizeLine/\Vals vs its.toList
def XIs (qx:Bool)(x C:Addr)(dx:Option Addr)(h:Heap):Prop:=∃(o:Obj) (vs:Array Value),h.get? x=some o/\o.cls = .ref C/\o.dict=dx/\o.data = .fields vs/\(qx=true->vs[2]?=some .none/\4 < vs.size)
noncomputable def IF (n:Str):List Str:=if n = "NoTalk" then ["at"] else if n = "Broken" then ["at", "side"] else []
def XFld (c:Cf)(H:Hp)(dx:Option Addr)(ns:List Str)(vs:List V):Prop:=match dx with
 | none=>vs=[]
 | some d=>H d=some (.xd (ns.zip vs))/\¬c.A d
mutual
inductive Rep (K:PySem.W.Frag)(c:Cf)(H:Hp):V->D->Prop where
 | non:Rep K c H .non .non
 | bl (b:Bool):Rep K c H (.bl b) (.bl b)
 | int (i:Int):Rep K c H (.int i) (.int i)
 | str (x:Str):Rep K c H (.str x) (.str x)
 | ty (n:String):Rep K c H (.ty n) (.ty n)
 | tup {a:Addr} {vs:List V} {ds:List D}:H a=some (.tup vs)->¬c.A a->Reps K c H vs ds->Rep K c H (.ref a) (.tup ds)
 | lst {a:Addr} {vs:List V} {ds:List D}:H a=some (.lst vs)->¬c.A a->Reps K c H vs ds->Rep K c H (.ref a) (.lst ds)
 | scr {a:Addr} {ns:List Int}:Scr K c H a (ns.map V.int)->Rep K c H (.ref a) (.scr ns)
 | dic {a:Addr}:H a=some (.dK [])->¬c.A a->Rep K c H (.ref a) .dic
 | obj {a:Addr} {k:Nat}:c.ι[k]?=some a->Rep K c H (.ref a) (.obj k)
 | exc {qx:Bool} {x C:Addr} {dx:Option Addr} {n:Str} {vs:List V} {ds:List D}:PySem.W.nsIn K mainGlobals n=some (some (.ref C))->H x=some (.ext (XIs qx x C dx))->¬c.A x->XFld c H dx (IF n) vs->Reps K c H vs ds->Rep K c H (.ref x) (.exc n ds)
inductive Reps (K:PySem.W.Frag)(c:Cf)(H:Hp):List V->List D->Prop where
 | nil:Reps K c H [] []
 | cons {v:V} {d:D} {vs:List V} {ds:List D}:Rep K c H v d->Reps K c H vs ds->Reps K c H (v :: vs) (d :: ds)
end
structure Ext (c:Cf)(H:Hp)(c':Cf)(H':Hp):Prop where
 keep:∀b o,H b=some o->¬c.A b->H' b=some o
 av:∀b o,H b=some o->c'.A b->c.A b
 io:∀(k:Nat) (a:Addr),c.ι[k]?=some a->c'.ι[k]?=some a
variable {c:Cf}{H:Hp}
theorem Ext.refl:Ext c H c H:=⟨λ_ _ h _=>h,λ_ _ _ h=>h,λ_ _ h=>h⟩
theorem Ext.trans {c1 c2:Cf}{H1 H2:Hp}(a:Ext c H c1 H1)(b:Ext c1 H1 c2 H2):Ext c H c2 H2:=by
 refine ⟨λx o h n=>?_,λx o h n=>?_,λk x h=>b.io k x (a.io k x h)⟩
 ·exact b.keep x o (a.keep x o h n) λz=>n (a.av x o h z)
 ·by_cases q:c.A x
  ·exact q
  ·exact a.av x o h (b.av x o (a.keep x o h q) n)
variable {K:PySem.W.Frag}{a:Addr}{vs:List V}
theorem Scr.mono {c':Cf}{H':Hp}(e:Ext c H c' H')(h:Scr K c H a vs):Scr K c' H' a vs:=by
 rcases h with ⟨⟨o,h⟩,n⟩ | h
 ·exact .inl ⟨⟨o,e.keep _ _ h n⟩,λz=>n (e.av _ _ h z)⟩
 ·exact .inr h
theorem Scr.sq (h:Scr K c H a vs):SqL K H a vs:=by
 rcases h with ⟨h,_⟩ | h
 ·exact .inl (.inr h)
 ·exact .inr h
theorem XFld.mono {c':Cf}{H':Hp}{dx:Option Addr}{ns:List Str}(e:Ext c H c' H')(h:XFld c H dx ns vs):XFld c' H' dx ns vs:=by
 cases dx with
 | none=>exact h
 | some d=>exact ⟨e.keep _ _ h.1 h.2,λz=>h.2 (e.av _ _ h.1 z)⟩
mutual
theorem Rep.mono {K:PySem.W.Frag}{c c':Cf}{H H':Hp}(e:Ext c H c' H'){v:V}{d:D}(r:Rep K c H v d):Rep K c' H' v d:=by
 cases r with
 | non=>exact .non
 | bl b=>exact .bl b
 | int i=>exact .int i
 | str x=>exact .str x
 | ty n=>exact .ty n
 | tup h n r=>exact .tup (e.keep _ _ h n) (λz=>n (e.av _ _ h z)) (Reps.mono e r)
 | lst h n r=>exact .lst (e.keep _ _ h n) (λz=>n (e.av _ _ h z)) (Reps.mono e r)
 | scr h=>exact .scr (h.mono e)
 | dic h n=>exact .dic (e.keep _ _ h n) (λz=>n (e.av _ _ h z))
 | obj h=>exact .obj (e.io _ _ h)
 | exc g h n f r=>exact .exc g (e.keep _ _ h n) (λz=>n (e.av _ _ h z)) (f.mono e) (Reps.mono e r)
theorem Reps.mono {K:PySem.W.Frag}{c c':Cf}{H H':Hp}(e:Ext c H c' H'){vs:List V}{ds:List D}(r:Reps K c H vs ds):Reps K c' H' vs ds:=by
 cases r with
 | nil=>exact .nil
 | cons h t=>exact .cons (Rep.mono e h) (Reps.mono e t)
end
section
variable {K:PySem.W.Frag}{c:Cf}{H:Hp}
theorem Reps.length:∀{vs:List V} {ds:List D},Reps K c H vs ds->vs.length=ds.length
 | _,_,.nil=>rfl
 | _,_,.cons _ t=>by simp [Reps.length t]
theorem Reps.get:∀{vs:List V} {ds:List D} {i:Nat} {v:V} {d:D},Reps K c H vs ds->vs[i]?=some v->ds[i]?=some d->Rep K c H v d
 | _,_,_,_,_,.nil,e,_=>by simp at e
 | _,_,0,_,_,.cons r _,e,e'=>by simp at e e';subst e e';exact r
 | _,_,i + 1,_,_,.cons _ t,e,e'=>Reps.get (i:=i) t (by simpa using e) (by simpa using e')
theorem Reps.at:∀{vs:List V} {ds:List D} {i:Nat} {d:D},Reps K c H vs ds->ds[i]?=some d->∃v,vs[i]?=some v/\Rep K c H v d
 | _,_,_,_,.nil,e=>by simp at e
 | _,_,0,_,.cons r _,e=>by simp at e;subst e;exact ⟨_,rfl,r⟩
 | _,_,i + 1,_,.cons _ t,e=>by
   obtain ⟨v,h1,h2⟩:=Reps.at (i:=i) t (by simpa using e);exact ⟨v,by simpa using h1,h2⟩
theorem Reps.append {vs ws:List V}{ds es:List D}(r:Reps K c H vs ds)(s:Reps K c H ws es):Reps K c H (vs++ws) (ds++es):=by
 cases r with
 | nil=>exact s
 | cons r t=>exact .cons r (Reps.append t s)
theorem Reps.take:∀{vs:List V} {ds:List D} (n:Nat),Reps K c H vs ds->Reps K c H (vs.take n) (ds.take n)
 | _,_,0,_=>.nil
 | _,_,_ + 1,.nil=>.nil
 | _,_,n + 1,.cons r t=>.cons r (Reps.take n t)
theorem Reps.drop:∀{vs:List V} {ds:List D} (n:Nat),Reps K c H vs ds->Reps K c H (vs.drop n) (ds.drop n)
 | _,_,0,r=>r
 | _,_,_ + 1,.nil=>.nil
 | _,_,n + 1,.cons _ t=>Reps.drop n t
theorem Reps.ints:∀ns:List Int,Reps K c H (ns.map V.int) (ns.map D.int)
 | []=>.nil
 | n :: r=>.cons (.int n) (Reps.ints r)
theorem Reps.rep {vs:List V}{ds:List D}(h:Reps K c H vs ds):∀k:Nat,Reps K c H (List.replicate k vs).flatten (List.replicate k ds).flatten
 | 0=>.nil
 | k + 1=>by
   rw [ue3,ue3,ug3,ug3];exact h.append (Reps.rep h k)
end
inductive Ob where
 | lst (xs:List D)
 | dct (kvs:List (Key×D))
 | ins (n:Str) (fs:List (Str×D))
inductive Sl where
 | val (d:D)
 | own (xs:List D)
structure T where
 env:List (Option Sl)
 S:List Ob
def KVR (K:PySem.W.Frag)(c:Cf)(H:Hp):List (Key×V)->List (Key×D)->Prop:=Paired λp q=>p.1=q.1/\Rep K c H p.2 q.2
noncomputable def Ki:List Str:=["Reader", "Side", "Lasting", "Parley", "Listener", "Relay", "Desk"]
noncomputable def atN:List Str:=["grammar", "standing", "wires", "places", "side", "said", "taken", "handed", "left", "right", "under_way", "grammars", "standings", "heard", "left_grammar", "right_grammar", "rows", "pair", "broken", "parley"]
def FldR (K:PySem.W.Frag)(c:Cf)(H:Hp):List (Str×V)->List (Str×D)->Prop:=Paired λp q=>p.1=q.1/\Rep K c H p.2 q.2
def ObR (K:PySem.W.Frag)(c:Cf)(H:Hp)(a:Addr):Ob->Prop
 | .lst ds=>∃vs,H a=some (.lst vs)/\Reps K c H vs ds
 | .dct kvs=>∃us,H a=some (.dK us)/\KVR K c H us kvs
 | .ins n fs=>(n∈Ki/\∀p∈fs,p.1∈atN)/\∃C dx us,PySem.W.nsIn K mainGlobals n=some (some (.ref C))/\H a=some (.ins C dx us)/\FldR K c H us fs
theorem ObR.mono {K:PySem.W.Frag}{c c':Cf}{H H':Hp}{a:Addr}{o:Ob}(e:Ext c H c' H')(h:ObR K c H a o)(ha:H' a=H a):ObR K c' H' a o:=by
 cases o with
 | lst ds=>obtain ⟨vs,h1,h2⟩:=h;exact ⟨vs,ha.trans h1,h2.mono e⟩
 | dct kvs=>obtain ⟨us,h1,h2⟩:=h;exact ⟨us,ha.trans h1,Paired.mapP h2 λ_ _ z=>⟨z.1,z.2.mono e⟩⟩
 | ins n fs=>obtain ⟨h0,C,dx,us,g,h1,h2⟩:=h;exact ⟨h0,C,dx,us,g,ha.trans h1,Paired.mapP h2 λ_ _ z=>⟨z.1,z.2.mono e⟩⟩
theorem ObR.some {o:Ob}(h:ObR K c H a o):∃u,H a=some u:=by
 cases o with
 | lst ds=>obtain ⟨vs,h1,_⟩:=h;exact ⟨_,h1⟩
 | dct kvs=>obtain ⟨us,h1,_⟩:=h;exact ⟨_,h1⟩
 | ins n fs=>obtain ⟨_,_,_,_,_,h1,_⟩:=h;exact ⟨_,h1⟩
structure SInv (K:PySem.W.Frag)(c:Cf)(S:List Ob)(H:Hp):Prop where
 len:c.ι.length=S.length
 nd:c.ι.Nodup
 obs:∀(k:Nat) (a:Addr) (o:Ob),c.ι[k]?=some a->S[k]?=some o->ObR K c H a o
 trk:∀b,c.O b->∃o,H b=some o
 dis:∀b,c.O b->b∉c.ι
variable {S:List Ob}
theorem SInv.trkA (s:SInv K c S H){b:Addr}(h:c.A b):∃o,H b=some o:=by
 rcases h with h | h
 ·obtain ⟨k,hk,e⟩:=List.mem_iff_getElem.mp h;have e1:c.ι[k]?=some b:=by rw [ub5 hk,e]
  have hk':k < S.length:=by rw [<-s.len];exact hk
  exact (s.obs k b _ e1 (ub5 hk')).some
 ·exact s.trk b h
theorem SInv.free (s:SInv K c S H){b:Addr}(h:H b=none):¬c.A b:=λz=>by
 obtain ⟨o,e⟩:=s.trkA z;rw [h] at e;cases e
structure FInv (K:PySem.W.Frag)(Oo:Addr->Prop)(c:Cf)(t:T)(σ:St)(H:Hp):Prop where
 s:SInv K c t.S H
 len:t.env.length=σ.length
 sub:∀b,Oo b->c.O b
 val:∀(i:Nat) (d:D),t.env[i]?=some (some (.val d))->∃v,σ[i]?=some (some v)/\Rep K c H v d
 own:∀(i:Nat) (ds:List D),t.env[i]?=some (some (.own ds))->∃a vs,σ[i]?=some (some (.ref a))/\c.O a/\¬Oo a/\H a=some (.lst vs)/\Reps K c H vs ds
 inj:∀(i j:Nat) (ds es:List D) (a:Addr),t.env[i]?=some (some (.own ds))->t.env[j]?=some (some (.own es))->σ[i]?=some (some (.ref a))->σ[j]?=some (some (.ref a))->i=j
structure Stp (Oo:Addr->Prop)(c:Cf)(H:Hp)(c':Cf)(H':Hp):Prop where
 ext:Ext c H c' H'
 oo:∀b,Oo b->H' b=H b
theorem Stp.refl {Oo:Addr->Prop}{c:Cf}{H:Hp}:Stp Oo c H c H:=⟨.refl,λ_ _=>rfl⟩
theorem Stp.trans {Oo:Addr->Prop}{c c1 c2:Cf}{H H1 H2:Hp}(a:Stp Oo c H c1 H1)(b:Stp Oo c1 H1 c2 H2):Stp Oo c H c2 H2:=
 ⟨a.ext.trans b.ext,λx h=>(b.oo x h).trans (a.oo x h)⟩
section
variable {K:PySem.W.Frag}{Oo:Addr->Prop}{c:Cf}{t:T}{σ:St}{H:Hp}
theorem Ext.laid (s:SInv K c S H){p:Addr}{o:HO}(h:H p=none):Ext c H c (upd H p o):=
 ⟨λb u e _=>by rw [Ai (AO e h)];exact e,λ_ _ _ z=>z,λ_ _ e=>e⟩
theorem SInv.laid {S:List Ob}(s:SInv K c S H){p:Addr}{o:HO}(h:H p=none):SInv K c S (upd H p o):=
 ⟨s.len,s.nd,λk a u e1 e2=>by
  have q:=s.obs k a u e1 e2;obtain ⟨w,hw⟩:=q.some;exact q.mono (Ext.laid s h) (Ai (AO hw h)),
  λb z=>by obtain ⟨u,e⟩:=s.trk b z;exact ⟨u,by rw [Ai (AO e h)];exact e⟩,s.dis⟩
theorem FInv.laid (f:FInv K Oo c t σ H){p:Addr}{o:HO}(h:H p=none):FInv K Oo c t σ (upd H p o):=by
 have e:=Ext.laid (o:=o) f.s h;refine ⟨f.s.laid h,f.len,f.sub,λi d q=>?_,λi ds q=>?_,f.inj⟩
 ·obtain ⟨v,h1,h2⟩:=f.val i d q;exact ⟨v,h1,h2.mono e⟩
 ·obtain ⟨a,vs,h1,h2,h3,h4,h5⟩:=f.own i ds q;exact ⟨a,vs,h1,h2,h3,by rw [Ai (AO h4 h)];exact h4,h5.mono e⟩
theorem FInv.stp_laid (f:FInv K Oo c t σ H){p:Addr}{o:HO}(h:H p=none):Stp Oo c H c (upd H p o):=
 ⟨Ext.laid f.s h,λb z=>by obtain ⟨u,e⟩:=f.s.trk b (f.sub b z);exact Ai (AO e h)⟩
theorem FInv.set (f:FInv K Oo c t σ H){i:Nat}{v:V}{d:D}(r:Rep K c H v d):FInv K Oo c { t with env:=t.env.set i (some (.val d)) } (σ.set i (some v)) H:=by
 have neq:∀{j:Nat} {x:Sl},(t.env.set i (some (.val d)))[j]?=some (some x)->(j=i/\x = .val d/\j < t.env.length)\/(j≠i/\t.env[j]?=some (some x)):=λ{j x} q=>by
  by_cases h:j=i
  ·subst h;rw [ug6] at q
   split at q
   ·split at q
    ·next h1=>injection q with q;injection q with q;exact .inl ⟨rfl,q.symm,h1⟩
    ·cases q
   ·next h1=>exact absurd rfl h1
  ·rw [ud7 (Ne.symm h)] at q;exact .inr ⟨h,q⟩
 refine ⟨f.s,by simp [f.len],f.sub,λj e q=>?_,λj ds q=>?_,λj k ds es a q1 q2 q3 q4=>?_⟩
 ·rcases neq q with ⟨rfl,z,hl⟩ | ⟨h,q⟩
  ·cases z
   exact ⟨v,by rw [uc0 (by rw [<-f.len];exact hl)],r⟩
  ·obtain ⟨u,h1,h2⟩:=f.val j e q;exact ⟨u,by rw [ud7 (Ne.symm h)];exact h1,h2⟩
 ·rcases neq q with ⟨rfl,z,_⟩ | ⟨h,q⟩
  ·cases z
  ·obtain ⟨a,vs,h1,h2⟩:=f.own j ds q;exact ⟨a,vs,by rw [ud7 (Ne.symm h)];exact h1,h2⟩
 ·rcases neq q1 with ⟨_,z,_⟩ | ⟨h,q1⟩
  ·cases z
  rcases neq q2 with ⟨_,z,_⟩ | ⟨h',q2⟩
  ·cases z
  rw [ud7 (Ne.symm h)] at q3;rw [ud7 (Ne.symm h')] at q4;exact f.inj j k ds es a q1 q2 q3 q4
theorem FInv.setOwn (f:FInv K Oo c t σ H){i:Nat}{p:Addr}{vs:List V}{ds:List D}(h:H p=none)(r:Reps K c H vs ds) :
 ∃c',FInv K Oo c' { t with env:=t.env.set i (some (.own ds)) } (σ.set i (some (.ref p))) (upd H p (.lst vs))/\Stp Oo c H c' (upd H p (.lst vs)):=by
 let c':Cf:=⟨c.ι,λb=>c.O b\/b=p⟩
 have nA:¬c.A p:=f.s.free h;have ext:Ext c H c' (upd H p (.lst vs)):=by
  refine ⟨λb u e _=>by rw [Ai (AO e h)];exact e,λb u e z=>?_,λ_ _ e=>e⟩;rcases z with z | z | z
  ·exact .inl z
  ·exact .inr z
  ·subst z;rw [h] at e;cases e
 have stp:Stp Oo c H c' (upd H p (.lst vs)):=⟨ext,λb z=>by obtain ⟨u,e⟩:=f.s.trk b (f.sub b z);exact Ai (AO e h)⟩;have sinv:SInv K c' t.S (upd H p (.lst vs)):=by
  refine ⟨f.s.len,f.s.nd,λk a u e1 e2=>?_,λb z=>?_,λb z hb=>?_⟩
  ·have q:=f.s.obs k a u e1 e2;obtain ⟨w,hw⟩:=q.some;exact q.mono ext (Ai (AO hw h))
  ·rcases z with z | z
   ·obtain ⟨u,e⟩:=f.s.trk b z;exact ⟨u,by rw [Ai (AO e h)];exact e⟩
   ·subst z;exact ⟨_,Ar⟩
  ·rcases z with z | z
   ·exact f.s.dis b z hb
   ·subst z;exact nA (.inl hb)
 have neq:∀{j:Nat} {x:Sl},(t.env.set i (some (.own ds)))[j]?=some (some x)->(j=i/\x = .own ds/\j < t.env.length)\/(j≠i/\t.env[j]?=some (some x)):=λ{j x} q=>by
  by_cases h:j=i
  ·subst h;rw [ug6] at q
   split at q
   ·split at q
    ·next h1=>injection q with q;injection q with q;exact .inl ⟨rfl,q.symm,h1⟩
    ·cases q
   ·next h1=>exact absurd rfl h1
  ·rw [ud7 (Ne.symm h)] at q;exact .inr ⟨h,q⟩
 have fresh:∀(j:Nat) (es:List D),t.env[j]?=some (some (.own es))->σ[j]?≠some (some (.ref p)):=λj es q z=>by
  obtain ⟨a,vs',h1,_,_,h4,_⟩:=f.own j es q;rw [h1] at z;injection z with z;injection z with z;injection z with z;subst z;rw [h] at h4;cases h4
 refine ⟨c',⟨sinv,by simp [f.len],λb z=>.inl (f.sub b z),λj e q=>?_,λj es q=>?_,λj k ds' es a q1 q2 q3 q4=>?_⟩,stp⟩
 ·rcases neq q with ⟨_,z,_⟩ | ⟨hn,q⟩
  ·cases z
  ·obtain ⟨u,h1,h2⟩:=f.val j e q;exact ⟨u,by rw [ud7 (Ne.symm hn)];exact h1,h2.mono ext⟩
 ·rcases neq q with ⟨rfl,z,hl⟩ | ⟨hn,q⟩
  ·cases z
   refine ⟨p,vs,by rw [uc0 (by rw [<-f.len];exact hl)],.inr rfl,λz=>?_,Ar,r.mono ext⟩;obtain ⟨u,e⟩:=f.s.trk p (f.sub p z);rw [h] at e;cases e
  ·obtain ⟨a,ws,h1,h2,h3,h4,h5⟩:=f.own j es q;exact ⟨a,ws,by rw [ud7 (Ne.symm hn)];exact h1,.inl h2,h3,by rw [Ai (AO h4 h)];exact h4,h5.mono ext⟩
 ·rcases neq q1 with ⟨z1,z2,l1⟩ | ⟨n1,r1⟩
  ·rcases neq q2 with ⟨y1,_,_⟩ | ⟨n2,r2⟩
   ·rw [z1,y1]
   ·subst z1;rw [uc0 (by rw [<-f.len];exact l1)] at q3;injection q3 with q3;injection q3 with q3;injection q3 with q3;subst q3
    rw [ud7 (Ne.symm n2)] at q4;exact absurd q4 (fresh k es r2)
  ·rcases neq q2 with ⟨y1,y2,l2⟩ | ⟨n2,r2⟩
   ·subst y1;rw [uc0 (by rw [<-f.len];exact l2)] at q4;injection q4 with q4;injection q4 with q4;injection q4 with q4;subst q4
    rw [ud7 (Ne.symm n1)] at q3;exact absurd q3 (fresh j ds' r1)
   ·rw [ud7 (Ne.symm n1)] at q3;rw [ud7 (Ne.symm n2)] at q4;exact f.inj j k ds' es a r1 r2 q3 q4
theorem FInv.frz (f:FInv K Oo c t σ H){i:Nat}{ds:List D}(q:t.env[i]?=some (some (.own ds))) :
 ∃c' v,FInv K Oo c' { t with env:=t.env.set i (some (.val (.lst ds))) } σ H/\Stp Oo c H c' H/\σ[i]?=some (some v)/\Rep K c' H v (.lst ds):=by
 obtain ⟨a,vs,h1,h2,h3,h4,h5⟩:=f.own i ds q
 let c':Cf:=⟨c.ι,λb=>c.O b/\b≠a⟩
 have ext:Ext c H c' H:=⟨λ_ _ e _=>e,λb u e z=>z.elim .inl λw=>.inr w.1,λ_ _ e=>e⟩;have sinv:SInv K c' t.S H:=⟨f.s.len,f.s.nd,λk b u e1 e2=>(f.s.obs k b u e1 e2).mono ext rfl,λb z=>f.s.trk b z.1,λb z=>f.s.dis b z.1⟩;have nA:¬c'.A a:=λz=>z.elim (λw=>f.s.dis a h2 w) λw=>w.2 rfl;have hσ:σ.set i (some (.ref a))=σ:=by
  apply List.ext_getElem?;intro j
  by_cases hj:j=i
  ·subst hj;rw [uc0 (by have:=(ub1.mp h1).1;exact this),h1]
  ·rw [ud7 (Ne.symm hj)]
 have r:Rep K c' H (.ref a) (.lst ds):=.lst h4 nA (h5.mono ext);have f0:FInv K Oo c' { t with env:=t.env.set i (some (.val (.lst ds))) } σ H:=by
  have neq:∀{j:Nat} {x:Sl},(t.env.set i (some (.val (.lst ds))))[j]?=some (some x)->(j=i/\x = .val (.lst ds))\/(j≠i/\t.env[j]?=some (some x)):=λ{j x} q=>by
   by_cases h:j=i
   ·subst h;rw [ug6] at q
    split at q
    ·split at q
     ·injection q with q;injection q with q;exact .inl ⟨rfl,q.symm⟩
     ·cases q
    ·next h1=>exact absurd rfl h1
   ·rw [ud7 (Ne.symm h)] at q;exact .inr ⟨h,q⟩
  refine ⟨sinv,by simp [f.len],λb z=>⟨f.sub b z,λw=>h3 (w ▸ z)⟩,λj e q'=>?_,λj es q'=>?_,λj k ds' es b q1 q2 q3 q4=>?_⟩
  ·rcases neq q' with ⟨rfl,z⟩ | ⟨hn,q'⟩
   ·cases z;exact ⟨_,h1,r⟩
   ·obtain ⟨u,w1,w2⟩:=f.val j e q';exact ⟨u,w1,w2.mono ext⟩
  ·rcases neq q' with ⟨_,z⟩ | ⟨hn,q'⟩
   ·cases z
   ·obtain ⟨b,ws,w1,w2,w3,w4,w5⟩:=f.own j es q';refine ⟨b,ws,w1,⟨w2,λz=>?_⟩,w3,w4,w5.mono ext⟩;subst z;exact hn (f.inj j i es ds b q' q w1 h1)
  ·rcases neq q1 with ⟨_,z⟩ | ⟨_,q1⟩
   ·cases z
   rcases neq q2 with ⟨_,z⟩ | ⟨_,q2⟩
   ·cases z
   exact f.inj j k ds' es b q1 q2 q3 q4
 exact ⟨c',_,f0,⟨ext,λ_ _=>rfl⟩,h1,r⟩
theorem FInv.wrOwn (f:FInv K Oo c t σ H){i:Nat}{ds ds':List D}{vs':List V}{a:Addr}(q:t.env[i]?=some (some (.own ds)))(h1:σ[i]?=some (some (.ref a)))(r:Reps K c H vs' ds') :
 FInv K Oo c { t with env:=t.env.set i (some (.own ds')) } σ (upd H a (.lst vs'))/\Stp Oo c H c (upd H a (.lst vs')):=by
 obtain ⟨a',vs,g1,h2,h3,h4,h5⟩:=f.own i ds q;rw [h1] at g1;injection g1 with g1;injection g1 with g1;injection g1 with g1;subst g1
 have ext:Ext c H c (upd H a (.lst vs')):=⟨λb u e n=>by rw [Ai (λ(z:b=a)=>n (.inr (by rw [z];exact h2)))];exact e,λ_ _ _ z=>z,λ_ _ e=>e⟩;have stp:Stp Oo c H c (upd H a (.lst vs')):=⟨ext,λb z=>Ai λw=>h3 (w ▸ z)⟩;have sinv:SInv K c t.S (upd H a (.lst vs')):=by
  refine ⟨f.s.len,f.s.nd,λk b u e1 e2=>(f.s.obs k b u e1 e2).mono ext (Ai λz=>f.s.dis a h2 (z ▸ ud8 e1)),λb z=>?_,f.s.dis⟩
  by_cases hb:b=a
  ·subst hb;exact ⟨_,Ar⟩
  ·obtain ⟨u,e⟩:=f.s.trk b z;exact ⟨u,by rw [Ai hb];exact e⟩
 have neq:∀{j:Nat} {x:Sl},(t.env.set i (some (.own ds')))[j]?=some (some x)->(j=i/\x = .own ds')\/(j≠i/\t.env[j]?=some (some x)):=λ{j x} q=>by
  by_cases h:j=i
  ·subst h;rw [ug6] at q
   split at q
   ·split at q
    ·injection q with q;injection q with q;exact .inl ⟨rfl,q.symm⟩
    ·cases q
   ·next h1=>exact absurd rfl h1
  ·rw [ud7 (Ne.symm h)] at q;exact .inr ⟨h,q⟩
 refine ⟨⟨sinv,by simp [f.len],f.sub,λj e q'=>?_,λj es q'=>?_,λj k es es' b q1 q2 q3 q4=>?_⟩,stp⟩
 ·rcases neq q' with ⟨_,z⟩ | ⟨_,q'⟩
  ·cases z
  ·obtain ⟨u,w1,w2⟩:=f.val j e q';exact ⟨u,w1,w2.mono ext⟩
 ·rcases neq q' with ⟨rfl,z⟩ | ⟨hn,q'⟩
  ·cases z;exact ⟨a,vs',h1,h2,h3,Ar,r.mono ext⟩
  ·obtain ⟨b,ws,w1,w2,w3,w4,w5⟩:=f.own j es q';have hb:b≠a:=λz=>by subst z;exact hn (f.inj j i es ds b q' q w1 h1)
   exact ⟨b,ws,w1,w2,w3,by rw [Ai hb];exact w4,w5.mono ext⟩
 ·have old:∀{j:Nat} {x:List D},(t.env.set i (some (.own ds')))[j]?=some (some (.own x))->∃y,t.env[j]?=some (some (.own y)):=λ{j x} q'=>by
   rcases neq q' with ⟨rfl,_⟩ | ⟨_,q'⟩
   ·exact ⟨ds,q⟩
   ·exact ⟨x,q'⟩
  obtain ⟨y1,z1⟩:=old q1;obtain ⟨y2,z2⟩:=old q2;exact f.inj j k y1 y2 b z1 z2 q3 q4
theorem FInv.wrObj (f:FInv K Oo c t σ H){k:Nat}{a:Addr}{o:Ob}{u:HO}(e:c.ι[k]?=some a)(r:∀c' H',Ext c H c' H'->H' a=some u->ObR K c' H' a o) :
 FInv K Oo c { t with S:=t.S.set k o } σ (upd H a u)/\Stp Oo c H c (upd H a u):=by
 have hA:a∈c.ι:=ud8 e;have ext:Ext c H c (upd H a u):=⟨λb w h n=>by rw [Ai (λ(z:b=a)=>n (.inl (by rw [z];exact hA)))];exact h,λ_ _ _ z=>z,λ_ _ e=>e⟩;have neO:∀b,c.O b->b≠a:=λb z w=>f.s.dis b z (w ▸ hA);have stp:Stp Oo c H c (upd H a u):=⟨ext,λb z=>Ai (neO b (f.sub b z))⟩;have sinv:SInv K c (t.S.set k o) (upd H a u):=by
  refine ⟨by simp [f.s.len],f.s.nd,λj b o' e1 e2=>?_,λb z=>?_,f.s.dis⟩
  ·by_cases hj:j=k
   ·subst hj;rw [e] at e1;cases e1
    have hl:j < t.S.length:=by rw [<-f.s.len];exact (ub1.mp e).1
    rw [uc0 hl] at e2;cases e2
    exact r c _ ext Ar
   ·rw [ud7 (Ne.symm hj)] at e2;refine (f.s.obs j b o' e1 e2).mono ext (Ai λz=>?_);subst z;obtain ⟨l1,g1⟩:=ub1.mp e1;obtain ⟨l2,g2⟩:=ub1.mp e;exact hj ((uh1 f.s.nd).mp (g1.trans g2.symm))
  ·obtain ⟨w,h⟩:=f.s.trk b z;exact ⟨w,by rw [Ai (neO b z)];exact h⟩
 refine ⟨⟨sinv,f.len,f.sub,λi d q=>?_,λi ds q=>?_,f.inj⟩,stp⟩
 ·obtain ⟨v,h1,h2⟩:=f.val i d q;exact ⟨v,h1,h2.mono ext⟩
 ·obtain ⟨b,vs,h1,h2,h3,h4,h5⟩:=f.own i ds q;exact ⟨b,vs,h1,h2,h3,by rw [Ai (neO b h2)];exact h4,h5.mono ext⟩
theorem FInv.newObj (f:FInv K Oo c t σ H){p:Addr}{o:Ob}{u:HO}(h:H p=none)(r:∀c' H',Ext c H c' H'->H' p=some u->ObR K c' H' p o) :
 ∃c',FInv K Oo c' { t with S:=t.S++[o] } σ (upd H p u)/\Stp Oo c H c' (upd H p u)/\c'.ι[t.S.length]?=some p:=by
 let c':Cf:=⟨c.ι++[p],c.O⟩
 have nA:¬c.A p:=f.s.free h;have ext:Ext c H c' (upd H p u):=by
  refine ⟨λb w e _=>by rw [Ai (AO e h)];exact e,λb w e z=>?_,λk a e=>?_⟩
  ·rcases z with z | z
   ·rcases ui8.mp z with z | z
    ·exact .inl z
    ·rw [uf5] at z;subst z;rw [h] at e;cases e
   ·exact .inr z
  ·show (c.ι++[p])[k]?=some a;rw [ub2 (ub1.mp e).1];exact e
 have stp:Stp Oo c H c' (upd H p u):=⟨ext,λb z=>by obtain ⟨w,e⟩:=f.s.trk b (f.sub b z);exact Ai (AO e h)⟩;have at_:(c.ι++[p])[t.S.length]?=some p:=by rw [<-f.s.len,ua7 (un5 _)];simp
 have sinv:SInv K c' (t.S++[o]) (upd H p u):=by
  refine ⟨by simp [c',f.s.len],?_,λj b o' e1 e2=>?_,λb z=>?_,λb z hb=>?_⟩
  ·show (c.ι++[p]).Nodup;exact List.nodup_append.mpr ⟨f.s.nd,by simp,λx hx y hy z=>by rw [uf5] at hy;subst z;subst hy;exact nA (.inl hx)⟩
  ·have hlt:j < (t.S++[o]).length:=(ub1.mp e2).1
   by_cases hj:j < t.S.length
   ·have e1':c.ι[j]?=some b:=by
     have q:(c.ι++[p])[j]?=some b:=e1;rw [ub2 (by rw [f.s.len];exact hj)] at q;exact q
    rw [ub2 hj] at e2;have q:=f.s.obs j b o' e1' e2;obtain ⟨w,hw⟩:=q.some;exact q.mono ext (Ai (AO hw h))
   ·have hj':j=t.S.length:=by simp at hlt;lia
    subst hj';rw [at_] at e1;cases e1
    rw [ua7 (un5 _)] at e2;simp at e2;subst e2;exact r c' _ ext Ar
  ·obtain ⟨w,e⟩:=f.s.trk b z;exact ⟨w,by rw [Ai (AO e h)];exact e⟩
  ·rcases ui8.mp hb with w | w
   ·exact f.s.dis b z w
   ·rw [uf5] at w;subst w;exact nA (.inr z)
 refine ⟨c',⟨sinv,f.len,f.sub,λi d q=>?_,λi ds q=>?_,f.inj⟩,stp,at_⟩
 ·obtain ⟨v,h1,h2⟩:=f.val i d q;exact ⟨v,h1,h2.mono ext⟩
 ·obtain ⟨b,vs,h1,h2,h3,h4,h5⟩:=f.own i ds q;exact ⟨b,vs,h1,h2,h3,by rw [Ai (AO h4 h)];exact h4,h5.mono ext⟩
theorem FInv.after (f:FInv K Oo c t σ H){c':Cf}{S':List Ob}{H':Hp}(s:SInv K c' S' H')(st:Stp c.O c H c' H')(ho:∀b,c'.O b↔c.O b):FInv K Oo c' { t with S:=S' } σ H'/\Stp Oo c H c' H':=by
 refine ⟨⟨s,f.len,λb z=>(ho b).mpr (f.sub b z),λi d q=>?_,λi ds q=>?_,f.inj⟩,st.ext,λb z=>st.oo b (f.sub b z)⟩
 ·obtain ⟨v,h1,h2⟩:=f.val i d q;exact ⟨v,h1,h2.mono st.ext⟩
 ·obtain ⟨b,vs,h1,h2,h3,h4,h5⟩:=f.own i ds q;exact ⟨b,vs,h1,(ho b).mpr h2,h3,(st.oo b h2).trans h4,h5.mono st.ext⟩
end
abbrev M (α:Type):=T->Option (α×T)
inductive Out where
 | next | brk | cont | ret (d:D)
noncomputable def ret {α:Type}(a:α):M α:=λt=>some (a,t)
noncomputable def fail {α:Type}:M α:=λ_=>none
noncomputable def bnd {α β:Type}(f:M α)(g:α->M β):M β:=λt=>match f t with
 | some (a,t1)=>g a t1
 | none=>none
variable {t:T}
theorem Ae {α β:Type}{f:M α}{g:α->M β}{z:β×T}(h:bnd f g t=some z):∃a t1,f t=some (a,t1)/\g a t1=some z:=by
 unfold bnd at h
 cases e:f t with
 | none=>rw [e] at h;cases h
 | some p=>obtain ⟨a,t1⟩:=p;rw [e] at h;exact ⟨a,t1,rfl,h⟩
noncomputable def LIM:Nat:=100000
theorem Cz:LIM<=sizeLine:=by unfold LIM;decide
theorem W9:LIM < sizeLine:=by unfold LIM;decide
section
variable (K:PySem.W.Frag)
inductive RE (f:M D)(σ:L2.St)(H:Hp)(Q:VK):Prop where
 | mk (Oo:Addr->Prop) (c:Cf) (t:T) (fi:FInv K Oo c t σ H) (r:D) (t':T) (e:f t=some (r,t')) (k:∀v H' c',FInv K Oo c' t' σ H'->Stp Oo c H c' H'->Rep K c' H' v r->Q v H'):RE f σ H Q
inductive RT (f:M Bool)(σ:L2.St)(H:Hp)(Q:Bool->Hp->Prop):Prop where
 | mk (Oo:Addr->Prop) (c:Cf) (t:T) (fi:FInv K Oo c t σ H) (r:Bool) (t':T) (e:f t=some (r,t')) (k:∀H' c',FInv K Oo c' t' σ H'->Stp Oo c H c' H'->Q r H'):RT f σ H Q
inductive RA (f:M (List D))(σ:L2.St)(H:Hp)(Q:List V->Hp->Prop):Prop where
 | mk (Oo:Addr->Prop) (c:Cf) (t:T) (fi:FInv K Oo c t σ H) (r:List D) (t':T) (e:f t=some (r,t')) (k:∀vs H' c',FInv K Oo c' t' σ H'->Stp Oo c H c' H'->Reps K c' H' vs r->Q vs H'):RA f σ H Q
inductive RF (f:M (List D))(σ:L2.St)(H:Hp)(Q:VK):Prop where
 | mk (Oo:Addr->Prop) (c:Cf) (t:T) (fi:FInv K Oo c t σ H) (ds:List D) (t':T) (e:f t=some (ds,t')) (k:∀p vs H' c',FInv K Oo c' t' σ H'->Stp Oo c H c' H'->Reps K c' H' vs ds->H' p=none->Q (.ref p) (upd H' p (.lst vs))):RF f σ H Q
inductive RSg (μ:Cf->Hp->D->(V->Hp->Prop)->Prop)(f:M Out)(E:Ends)(σ:L2.St)(H:Hp):Prop where
 | mk (Oo:Addr->Prop) (c:Cf) (t:T) (fi:FInv K Oo c t σ H) (o:Out) (t':T) (e:f t=some (o,t')) (k:∀σ' H' c',FInv K Oo c' t' σ' H'->Stp Oo c H c' H'->
 match (generalizing:=false) o with
 | .next=>E.nx σ' H'
 | .brk=>E.bk σ' H'
 | .cont=>E.ct σ' H'
 | .ret r=>μ c' H' r E.rt):RSg μ f E σ H
def μR:Cf->Hp->D->(V->Hp->Prop)->Prop:=λc H r rt=>∀v,Rep K c H v r->rt v H
def μF:Cf->Hp->D->(V->Hp->Prop)->Prop:=λc H r rt=>match r with
 | .lst ds=>∀p us,H p=none->Reps K c H us ds->rt (.ref p) (upd H p (.lst us))
 | _=>False
abbrev RS (f:M Out):TS:=RSg K (μR K) f
inductive RG (f:D->M Unit)(v:V)(σ:L2.St)(H:Hp)(Q:L2.St->Hp->Prop):Prop where
 | mk (Oo:Addr->Prop) (c:Cf) (t:T) (d:D) (fi:FInv K Oo c t σ H) (r:Rep K c H v d) (t':T) (e:f d t=some ((),t')) (k:∀σ' H' c',FInv K Oo c' t' σ' H'->Stp Oo c H c' H'->Q σ' H'):RG f v σ H Q
structure ItOk (J:It)(c:Cf)(H:Hp)(ds:List D):Prop where
 go:∀c' H' (i:Nat),Ext c H c' H'->i < ds.length->J.go i H'
 yld:∀c' H' (i:Nat) x H'' d,Ext c H c' H'->ds[i]?=some d->J.yld i H' x H''->H''=H'/\Rep K c' H' x d
 stop:∀c' H',Ext c H c' H'->J.stop ds.length H'
inductive RI (f:M (List D))(σ:L2.St)(H:Hp)(R:It->Hp->Prop):Prop where
 | mk (Oo:Addr->Prop) (c:Cf) (t:T) (fi:FInv K Oo c t σ H) (ds:List D) (t':T) (e:f t=some (ds,t')) (k:∀J H' c',FInv K Oo c' t' σ H'->Stp Oo c H c' H'->ItOk K J c' H' ds->R J H'):RI f σ H R
def Bi (R:R2)(h:D->D->M D):Prop:=∀{Oo:Addr->Prop} {c:Cf} {t:T} {σ:L2.St} {H:Hp} {x y:V} {dx dy r:D} {t':T} {Q:VK},FInv K Oo c t σ H->Rep K c H x dx->Rep K c H y dy->h dx dy t=some (r,t')->
 (∀v H' c',FInv K Oo c' t' σ H'->Stp Oo c H c' H'->Rep K c' H' v r->Q v H')->R x y H Q
def En (R:List V->Hp->VK->Prop)(h:List D->M D):Prop:=∀{Oo:Addr->Prop} {c:Cf} {t:T} {σ:L2.St} {H:Hp} {xs:List V} {ds:List D} {r:D} {t':T} {Q:VK},FInv K Oo c t σ H->Reps K c H xs ds->h ds t=some (r,t')->
 (∀v H' c',FInv K Oo c' t' σ H'->Stp Oo c H c' H'->Rep K c' H' v r->Q v H')->R xs H Q
def Lw (R:R2)(h:D->D->M (List D)):Prop:=∀{Oo:Addr->Prop} {c:Cf} {t:T} {σ:L2.St} {H:Hp} {x y:V} {dx dy:D} {r:List D} {t':T} {Q:VK},FInv K Oo c t σ H->Rep K c H x dx->Rep K c H y dy->h dx dy t=some (r,t')->
 (∀p vs H' c',FInv K Oo c' t' σ H'->Stp Oo c H c' H'->Reps K c' H' vs r->H' p=none->Q (.ref p) (upd H' p (.lst vs)))->R x y H Q
def Lx (R:List V->Hp->VK->Prop)(h:List D->M (List D)):Prop:=∀{Oo:Addr->Prop} {c:Cf} {t:T} {σ:L2.St} {H:Hp} {xs:List V} {ds r:List D} {t':T} {Q:VK},FInv K Oo c t σ H->Reps K c H xs ds->h ds t=some (r,t')->
 (∀p vs H' c',FInv K Oo c' t' σ H'->Stp Oo c H c' H'->Reps K c' H' vs r->H' p=none->Q (.ref p) (upd H' p (.lst vs)))->R xs H Q
end
variable {tg:Expr}{j i:Nat}{x:Str}{f g:M D}{h:D->D->M D}{R:R2}{op:CmpOp}{σ:L2.St}
section
variable {X:Cx}{e a b:Expr}{pos:Pos}
theorem AK {t t':TE}(h:PE X e t)(i:∀σ H Q,t' σ H Q->t σ H Q):PE X e t':=λpins s σ H Q I q=>h pins s σ H Q I (i σ H Q q)
theorem LR {t t':TT}(h:PT X e t)(i:∀σ H Q,t' σ H Q->t σ H Q):PT X e t':=λpins s σ H Q I q=>h pins s σ H Q I (i σ H Q q)
theorem P0 {t t':TT}(h:PW X e t)(i:∀σ H Q,t' σ H Q->t σ H Q):PW X e t':=λw pins s σ H Q I q=>h w pins s σ H Q I (i σ H Q q)
theorem PY {es:List Expr}{t t':TA}(h:PA X es t)(i:∀σ H Q,t' σ H Q->t σ H Q):PA X es t':=λpos pins s σ H Q I q=>h pos pins s σ H Q I (i σ H Q q)
theorem Bn {st:Stmt}{t t':TS}(h:PS X st t)(i:∀E σ H,t' E σ H->t E σ H):PS X st t':=λpins s σ H E I q=>h pins s σ H E I (i E σ H q)
theorem NP {st:List Stmt}{t t':TS}(h:PSs X st t)(i:∀E σ H,t' E σ H->t E σ H):PSs X st t':=λpins s σ H E I q=>h pins s σ H E I (i E σ H q)
theorem LP {t t':TG}(h:PG X e t)(i:∀v σ H Q,t' v σ H Q->t v σ H Q):PG X e t':=λpins s σ H v u Q I r q=>h pins s σ H v u Q I r (i v σ H Q q)
theorem IY {t t':TI}(h:PI X tg e t)(i:∀σ H R,t' σ H R->t σ H R):PI X tg e t':=λpins s σ H R I q=>h pins s σ H R I (i σ H R q)
def fC (d:D):M D:=ret d
theorem IE {v:V}{d:D}(h:PE X e (tC v))(r:∀c H,Rep X.K c H v d):PE X e (RE X.K (fC d)):=
 AK h λσ H Q z9=>by
  obtain ⟨Oo,c,t,f,r',t',eq,k⟩:=z9
  cases eq
  exact k v H c f .refl (r c H)
theorem XA {i:Int}:PE X (.Constant (.int i) j pos) (RE X.K (fC (.int i))):=IE Yv λ_ _=>.int i
theorem Zy {i:Bool}:PE X (.Constant (.bool i) j pos) (RE X.K (fC (.bl i))):=IE ZQ λ_ _=>.bl i
theorem XG {i:Str}:PE X (.Constant (.str i) j pos) (RE X.K (fC (.str i))):=IE Rc λ_ _=>.str i
theorem XB:PE X (.Constant .none j pos) (RE X.K (fC .non)):=IE Yx λ_ _=>.non
theorem Kj {i:Int}{tk:Tok}(hg:Gl X x)(hm:X.mg x=some (.int i tk))(hd:(x == ("__debug__" : Str))=false:=by decide):PE X (.Name x pos) (RE X.K (fC (.int i))):=
 IE (Oi hg hm (v:=.int i) ⟨tk,rfl⟩ hd) λ_ _=>.int i
theorem SC {y:Str}{tk:Tok}(hg:Gl X x)(hm:X.mg x=some (.str y tk))(hd:(x == ("__debug__" : Str))=false:=by decide):PE X (.Name x pos) (RE X.K (fC (.str y))):=
 IE (Oi hg hm (v:=.str y) ⟨tk,rfl⟩ hd) λ_ _=>.str y
theorem Jr {n:String}(hg:Gl X x)(hm:X.mg x=none)(hv:bootBuiltins x=some (.type n))(hn:x≠"__name__":=by decide)(hd:(x == ("__debug__" : Str))=false:=by decide):PE X (.Name x pos) (RE X.K (fC (.ty n))):=
 IE (VZ hg hm hv (v:=.ty n) rfl hn hd) λ_ _=>.ty n
noncomputable def Ab (i:Nat):M D:=λt=>match t.env[i]? with
 | some (some (.val d))=>some (d,t)
 | some (some (.own ds))=>some (.lst ds,{ t with env:=t.env.set i (some (.val (.lst ds))) })
 | _=>none
theorem OU {t':T}{r:D}(h:Ab i t=some (r,t')):(t.env[i]?=some (some (.val r))/\t'=t)\/∃ds,t.env[i]?=some (some (.own ds))/\r = .lst ds/\t' = { t with env:=t.env.set i (some (.val (.lst ds))) }:=by
 unfold Ab at h
 cases e:t.env[i]? with
 | none=>rw [e] at h;cases h
 | some o=>
   cases o with
   | none=>rw [e] at h;cases h
   | some sl=>
     cases sl with
     | val d=>rw [e] at h;cases h;exact .inl ⟨rfl,rfl⟩
     | own ds=>rw [e] at h;cases h;exact .inr ⟨ds,rfl,rfl,rfl⟩
theorem XI (i:Nat){x:Str}(hN:X.N[i]?=some x:=by rfl)(hv:Vis X.env.scope x:=by walk_at "h")(hd:(x == ("__debug__" : Str))=false:=by decide)
 (hcd:(x == ("__classdict__" : Str))=false:=by decide):PE X (.Name x pos) (RE X.K (Ab i)):=
 AK (C7 hN hv hd hcd) λσ H Q z9=>by
  obtain ⟨Oo,c,t,f,r,t',eq,k⟩:=z9;rcases OU eq with ⟨q,rfl⟩ | ⟨ds,q,rfl,rfl⟩
  ·obtain ⟨v,h1,h2⟩:=f.val i r q;exact ⟨v,h1,k v H c f .refl h2⟩
  ·obtain ⟨c',v,f',st,h1,h2⟩:=f.frz q;exact ⟨v,h1,k v H c' f' st h2⟩
def Ac (f g:M D)(h:D->D->M D):M D:=bnd f λx=>bnd g λy=>h x y
theorem RE.two (s:Bi K R h){σ:L2.St}{H:Hp}{Q:VK}(q:RE K (Ac f g h) σ H Q):tOp R (RE K f) (RE K g) σ H Q:=by
 obtain ⟨Oo,c,t,fi,r,t',eq,k⟩:=q;obtain ⟨dx,t1,e1,eq⟩:=Ae eq;obtain ⟨dy,t2,e2,eq⟩:=Ae eq;exact ⟨Oo,c,t,fi,dx,t1,e1,λx H1 c1 f1 s1 rx=>⟨Oo,c1,t1,f1,dy,t2,e2,λy H2 c2 f2 s2 ry=>s f2 (rx.mono s2.ext) ry eq λv H' c' f' s' rv=>k v H' c' f' ((s1.trans s2).trans s') rv⟩⟩
theorem E3 {op:Operator}(ho:OpR X (binaryOp op) R)(s:Bi X.K R h)(ha:PE X a (RE X.K f))(hb:PE X b (RE X.K g)):PE X (.BinOp a op b pos) (RE X.K (Ac f g h)):=
 AK (Pi ho ha hb) λ_ _ _ q=>RE.two s q
theorem F0 (ho:OpR X (compareOp op) R)(s:Bi X.K R h)(ha:PE X a (RE X.K f))(hb:PE X b (RE X.K g))(hm:behindInMarks op b=false):PE X (.Compare a [op] [b] pos) (RE X.K (Ac f g h)):=
 AK (V0 ho ha hb hm) λ_ _ _ q=>RE.two s q
theorem Uy (hr:IxR X R)(s:Bi X.K R h)(ha:PE X a (RE X.K f))(hb:PE X b (RE X.K g))(hs:NQ b):PE X (.Subscript a b pos) (RE X.K (Ac f g h)):=
 AK (ZR hr ha hb hs) λ_ _ _ q=>RE.two s q
def fUn (f:M D)(h:D->M D):M D:=bnd f h
def toB:D->M Bool
 | .bl b=>ret b
 | _=>fail
def Au (f:M D):M Bool:=bnd f toB
theorem IT {d:D}{z:Bool×T}(h:toB d t=some z):∃b,d = .bl b/\z=(b,t):=by
 cases d with
 | bl b=>cases h;exact ⟨b,rfl,rfl⟩
 | _=>cases h
theorem RT.val {Q:Bool->Hp->Prop}(q:RT K (Au f) σ H Q):RE K f σ H λx H1=>∃k,x = .bl k/\Q k H1:=by
 obtain ⟨Oo,c,t,fi,r,t',eq,k⟩:=q;obtain ⟨d,t1,e1,eq⟩:=Ae eq;obtain ⟨b,rfl,z⟩:=IT eq
 cases z
 refine ⟨Oo,c,t,fi,_,t',e1,λv H1 c1 f1 s1 rv=>?_⟩
 cases rv
 exact ⟨r,rfl,k H1 c1 f1 s1⟩
theorem XW (h:PE X e (RE X.K f))(he:∀whole,isTrue e X.env whole=(do let v <-whole;standAt e.pos;holding [v] (truthy v)):=by intro _;rfl):PT X e (RT X.K (Au f)):=
 LR (YI h he) λ_ _ _ q=>RT.val q
theorem D8 (ho:OpR X (compareOp op) R)(s:Bi X.K R h)(ha:PE X a (RE X.K f))(hb:PE X b (RE X.K g))(hm:behindInMarks op b=false):PT X (.Compare a [op] [b] pos) (RT X.K (Au (Ac f g h))):=
 LR (Wj ho ha hb hm) λσ H Q q=>RE.two s (RT.val q)
def EM (f g w:M D)(h h':D->D->M D):M D:=bnd f λx=>bnd g λy=>bnd (Au (h x y)) λk=>if k=true then bnd w λz=>h' y z else ret (.bl false)
theorem RE.chain {w:M D}{h':D->D->M D}{R':R2}(s:Bi K R h)(s':Bi K R' h'){σ:L2.St}{H:Hp}{Q:VK}(q:RE K (EM f g w h h') σ H Q):RM R R' (RE K f) (RE K g) (RE K w) σ H Q:=by
 obtain ⟨Oo,c,t,fi,r,t',eq,k⟩:=q;obtain ⟨dx,t1,e1,eq⟩:=Ae eq;obtain ⟨dy,t2,e2,eq⟩:=Ae eq;obtain ⟨kb,t3,e3,eq⟩:=Ae eq;obtain ⟨d3,t3',e3',e3⟩:=Ae e3;obtain ⟨b3,rfl,z⟩:=IT e3
 cases z
 refine ⟨Oo,c,t,fi,dx,t1,e1,λx H1 c1 f1 s1 rx=>⟨Oo,c1,t1,f1,dy,t2,e2,λy H2 c2 f2 s2 ry=>s f2 (rx.mono s2.ext) ry e3' λv H3 c3 f3 s3 rv=>?_⟩⟩
 cases rv
 refine ⟨kb,rfl,?_⟩
 cases kb with
 | false=>
   rw [if_neg uf0] at eq ⊢
   cases eq
   exact k _ H3 c3 f3 ((s1.trans s2).trans s3) (.bl false)
 | true=>
   rw [if_pos rfl] at eq ⊢;obtain ⟨dz,t4,e4,eq⟩:=Ae eq;exact ⟨Oo,c3,t3,f3,dz,t4,e4,λw' H4 c4 f4 s4 rw'=>s' f4 (ry.mono (s3.trans s4).ext) rw' eq λv H' c' f' s' rv=>k v H' c' f' ((((s1.trans s2).trans s3).trans s4).trans s') rv⟩
theorem Sz {d:Expr}{op':CmpOp}{R':R2}{w:M D}{h':D->D->M D}(ho:OpR X (compareOp op) R)(ho':OpR X (compareOp op') R')(s:Bi X.K R h)(s':Bi X.K R' h')(ha:PE X a (RE X.K f))(hb:PE X b (RE X.K g))(hd:PE X d (RE X.K w))
 (hm:lastMarks [op,op'] [b,d]=false:=by with_unfolding_all rfl):PE X (.Compare a [op,op'] [b,d] pos) (RE X.K (EM f g w h h')):=
 AK (Ty ho ho' ha hb hd hm) λ_ _ _ q=>RE.chain s s' q
def ID (f g:M Bool):M Bool:=bnd f λk=>if k=true then g else ret false
def fOr (f g:M Bool):M Bool:=bnd f λk=>if k=true then ret true else g
def Cu (f:M Bool):M Bool:=bnd f λk=>ret (!k)
def DH (f g:M D):M D:=bnd (Au f) λk=>if k=true then g else ret (.bl false)
def Xv (f g:M D):M D:=bnd (Au f) λk=>if k=true then ret (.bl true) else g
def HB (f:M D):M D:=bnd (Au f) λk=>ret (.bl (!k))
def fIf (f:M Bool)(g h:M D):M D:=bnd f λk=>if k=true then g else h
variable {f g:M Bool}{u v w:M D}{rest:List Expr}
theorem ZF (h:PW X e (RT X.K f)):PT X e (RT X.K f):=h.pt
theorem Vo (ha:PT X a (RT X.K f)):PW X (.BoolOp .And [a] pos) (RT X.K f):=Wl ha
theorem XY (ha:PT X a (RT X.K f)):PW X (.BoolOp .Or [a] pos) (RT X.K f):=YL ha
theorem XX (ha:PT X a (RT X.K f))(hb:PW X (.BoolOp .And (b :: rest) pos) (RT X.K g)):PW X (.BoolOp .And (a :: b :: rest) pos) (RT X.K (ID f g)):=
 P0 (YK ha hb) λσ H Q z9=>by
  obtain ⟨Oo,c,t,fi,r,t',eq,k⟩:=z9;obtain ⟨kb,t1,e1,eq⟩:=Ae eq;refine ⟨Oo,c,t,fi,kb,t1,e1,λH1 c1 f1 s1=>?_⟩
  cases kb with
  | false=>rw [if_neg uf0] at eq ⊢;cases eq;exact k H1 c1 f1 s1
  | true=>rw [if_pos rfl] at eq ⊢;exact ⟨Oo,c1,t1,f1,r,t',eq,λH2 c2 f2 s2=>k H2 c2 f2 (s1.trans s2)⟩
theorem ZG (ha:PT X a (RT X.K f))(hb:PW X (.BoolOp .Or (b :: rest) pos) (RT X.K g)):PW X (.BoolOp .Or (a :: b :: rest) pos) (RT X.K (fOr f g)):=
 P0 (ZX ha hb) λσ H Q z9=>by
  obtain ⟨Oo,c,t,fi,r,t',eq,k⟩:=z9;obtain ⟨kb,t1,e1,eq⟩:=Ae eq;refine ⟨Oo,c,t,fi,kb,t1,e1,λH1 c1 f1 s1=>?_⟩
  cases kb with
  | true=>rw [if_pos rfl] at eq ⊢;cases eq;exact k H1 c1 f1 s1
  | false=>rw [if_neg uf0] at eq ⊢;exact ⟨Oo,c1,t1,f1,r,t',eq,λH2 c2 f2 s2=>k H2 c2 f2 (s1.trans s2)⟩
theorem XV (ha:PT X a (RT X.K f)):PT X (.UnaryOp .Not a pos) (RT X.K (Cu f)):=
 LR (YH ha) λσ H Q z9=>by
  obtain ⟨Oo,c,t,fi,r,t',eq,k⟩:=z9;obtain ⟨kb,t1,e1,eq⟩:=Ae eq
  cases eq
  exact ⟨Oo,c,t,fi,kb,_,e1,λH1 c1 f1 s1=>k H1 c1 f1 s1⟩
theorem NC {f:M D}{kb:Bool}{t1:T}(h:Au f t=some (kb,t1)):f t=some (.bl kb,t1):=by
 obtain ⟨d,t2,e1,e2⟩:=Ae h;obtain ⟨b,rfl,z⟩:=IT e2
 cases z
 exact e1
theorem XF {op:PySem.BoolOp}(h:PE X a (RE X.K u)):PE X (.BoolOp op [a] pos) (RE X.K u):=Yz h
theorem Xx (ha:PE X a (RE X.K u))(hb:PE X (.BoolOp .And (b :: rest) pos) (RE X.K v)):PE X (.BoolOp .And (a :: b :: rest) pos) (RE X.K (DH u v)):=
 AK (Yt ha hb) λσ H Q z9=>by
  obtain ⟨Oo,c,t,fi,r,t',eq,k⟩:=z9;obtain ⟨kb,t1,e1,eq⟩:=Ae eq;refine ⟨Oo,c,t,fi,_,t1,NC e1,λx H1 c1 f1 s1 rx=>?_⟩
  cases rx
  refine ⟨kb,rfl,?_⟩
  cases kb with
  | false=>rw [if_neg uf0] at eq ⊢;cases eq;exact k _ H1 c1 f1 s1 (.bl false)
  | true=>rw [if_pos rfl] at eq ⊢;exact ⟨Oo,c1,t1,f1,r,t',eq,λy H2 c2 f2 s2 ry=>k y H2 c2 f2 (s1.trans s2) ry⟩
theorem XC (ha:PE X a (RE X.K u)):PE X (.UnaryOp .Not a pos) (RE X.K (HB u)):=
 AK (Yy ha) λσ H Q z9=>by
  obtain ⟨Oo,c,t,fi,r,t',eq,k⟩:=z9;obtain ⟨kb,t1,e1,eq⟩:=Ae eq
  cases eq
  refine ⟨Oo,c,t,fi,_,_,NC e1,λx H1 c1 f1 s1 rx=>?_⟩
  cases rx
  exact ⟨kb,rfl,k _ H1 c1 f1 s1 (.bl (!kb))⟩
theorem SD {d:Expr}(hc:PT X d (RT X.K f))(ha:PE X a (RE X.K u))(hb:PE X b (RE X.K v)):PE X (.IfExp d a b pos) (RE X.K (fIf f u v)):=
 AK (TB hc ha hb) λσ H Q z9=>by
  obtain ⟨Oo,c,t,fi,r,t',eq,k⟩:=z9;obtain ⟨kb,t1,e1,eq⟩:=Ae eq;refine ⟨Oo,c,t,fi,kb,t1,e1,λH1 c1 f1 s1=>?_⟩
  cases kb with
  | false=>rw [if_neg uf0] at eq ⊢;exact ⟨Oo,c1,t1,f1,r,t',eq,λy H2 c2 f2 s2 ry=>k y H2 c2 f2 (s1.trans s2) ry⟩
  | true=>rw [if_pos rfl] at eq ⊢;exact ⟨Oo,c1,t1,f1,r,t',eq,λy H2 c2 f2 s2 ry=>k y H2 c2 f2 (s1.trans s2) ry⟩
end
variable {n:Nat}{p:Pos}
section
variable {X:Cx}{e a b:Expr}{es:List Expr}{pos:Pos}
def Ad:M (List D):=ret []
def Aa (f:M D)(g:M (List D)):M (List D):=bnd f λd=>bnd g λds=>ret (d :: ds)
theorem Xw:PA X [] (RA X.K Ad):=PY Ys λσ H Q z9=>by
 obtain ⟨Oo,c,t,fi,r,t',eq,k⟩:=z9
 cases eq
 exact k [] H c fi .refl .nil
theorem U4 {g:M (List D)}(ha:PE X e (RE X.K f))(hr:PA X es (RA X.K g))(hs:starEach (e :: es) X.env=(false,eval e X.env) :: starEach es X.env:=by rfl):PA X (e :: es) (RA X.K (Aa f g)):=
 PY (VX ha hr hs) λσ H Q z9=>by
  obtain ⟨Oo,c,t,fi,r,t',eq,k⟩:=z9;obtain ⟨d,t1,e1,eq⟩:=Ae eq;obtain ⟨ds,t2,e2,eq⟩:=Ae eq
  cases eq
  exact ⟨Oo,c,t,fi,d,t1,e1,λx H1 c1 f1 s1 rx=>⟨Oo,c1,t1,f1,ds,_,e2,λxs H2 c2 f2 s2 rxs=>k _ H2 c2 f2 (s1.trans s2) (.cons (rx.mono s2.ext) rxs)⟩⟩
def lim {α:Type}(n:Nat)(a:α):M α:=λt=>if n<=LIM then some (a,t) else none
theorem DO {α:Type}{a:α}{z:α×T}(h:lim n a t=some z):n<=LIM/\z=(a,t):=by
 unfold lim at h
 split at h
 ·next h1=>cases h;exact ⟨h1,rfl⟩
 ·cases h
def A3 (f:M (List D)):M D:=bnd f λds=>lim ds.length (.tup ds)
theorem XH {x1:Nat}{f:M (List D)}(h:PA X es (RA X.K f)):PE X (.Tuple es x1 pos) (RE X.K (A3 f)):=
 AK (YA h) λσ H Q z9=>by
  obtain ⟨Oo,c,t,fi,r,t',eq,k⟩:=z9;obtain ⟨ds,t1,e1,eq⟩:=Ae eq;obtain ⟨hl,z⟩:=DO eq
  cases z
  refine ⟨Oo,c,t,fi,ds,_,e1,λxs H1 c1 f1 s1 rxs=>⟨by rw [rxs.length];exact um4 hl Cz,λp hp=>?_⟩⟩;exact k _ _ c1 (f1.laid hp) (s1.trans (f1.stp_laid hp)) (.tup Ar (f1.s.free hp) (rxs.mono (Ext.laid f1.s hp)))
def AV (f:M (List D)):M (List D):=bnd f λds=>lim ds.length ds
theorem XJ {f:M (List D)}(h:PA X es (RA X.K f)):PE X (.List es pos) (RF X.K (AV f)):=
 AK (Yw h) λσ H Q z9=>by
  obtain ⟨Oo,c,t,fi,r,t',eq,k⟩:=z9;obtain ⟨ds,t1,e1,eq⟩:=Ae eq;obtain ⟨hl,z⟩:=DO eq
  cases z
  exact ⟨Oo,c,t,fi,_,_,e1,λxs H1 c1 f1 s1 rxs=>⟨by rw [rxs.length];exact um4 hl Cz,λp hp=>k p xs H1 c1 f1 s1 rxs hp⟩⟩
def AJ (f:M (List D)):M D:=bnd f λds=>ret (.lst ds)
theorem U9 {f:M (List D)}(h:PE X e (RF X.K f)):PE X e (RE X.K (AJ f)):=
 AK h λσ H Q z9=>by
  obtain ⟨Oo,c,t,fi,r,t',eq,k⟩:=z9;obtain ⟨ds,t1,e1,eq⟩:=Ae eq
  cases eq
  exact ⟨Oo,c,t,fi,ds,_,e1,λp xs H1 c1 f1 s1 rxs hp=>k _ _ c1 (f1.laid hp) (s1.trans (f1.stp_laid hp)) (.lst Ar (f1.s.free hp) (rxs.mono (Ext.laid f1.s hp)))⟩
noncomputable def Pc (o:Ob):M D:=λt=>some (.obj t.S.length,{ t with S:=t.S++[o] })
def CP (f:M (List D)):M D:=bnd f λds=>Pc (.lst ds)
theorem XD {f:M (List D)}(h:PE X e (RF X.K f)):PE X e (RE X.K (CP f)):=
 AK h λσ H Q z9=>by
  obtain ⟨Oo,c,t,fi,r,t',eq,k⟩:=z9;obtain ⟨ds,t1,e1,eq⟩:=Ae eq
  cases eq
  refine ⟨Oo,c,t,fi,ds,_,e1,λp xs H1 c1 f1 s1 rxs hp=>?_⟩;obtain ⟨c2,f2,s2,e2⟩:=f1.newObj (o:=.lst ds) (u:=.lst xs) hp λc' H' ex hu=>⟨xs,hu,rxs.mono ex⟩;exact k _ _ c2 f2 (s1.trans s2) (.obj e2)
abbrev Fn:=List D->List Ob->Option (D×List Ob)
inductive spF (K:PySem.W.Frag)(f:Fn)(vs:List V)(H:Hp)(Q:VK)(E:XK):Prop where
 | mk (c:Cf) (ds:List D) (S:List Ob) (si:SInv K c S H) (rs:Reps K c H vs ds) (r:D) (S':List Ob) (e:f ds S=some (r,S')) (k:∀v H' c',SInv K c' S' H'->Stp c.O c H c' H'->(∀b,c'.O b↔c.O b)->Rep K c' H' v r->Q v H'):spF K f vs H Q E
def Aj (g:Fn)(f:M (List D)):M D:=bnd f λds t=>match g ds t.S with
 | some (r,S')=>some (r,{ t with S:=S' })
 | none=>none
theorem EL {g:Fn}{ds:List D}{r:D}{t':T}(h:(match g ds t.S with | some (r,S')=>some (r,{ t with S:=S' }) | none=>none:Option (D×T))=some (r,t')):∃S',g ds t.S=some (r,S')/\t' = { t with S:=S' }:=by
 cases e:g ds t.S with
 | none=>rw [e] at h;cases h
 | some p=>obtain ⟨r',S'⟩:=p;rw [e] at h;cases h;exact ⟨S',rfl,rfl⟩
theorem U5 {k:Nat}{fa:Addr}{fd:FuncData}{ps:List Str}{g:Fn}{f:M (List D)}(F:FnOk X.prog X.w X.K X.mg X.base CX0 k fa fd ps (spF X.K g))(hr:Room k X.A)(hg:Gl X x)(hm:X.mg x=some (.ref fa))(hk:PySem.W.keepIn X.K (.ref fa)=true)(hb:Binds X.K fd ps [])
 (ha:PA X (e :: es) (RA X.K f)) (hdb:(x == ("__debug__" : Str))=false:=by decide) (he:starEach (e :: es) X.env=(false,eval e X.env) :: starEach es X.env:=by rfl) (hpl:(backTo pos (starEach es X.env)).any (·.1)=false:=by rfl) :
 PE X (.Call (.Name x p) (e :: es) [] pos) (RE X.K (Aj g f)):=
 AK (Og F hr hg hm hk hb .nil Gy ha hdb he hpl) λσ H Q z9=>by
  obtain ⟨Oo,c,t,fi,r,t',eq,kk⟩:=z9;obtain ⟨ds,t1,e1,eq⟩:=Ae eq;obtain ⟨S',e2,rfl⟩:=EL eq;refine ⟨Oo,c,t,fi,ds,t1,e1,λvs H1 c1 f1 s1 rvs=>?_⟩;show spF X.K g (vs++[]) H1 Q E0;rw [uj2];refine ⟨c1,ds,t1.S,f1.s,rvs,r,S',e2,λv H' c' si st ho rv=>?_⟩;obtain ⟨f2,s2⟩:=f1.after si st ho;exact kk v H' c' f2 (s1.trans s2) rv
def fB (f:M (List D))(h:List D->M D):M D:=bnd f h
theorem RE.callB {f:M (List D)}{h:List D->M D}{R:List V->Hp->VK->Prop}(s:En K R h){σ:L2.St}{H:Hp}{Q:VK}(q:RE K (fB f h) σ H Q):tCB R (RA K f) σ H Q:=by
 obtain ⟨Oo,c,t,fi,r,t',eq,k⟩:=q;obtain ⟨ds,t1,e1,eq⟩:=Ae eq;exact ⟨Oo,c,t,fi,ds,t1,e1,λxs H1 c1 f1 s1 rxs=>s f1 rxs eq λv H' c' f' s' rv=>k v H' c' f' (s1.trans s') rv⟩
def fBF (f:M (List D))(h:List D->M (List D)):M (List D):=bnd f h
theorem RF.callB {f:M (List D)}{h:List D->M (List D)}{R:List V->Hp->VK->Prop}(s:Lx K R h){σ:L2.St}{H:Hp}{Q:VK}(q:RF K (fBF f h) σ H Q):tCB R (RA K f) σ H Q:=by
 obtain ⟨Oo,c,t,fi,r,t',eq,k⟩:=q;obtain ⟨ds,t1,e1,eq⟩:=Ae eq;exact ⟨Oo,c,t,fi,ds,t1,e1,λxs H1 c1 f1 s1 rxs=>s f1 rxs eq λp vs H' c' f' s' rv hp=>k p vs H' c' f' (s1.trans s') rv hp⟩
theorem RF.two {h:D->D->M (List D)}(s:Lw K R h){σ:L2.St}{H:Hp}{Q:VK}(q:RF K (bnd f λx=>bnd g λy=>h x y) σ H Q):tOp R (RE K f) (RE K g) σ H Q:=by
 obtain ⟨Oo,c,t,fi,r,t',eq,k⟩:=q;obtain ⟨dx,t1,e1,eq⟩:=Ae eq;obtain ⟨dy,t2,e2,eq⟩:=Ae eq;exact ⟨Oo,c,t,fi,dx,t1,e1,λx H1 c1 f1 s1 rx=>⟨Oo,c1,t1,f1,dy,t2,e2,λy H2 c2 f2 s2 ry=>s f2 (rx.mono s2.ext) ry eq λp vs H' c' f' s' rv hp=>k p vs H' c' f' ((s1.trans s2).trans s') rv hp⟩⟩
end
variable {μ:Cf->Hp->D->(V->Hp->Prop)->Prop}
section
variable {X:Cx}{e a b:Expr}{pos:Pos}{st:Stmt}{sts:List Stmt}
noncomputable def Af (f g:M Out):M Out:=λt=>match f t with
 | some (.next,t1)=>g t1
 | z=>z
def AF:M Out:=ret .next
theorem Vm:PSs X [] (RSg X.K μ AF):=NP Wi λE σ H z9=>by
 obtain ⟨Oo,c,t,fi,o,t',eq,k⟩:=z9
 cases eq
 exact k σ H c fi .refl
theorem SO {μ:Cf->Hp->D->(V->Hp->Prop)->Prop}{f g:M Out}(h1:PS X st (RSg X.K μ f))(h2:PSs X sts (RSg X.K μ g)):PSs X (st :: sts) (RSg X.K μ (Af f g)):=
 NP (IM h1 h2) λE σ H z9=>by
  obtain ⟨Oo,c,t,fi,o,t',eq,k⟩:=z9;unfold Af at eq
  cases e1:f t with
  | none=>rw [e1] at eq;cases eq
  | some p=>
    obtain ⟨o1,t1⟩:=p;rw [e1] at eq;refine ⟨Oo,c,t,fi,o1,t1,e1,λσ1 H1 c1 f1 s1=>?_⟩
    cases o1 with
    | next=>exact ⟨Oo,c1,t1,f1,o,t',eq,λσ2 H2 c2 f2 s2=>k σ2 H2 c2 f2 (s1.trans s2)⟩
    | brk=>cases eq;exact k σ1 H1 c1 f1 s1
    | cont=>cases eq;exact k σ1 H1 c1 f1 s1
    | ret d=>cases eq;exact k σ1 H1 c1 f1 s1
theorem Vn {μ:Cf->Hp->D->(V->Hp->Prop)->Prop}{f:M Out}(h1:PS X st (RSg X.K μ f)):PSs X [st] (RSg X.K μ f):=HU h1
def Av (f:M D):M Out:=bnd f λd=>ret (.ret d)
theorem Qy (h:PE X e (RE X.K f)):PS X (.Return (some e) pos) (RS X.K (Av f)):=
 Bn (Hk h) λE σ H z9=>by
  obtain ⟨Oo,c,t,fi,o,t',eq,k⟩:=z9;obtain ⟨d,t1,e1,eq⟩:=Ae eq
  cases eq
  exact ⟨Oo,c,t,fi,d,_,e1,λv H1 c1 f1 s1 rv=>k σ H1 c1 f1 s1 v rv⟩
theorem SM:PS X (.Break pos) (RSg X.K μ (ret .brk)):=Bn TL λE σ H z9=>by
 obtain ⟨Oo,c,t,fi,o,t',eq,k⟩:=z9
 cases eq
 exact k σ H c fi .refl
def CO (f:M D):M Out:=bnd f λ_=>ret .next
theorem N1 (h:PE X e (RE X.K f))(hs:swapsWith e none pos.line X.env=pure false:=by rfl):PS X (.Expr e pos) (RSg X.K μ (CO f)):=
 Bn (Kr h hs) λE σ H z9=>by
  obtain ⟨Oo,c,t,fi,o,t',eq,k⟩:=z9;obtain ⟨d,t1,e1,eq⟩:=Ae eq
  cases eq
  exact ⟨Oo,c,t,fi,d,_,e1,λv H1 c1 f1 s1 rv=>k σ H1 c1 f1 s1⟩
def ifS (f:M Bool)(g h:M Out):M Out:=bnd f λk=>if k=true then g else h
theorem ZE {f:M Bool}{g h:M Out}{sa sb:List Stmt}(hc:PT X e (RT X.K f))(ha:PSs X sa (RSg X.K μ g))(hb:PSs X sb (RSg X.K μ h)):PS X (.If e sa sb pos) (RSg X.K μ (ifS f g h)):=
 Bn (ZW hc ha hb) λE σ H z9=>by
  obtain ⟨Oo,c,t,fi,o,t',eq,k⟩:=z9;obtain ⟨kb,t1,e1,eq⟩:=Ae eq;refine ⟨Oo,c,t,fi,kb,t1,e1,λH1 c1 f1 s1=>?_⟩
  cases kb with
  | true=>rw [if_pos rfl] at eq ⊢;exact ⟨Oo,c1,t1,f1,o,t',eq,λσ2 H2 c2 f2 s2=>k σ2 H2 c2 f2 (s1.trans s2)⟩
  | false=>rw [if_neg uf0] at eq ⊢;exact ⟨Oo,c1,t1,f1,o,t',eq,λσ2 H2 c2 f2 s2=>k σ2 H2 c2 f2 (s1.trans s2)⟩
noncomputable def AQ (i:Nat)(d:D):M Unit:=λt=>some ((),{ t with env:=t.env.set i (some (.val d)) })
def AA (i:Nat)(f:M D):M Out:=bnd f λd=>bnd (AQ i d) λ_=>ret .next
theorem RS.set {μ:Cf->Hp->D->(V->Hp->Prop)->Prop}{K:PySem.W.Frag}{i:Nat}{f:M D}{E:Ends}{σ:L2.St}{H:Hp}(q:RSg K μ (AA i f) E σ H):NB (RE K f) (Ju i) E σ H:=by
 obtain ⟨Oo,c,t,fi,o,t',eq,k⟩:=q;obtain ⟨d,t1,e1,eq⟩:=Ae eq
 cases eq
 exact ⟨Oo,c,t,fi,d,t1,e1,λv H1 c1 f1 s1 rv=>k _ H1 c1 (f1.set rv) s1⟩
theorem QA {pos':Pos}(hN:X.N.Nodup)(hi:X.N[i]?=some x)(hx:Loc X.env.scope x)(he:PE X e (RE X.K f))(hs:swapsWith e (some (.Name x pos')) pos.line X.env=pure false:=by rfl)(hf:X.fn x=true\/X.env.scope.names.lookup x=some .local:=by walk_at "h") :
 PS X (.Assign [.Name x pos'] e pos) (RSg X.K μ (AA i f)):=Bn (Nk hN hi hx he hs hf) λ_ _ _ q=>RS.set q
def Ej (i:Nat)(f:M (List D)):M Out:=bnd f λds t=>some (.next,{ t with env:=t.env.set i (some (.own ds)) })
theorem RS.own {f:M (List D)}{E:Ends}(q:RSg K μ (Ej i f) E σ H):NB (RF K f) (Ju i) E σ H:=by
 obtain ⟨Oo,c,t,fi,o,t',eq,k⟩:=q;obtain ⟨ds,t1,e1,eq⟩:=Ae eq
 cases eq
 refine ⟨Oo,c,t,fi,ds,t1,e1,λp vs H1 c1 f1 s1 rv hp=>?_⟩;obtain ⟨c2,f2,s2⟩:=f1.setOwn (i:=i) hp rv;exact k _ _ c2 f2 (s1.trans s2)
theorem XT {f:M (List D)}{pos':Pos}(hN:X.N.Nodup)(hi:X.N[i]?=some x)(hx:Loc X.env.scope x)(he:PE X e (RF X.K f))(hs:swapsWith e (some (.Name x pos')) pos.line X.env=pure false:=by rfl)(hf:X.fn x=true\/X.env.scope.names.lookup x=some .local:=by walk_at "h") :
 PS X (.Assign [.Name x pos'] e pos) (RSg X.K μ (Ej i f)):=Bn (Nk hN hi hx he hs hf) λ_ _ _ q=>RS.own q
theorem C9 (hN:X.N.Nodup)(hi:X.N[i]?=some x)(hx:Loc X.env.scope x)(hf:X.fn x=true\/X.env.scope.names.lookup x=some .local:=by walk_at "h"):PG X (.Name x pos) (RG X.K (AQ i)):=
 LP (V4 hN hi hx hf) λv σ H Q z9=>by
  obtain ⟨Oo,c,t,d,fi,rv,t',eq,k⟩:=z9
  cases eq
  exact k _ H c (fi.set rv) .refl
def CN (f:M D)(g:D->M Unit):M Out:=bnd f λd=>bnd (g d) λ_=>ret .next
theorem XR {g:D->M Unit}(he:PE X e (RE X.K f))(hg:PG X tg (RG X.K g))(hs:swapsWithSole [tg] e pos.line X.env=pure false:=by rfl)(hw:swappedStores [tg] e X.env=pure none:=by rfl)(hp:(assignEach [tg] X.env).map (·.2)=[assign tg X.env]:=by rfl) :
 PS X (.Assign [tg] e pos) (RSg X.K μ (CN f g)):=
 Bn (by first | exact Rk he hg hs hw | exact Rk he hg hs hw hp) λE σ H z9=>by
  obtain ⟨Oo,c,t,fi,o,t',eq,k⟩:=z9;obtain ⟨d,t1,e1,eq⟩:=Ae eq;obtain ⟨u,t2,e2,eq⟩:=Ae eq
  cases eq
  exact ⟨Oo,c,t,fi,d,t1,e1,λv H1 c1 f1 s1 rv=>⟨Oo,c1,t1,d,f1,rv,_,e2,λσ2 H2 c2 f2 s2=>k σ2 H2 c2 f2 (s1.trans s2)⟩⟩
inductive RGs (K:PySem.W.Frag)(f:List D->M Unit)(vs:List V)(σ:L2.St)(H:Hp)(Q:L2.St->Hp->Prop):Prop where
 | mk (Oo:Addr->Prop) (c:Cf) (t:T) (ds:List D) (fi:FInv K Oo c t σ H) (r:Reps K c H vs ds) (t':T) (e:f ds t=some ((),t')) (k:∀σ' H' c',FInv K Oo c' t' σ' H'->Stp Oo c H c' H'->Q σ' H'):RGs K f vs σ H Q
theorem NO {ts:List Expr}{t t':TGs}(h:PGs X ts t)(i:∀v σ H Q,t' v σ H Q->t v σ H Q):PGs X ts t':=λpins s σ H vs us Q I r q=>h pins s σ H vs us Q I r (i vs σ H Q q)
def DE:List D->M Unit
 | []=>ret ()
 | _=>fail
def Bd (f:D->M Unit)(g:List D->M Unit):List D->M Unit
 | d :: ds=>bnd (f d) λ_=>g ds
 | []=>fail
theorem Va:PGs X [] (RGs X.K DE):=NO V5 λvs σ H Q z9=>by
 obtain ⟨Oo,c,t,ds,fi,rv,t',eq,k⟩:=z9
 cases rv with
 | nil=>cases eq;exact ⟨rfl,k σ H c fi .refl⟩
 | cons _ _=>cases eq
theorem RGs.cons {K:PySem.W.Frag}{f:D->M Unit}{g:List D->M Unit}{vs:List V}{σ:L2.St}{H:Hp}{Q:L2.St->Hp->Prop}(q:RGs K (Bd f g) vs σ H Q):UB (RG K f) (RGs K g) vs σ H Q:=by
 obtain ⟨Oo,c,t,ds,fi,rv,t',eq,k⟩:=q
 cases rv with
 | nil=>cases eq
 | cons r rs=>
   obtain ⟨u,t1,e1,eq⟩:=Ae eq;exact ⟨_,_,rfl,Oo,c,t,_,fi,r,t1,e1,λσ1 H1 c1 f1 s1=>⟨Oo,c1,t1,_,f1,rs.mono s1.ext,t',eq,λσ2 H2 c2 f2 s2=>k σ2 H2 c2 f2 (s1.trans s2)⟩⟩
def unT (n:Nat)(g:List D->M Unit):D->M Unit
 | .tup ds=>if ds.length=n then g ds else fail
 | _=>fail
def CB (st:D->M Unit)(b:M Out):List D->M Out
 | []=>ret .next
 | d :: r=>λt=>match st d t with
   | none=>none
   | some (_,t1)=>match b t1 with
     | some (.next,t2)=>CB st b r t2
     | some (.cont,t2)=>CB st b r t2
     | some (.brk,t2)=>some (.next,t2)
     | some (.ret x,t2)=>some (.ret x,t2)
     | none=>none
def Ci (f:M (List D))(st:D->M Unit)(b:M Out):M Out:=bnd f λds=>CB st b ds
theorem RS.for {f:M (List D)}{g:D->M Unit}{b:M Out}{E:Ends}(q:RSg K μ (Ci f g b) E σ H):Y9 (RI K f) (RG K g) (RSg K μ b) E σ H:=by
 obtain ⟨Oo,c,t,fi,o,t',eq,k⟩:=q;obtain ⟨ds,t1,e1,eq⟩:=Ae eq;refine ⟨Oo,c,t,fi,ds,t1,e1,λJ H1 c1 f1 s1 it=>?_⟩;refine ⟨λi m σ' H'=>m=ds.length - i/\i<=ds.length/\∃c' t2,FInv K Oo c' t2 σ' H'/\Stp Oo c1 H1 c' H'/\CB g b (ds.drop i) t2=some (o,t'),⟨_,rfl,un6 _,c1,t1,f1,.refl,by rw [ul0];exact eq⟩,?_⟩;rintro i m σ' H' ⟨rfl,hi,c',t2,f2,s2,e2⟩
 by_cases hlt:i < ds.length
 ·refine .inr ⟨it.go c' H' i s2.ext hlt,λσ3 H3=>∃c3 t3,FInv K Oo c3 t3 σ3 H3/\Stp Oo c1 H1 c3 H3/\CB g b (ds.drop (i + 1)) t3=some (o,t'),λσ3 H3 h=>⟨ds.length - (i + 1),by lia,rfl,hlt,h⟩,λx H'' hy=>?_⟩;obtain ⟨rfl,rx⟩:=it.yld c' H' i x H'' _ s2.ext (ub5 hlt) hy;rw [ub3 hlt] at e2;unfold CB at e2
  cases e3:g ds[i] t2 with
  | none=>rw [e3] at e2;cases e2
  | some p=>
    obtain ⟨u,t3⟩:=p;rw [e3] at e2
    try dsimp only at e2
    refine ⟨Oo,c',t2,_,f2,rx,t3,e3,λσ3 H3 c3 f3 s3=>?_⟩
    cases e4:b t3 with
    | none=>rw [e4] at e2;cases e2
    | some p=>
      obtain ⟨o4,t4⟩:=p;rw [e4] at e2
      try dsimp only at e2
      refine ⟨Oo,c3,t3,f3,o4,t4,e4,λσ5 H5 c5 f5 s5=>?_⟩;have s':=(s2.trans s3).trans s5
      cases o4 with
      | next=>exact ⟨c5,t4,f5,s',e2⟩
      | cont=>exact ⟨c5,t4,f5,s',e2⟩
      | brk=>cases e2;exact k σ5 H5 c5 f5 (s1.trans s')
      | ret r=>cases e2;exact k σ5 H5 c5 f5 (s1.trans s')
 ·have hi':i=ds.length:=by lia
  subst hi';rw [uh8] at e2
  cases e2
  exact .inl ⟨it.stop c' H' s2.ext,k σ' H' c' f2 (s1.trans s2)⟩
theorem Qw {iter:Expr}{body:List Stmt}{f:M (List D)}{g:D->M Unit}{b:M Out}(hp:PassesOwn (model X.prog X.w) X.A X.env X.xe)(hc:X.calm=true)(hi:PI X tg iter (RI X.K f))(hg:PG X tg (RG X.K g))(hb:PSs X body (RSg X.K μ b))
 (hs:∀x,foldedSetIterable iter X.env x=pure x:=by intro _;rfl):PS X (.For tg iter body [] pos) (RSg X.K μ (Ci f g b)):=
 Bn (YF hp hc hi hg hb hs) λ_ _ _ q=>RS.for q
theorem ItOk.lst {K:PySem.W.Frag}{c:Cf}{H:Hp}{p:Addr}{ds:List D}(r:∀c' H',Ext c H c' H'->∃vs,SqL K H' p vs/\Reps K c' H' vs ds):ItOk K (Itl K p) c H ds:=by
 refine ⟨λc' H' i ex hi=>?_,λc' H' i x H'' d ex hd hy=>?_,λc' H' ex=>?_⟩
 ·obtain ⟨vs,h1,h2⟩:=r c' H' ex;obtain ⟨v,e,_⟩:=h2.at (ub5 hi);exact ⟨vs,v,h1,e⟩
 ·obtain ⟨vs,h1,h2⟩:=r c' H' ex;obtain ⟨rfl,h⟩:=hy;exact ⟨rfl,h2.get (h vs h1) hd⟩
 ·obtain ⟨vs,h1,h2⟩:=r c' H' ex;exact ⟨vs,h1,by rw [h2.length];exact un5 _⟩
theorem ItOk.tup {K:PySem.W.Frag}{c:Cf}{H:Hp}{p:Addr}{ds:List D}(r:∀c' H',Ext c H c' H'->∃vs,SqT K H' p vs/\Reps K c' H' vs ds):ItOk K (Itt K p) c H ds:=by
 refine ⟨λc' H' i ex hi=>?_,λc' H' i x H'' d ex hd hy=>?_,λc' H' ex=>?_⟩
 ·obtain ⟨vs,h1,h2⟩:=r c' H' ex;obtain ⟨v,e,_⟩:=h2.at (ub5 hi);exact ⟨vs,v,h1,e⟩
 ·obtain ⟨vs,h1,h2⟩:=r c' H' ex;obtain ⟨rfl,h⟩:=hy;exact ⟨rfl,h2.get (h vs h1) hd⟩
 ·obtain ⟨vs,h1,h2⟩:=r c' H' ex;exact ⟨vs,h1,by rw [h2.length];exact un5 _⟩
end
theorem FInv.leave {Oo:Addr->Prop}(f:FInv K Oo c t σ H):SInv K ⟨c.ι,Oo⟩ t.S H/\Ext c H ⟨c.ι,Oo⟩ H:=by
 have ext:Ext c H ⟨c.ι,Oo⟩ H:=⟨λ_ _ e _=>e,λb o _ z=>z.elim .inl λw=>.inr (f.sub b w),λ_ _ e=>e⟩;exact ⟨⟨f.s.len,f.s.nd,λk a o e1 e2=>(f.s.obs k a o e1 e2).mono ext rfl,λb z=>f.s.trk b (f.sub b z),λb z=>f.s.dis b (f.sub b z)⟩,ext⟩
noncomputable def env0 (m:Nat)(ds:List D):List (Option Sl):=ds.map (λd=>some (.val d))++List.replicate (m - ds.length) none
def fnOf (n m:Nat)(g:M Out):Fn:=λds S=>if ds.length=n then (match g ⟨env0 m ds,S⟩ with
 | some (.ret r,t)=>some (r,t.S)
 | some (.next,t)=>some (.non,t.S)
 | _=>none) else none
theorem Gj {ds:List D}{N:List Str}(s:SInv K c S H)(r:Reps K c H vs ds):FInv K c.O c ⟨env0 N.length ds,S⟩ (L2.start N vs) H:=by
 have hlen:vs.length=ds.length:=r.length;have none_:∀{i:Nat} {x:Sl},(env0 N.length ds)[i]?=some (some x)->∃d,ds[i]?=some d/\x = .val d:=λ{i x} q=>by
  unfold env0 at q
  by_cases hi:i < ds.length
  ·rw [ub2 (by simpa using hi),ug2,ub5 hi] at q;simp at q;exact ⟨ds[i],ub5 hi,q.symm⟩
  ·rw [ua7 (by simpa using hi),ub7] at q
   split at q <;> simp at q
 refine ⟨s,by simp [env0,L2.start,hlen],λ_ z=>z,λi d q=>?_,λi es q=>?_,λi j es _ a q _ _ _=>?_⟩
 ·obtain ⟨d',h1,h2⟩:=none_ q
  cases h2
  obtain ⟨v,h3,h4⟩:=r.at h1;refine ⟨v,?_,h4⟩;unfold L2.start;have hi:=(ub1.mp h3).1;rw [ub2 (by simpa using hi),ug2,h3];rfl
 ·obtain ⟨_,_,h2⟩:=none_ q;cases h2
 ·obtain ⟨_,_,h2⟩:=none_ q;cases h2
theorem ZD {P:Program}{w:World}{mg:Str->Option Value}{base:Heap}{qual:Str}{st:Stmt}{fa:Addr}{fd:FuncData}{N ps:List Str}{k:Nat}{g:M Out}(F:Fun K x qual st fa fd)(S:FnScope N ps (As st))
 (hb:∀(cdv:Value) (A:Around) (outer:List Env) (s:Shared) (H:Hp) (E:XK),Room k (A.deeper (PyProof.Rows.envOfC qual (As st) s.heap.objs.size fa cdv))->
   PSs (Dh CX0 P w K mg base N qual (As st) fa cdv A outer s H E).nox (Bt st) (RS K g)):FnOk P w K mg base CX0 (k + 1) fa fd ps (spF K (fnOf ps.length N.length g)):=by
 have hlen:∀{ds:List D} {S:List Ob} {z:D×List Ob},fnOf ps.length N.length g ds S=some z->ds.length=ps.length:=λ{ds S z} h=>by
  unfold fnOf at h
  split at h
  ·next h1=>exact h1
  ·cases h
 refine F.ok S (λvs H Q E h=>?_) (λcdv A outer s H vs Q E hr h=>?_)
 ·obtain ⟨c,ds,S,si,rs,r,S',e,_⟩:=h;rw [rs.length];exact hlen e
 obtain ⟨c,ds,S0,si,rs,r,S',e,kk⟩:=h;refine ⟨RS K g,hb cdv A outer s H E hr,?_⟩;have hl:=hlen e;unfold fnOf at e;rw [if_pos hl] at e
 cases eg:g ⟨env0 N.length ds,S0⟩ with
 | none=>rw [eg] at e;cases e
 | some p=>
   obtain ⟨o,t⟩:=p;rw [eg] at e;refine ⟨c.O,c,_,Gj si rs,o,t,eg,λσ' H' c' f' s'=>?_⟩;obtain ⟨si',ext'⟩:=f'.leave;have st':Stp c.O c H ⟨c'.ι,c.O⟩ H':=⟨s'.ext.trans ext',s'.oo⟩
   cases o with
   | next=>cases e;exact kk .non H' _ si' st' (λ_=>Iff.rfl) .non
   | ret d=>cases e;exact λv rv=>kk v H' _ si' st' (λ_=>Iff.rfl) (rv.mono ext')
   | brk=>cases e
   | cont=>cases e
variable {fr:List Nat}
section
variable {X:Cx}{e a b:Expr}{pos:Pos}
def items:D->M (List D)
 | .lst ds=>ret ds
 | .tup ds=>ret ds
 | .scr ns=>ret (ns.map .int)
 | _=>fail
noncomputable def rngL (lo:Int)(n:Nat):List D:=(List.range n).map λi=>.int (lo + (i:Nat))
theorem ItOk.rng {lo:Int}:ItOk K (Itr lo n) c H (rngL lo n):=by
 refine ⟨λc' H' i ex hi=>?_,λc' H' i x H'' d ex hd hy=>?_,λc' H' ex=>?_⟩
 ·have:i < n:=by simpa [rngL] using hi
  exact this
 ·obtain ⟨rfl,rfl⟩:=hy;refine ⟨rfl,?_⟩;have hi:i < n:=by
   have:=(ub1.mp hd).1;simpa [rngL] using this
  have:d = .int (lo + (i:Nat)):=by
   rw [rngL,ug2,List.getElem?_range hi] at hd;simpa using hd.symm
  rw [this];exact .int _
 ·show n<=(rngL lo n).length;simp [rngL]
noncomputable def Ch (i:Int):Bool:=decide (-(2 ^ 62)<=i) && decide (i < 2 ^ 62)
def Kx:List D->M (List D)
 | [.int j]=>λt=>if Ch j=true then some (rngL 0 j.toNat,t) else none
 | _=>fail
def Ky:List D->M (List D)
 | [.int i,.int j]=>λt=>if (Ch i && Ch j)=true then some (rngL i (j - i).toNat,t) else none
 | _=>fail
def Cg (f:M (List D)):M (List D):=bnd f Kx
def FG (f:M (List D)):M (List D):=bnd f Ky
theorem FJ {i:Int}(h:Ch i=true) : -(2 ^ 62)<=i/\i < 2 ^ 62:=by
 unfold Ch at h;rw [uh6] at h;exact ⟨uh0 h.1,uh0 h.2⟩
theorem Qq {f:M (List D)}(hg:Gl X "range")(hm:X.mg "range" = none)(ha:PA X [a] (RA X.K f))(hs:starEach [a] X.env=[(false,eval a X.env)]:=by rfl):PI X tg (.Call (.Name "range" p) [a] [] pos) (RI X.K (Cg f)):=
 IY (Rg hg hm ha hs) λσ H R z9=>by
  obtain ⟨Oo,c,t,fi,ds,t',eq,k⟩:=z9;obtain ⟨xs,t1,e1,eq⟩:=Ae eq;refine ⟨Oo,c,t,fi,xs,t1,e1,λvs H1 c1 f1 s1 rv=>?_⟩;unfold Kx at eq
  split at eq
  ·next j=>
   split at eq
   ·next hs=>
    cases eq
    cases rv with
    | cons r rs=>
      cases rs
      cases r
      obtain ⟨h1,h2⟩:=FJ hs;exact ⟨j,rfl,h1,h2,k _ H1 c1 f1 s1 ItOk.rng⟩
   ·cases eq
  ·cases eq
theorem Qr {f:M (List D)}(hg:Gl X "range")(hm:X.mg "range" = none)(ha:PA X [a,b] (RA X.K f))(hs:starEach [a,b] X.env=[(false,eval a X.env),(false,eval b X.env)]:=by rfl)(hs2:starEach [b] X.env=[(false,eval b X.env)]:=by rfl):PI X tg (.Call (.Name "range" p) [a,b] [] pos) (RI X.K (FG f)):=
 IY (Rh hg hm ha hs hs2) λσ H R z9=>by
  obtain ⟨Oo,c,t,fi,ds,t',eq,k⟩:=z9;obtain ⟨xs,t1,e1,eq⟩:=Ae eq;refine ⟨Oo,c,t,fi,xs,t1,e1,λvs H1 c1 f1 s1 rv=>?_⟩;unfold Ky at eq
  split at eq
  ·next i j=>
   split at eq
   ·next hs=>
    cases eq
    rw [uh6] at hs
    cases rv with
    | cons r rs=>
      cases r
      cases rs with
      | cons r rs=>
        cases rs
        cases r
        obtain ⟨h1,h2⟩:=FJ hs.1;obtain ⟨h3,h4⟩:=FJ hs.2;exact ⟨i,j,rfl,⟨h1,h2,h3,h4⟩,k _ H1 c1 f1 s1 ItOk.rng⟩
   ·cases eq
  ·cases eq
def B4 (st:D->M Unit)(tst:M Bool)(elt:M D):List D->M (List D)
 | []=>ret []
 | d :: r=>bnd (st d) λ_=>bnd tst λk=>if k=true then bnd elt λx=>bnd (B4 st tst elt r) λxs=>ret (x :: xs) else B4 st tst elt r
noncomputable def Z8:Option (Option Sl)->Option Sl
 | some (some (.val d))=>some (.val d)
 | _=>none
def cenv (n:Nat)(fr:List Nat)(env:List (Option Sl)):List (Option Sl):=List.replicate n none++fr.map λi=>Z8 env[i]?
noncomputable def Fg (n:Nat)(fr:List Nat)(σ:L2.St):L2.St:=List.replicate n none++fr.map λi=>(σ[i]?).join
def BM (n:Nat)(fr:List Nat)(f:M (List D))(st:D->M Unit)(tst:M Bool)(elt:M D):M (List D):=bnd f λds t=>match B4 st tst elt ds ⟨cenv n fr t.env,t.S⟩ with
 | some (xs,t')=>if xs.length<=LIM then some (xs,{ t with S:=t'.S }) else none
 | none=>none
theorem Iz {env:List (Option Sl)}{x:Sl}(h:(cenv n fr env)[j]?=some (some x)):∃i d,n<=j/\fr[j - n]?=some i/\env[i]?=some (some (.val d))/\x = .val d:=by
 unfold cenv at h
 by_cases hj:j < n
 ·rw [ub2 (by simpa using hj),ub7] at h
  split at h <;> simp at h
 ·rw [ua7 (by simpa using hj),ud0,ug2] at h
  cases e:fr[j - n]? with
  | none=>rw [e] at h;simp at h
  | some i=>
    rw [e] at h;simp only [uj8,ug7] at h
    cases e2:env[i]? with
    | none=>rw [e2] at h;cases h
    | some o=>
      cases o with
      | none=>rw [e2] at h;cases h
      | some sl=>
        cases sl with
        | own _=>rw [e2] at h;cases h
        | val d=>rw [e2] at h;cases h;exact ⟨i,d,by lia,rfl,e2,rfl⟩
theorem Js {Oo:Addr->Prop}(f:FInv K Oo c t σ H):FInv K c.O c ⟨cenv n fr t.env,t.S⟩ (Fg n fr σ) H:=by
 refine ⟨f.s,by simp [cenv,Fg],λ_ z=>z,λj d q=>?_,λj es q=>?_,λj _ es _ _ q _ _ _=>?_⟩
 ·obtain ⟨i,d',h0,h1,h2,h3⟩:=Iz q
  cases h3
  obtain ⟨v,h4,h5⟩:=f.val i d h2;refine ⟨v,?_,h5⟩;unfold Fg;rw [ua7 (by simpa using h0),ud0,ug2,h1];simp [h4]
 ·obtain ⟨_,_,_,_,_,h⟩:=Iz q;cases h
 ·obtain ⟨_,_,_,_,_,h⟩:=Iz q;cases h
theorem RF.comp {f:M (List D)}{st:D->M Unit}{tst:M Bool}{elt:M D}{Q:VK}(q:RF K (BM n fr f st tst elt) σ H Q):LF (RI K f) (RG K st) (RT K tst) (RE K elt) (Fg n fr) σ H Q:=by
 obtain ⟨Oo,c,t,fi,xs,t',eq,k⟩:=q;obtain ⟨ds,t1,e1,eq⟩:=Ae eq;refine ⟨Oo,c,t,fi,ds,t1,e1,λJ H1 c1 f1 s1 it=>?_⟩
 cases e3:B4 st tst elt ds ⟨cenv n fr t1.env,t1.S⟩ with
 | none=>rw [e3] at eq;cases eq
 | some p=>
   obtain ⟨ys,t3⟩:=p;rw [e3] at eq;dsimp only at eq
   split at eq
   case isFalse=>cases eq
   next hl=>
   cases eq
   refine ⟨λi m acc σ' H'=>m=ds.length - i/\i<=ds.length/\∃c' t2 zs rest,FInv K c1.O c' t2 σ' H'/\Stp c1.O c1 H1 c' H'/\Reps K c' H' acc zs/\B4 st tst elt (ds.drop i) t2=some (rest,t3)/\xs=zs++rest,
    ⟨_,rfl,un6 _,c1,_,[],xs,Js f1,.refl,.nil,by rw [ul0];exact e3,rfl⟩,?_⟩
   rintro i m acc σ' H' ⟨rfl,hi,c',t2,zs,rest,f2,s2,ra,e2,ez⟩;have hacc:acc.length<=sizeLine:=by
    have:zs.length<=xs.length:=by rw [ez,uf3];exact uh9 _ _
    rw [ra.length];exact um4 this (um4 hl Cz)
   refine ⟨hacc,?_⟩
   by_cases hlt:i < ds.length
   ·refine .inr ⟨it.go c' H' i s2.ext hlt,λx H'' hy=>?_⟩;obtain ⟨rfl,rx⟩:=it.yld c' H' i x H'' _ s2.ext (ub5 hlt) hy;rw [ub3 hlt] at e2;unfold B4 at e2;obtain ⟨u,t4,e4,e2⟩:=Ae e2;obtain ⟨kb,t5,e5,e2⟩:=Ae e2;refine ⟨c1.O,c',t2,_,f2,rx,t4,e4,λσ3 H3 c3 f3 s3=>⟨c1.O,c3,t4,f3,kb,t5,e5,λH4 c4 f4 s4=>?_⟩⟩
    cases kb with
    | false=>
      rw [if_neg uf0] at e2 ⊢;exact ⟨ds.length - (i + 1),by lia,rfl,hlt,c4,t5,zs,rest,f4,(s2.trans s3).trans s4,ra.mono (s3.trans s4).ext,e2,ez⟩
    | true=>
      rw [if_pos rfl] at e2 ⊢;obtain ⟨x6,t6,e6,e2⟩:=Ae e2;obtain ⟨r7,t7,e7,e2⟩:=Ae e2
      cases e2
      refine ⟨c1.O,c4,t5,f4,x6,t6,e6,λv H5 c5 f5 s5 rv=>?_⟩;exact ⟨ds.length - (i + 1),by lia,rfl,hlt,c5,t6,zs++[x6],r7,f5,((s2.trans s3).trans s4).trans s5,(ra.mono ((s3.trans s4).trans s5).ext).append (.cons rv .nil),e7,by rw [ez,ug4];rfl⟩
   ·have hi':i=ds.length:=by lia
    subst hi';rw [uh8] at e2
    cases e2
    refine .inl ⟨it.stop c' H' s2.ext,λp hp _=>?_⟩;obtain ⟨si,ext⟩:=f2.leave;obtain ⟨f6,s6⟩:=f1.after si ⟨s2.ext.trans ext,s2.oo⟩ (λ_=>Iff.rfl);rw [uj2] at ez;subst ez;exact k p acc H' _ f6 (s1.trans s6) (ra.mono ext) hp
end
end F2
namespace F2
open PySem L2 PySem.Spec PySem.SeqAt
noncomputable def eq0:D->D->Option Bool
 | .int a,.int b=>some (a == b)
 | .str a,.str b=>some (a == b)
 | .bl a,.bl b=>some (a == b)
 | .non,.non=>some true
 | .int _,.str _=>some false
 | .str _,.int _=>some false
 | _,_=>none
noncomputable def Di (f:D->D->Option Bool):List D->List D->Option Bool
 | x :: xs,y :: ys=>match f x y,Di f xs ys with
   | some a,some b=>some (a && b)
   | _,_=>none
 | _,_=>some true
def eqN:Nat->D->D->Option Bool
 | 0,x,y=>eq0 x y
 | n + 1,.tup xs,.tup ys=>(Di (eqN n) xs ys).map λb=>b && xs.length == ys.length
 | n + 1,.lst xs,.lst ys=>if xs.length=ys.length then Di (eqN n) xs ys else some false
 | _ + 1,x,y=>eq0 x y
noncomputable def ej (f:D->D->Option Bool)(xs ys:List D)(j:Nat):Bool:=match xs[j]?,ys[j]? with
 | some d,some e=>(f d e).getD true
 | _,_=>true
theorem Dj {f:D->D->Option Bool}:∀{xs ys:List D} {b:Bool},Di f xs ys=some b->b=(List.range (min xs.length ys.length)).all (ej f xs ys)/\∀(j:Nat) d e,xs[j]?=some d->ys[j]?=some e->∃k,f d e=some k
 | [],ys,b,h=>by
   have h:some true=some b:=by simpa [Di] using h
   cases h
   refine ⟨by simp,λj d e q _=>by simp at q⟩
 | x :: xs,[],b,h=>by
   have h:some true=some b:=by simpa [Di] using h
   cases h
   refine ⟨by simp,λj d e _ q=>by simp at q⟩
 | x :: xs,y :: ys,b,h=>by
   unfold Di at h
   cases e1:f x y with
   | none=>rw [e1] at h;cases h
   | some a=>
     cases e2:Di f xs ys with
     | none=>rw [e1,e2] at h;cases h
     | some c=>
       rw [e1,e2] at h
       cases h
       obtain ⟨h1,h2⟩:=Dj e2;refine ⟨?_,λj d e q1 q2=>?_⟩
       ·have hm:min (x :: xs).length (y :: ys).length=min xs.length ys.length + 1:=by simp [Nat.succ_min_succ]
        rw [hm,List.range_succ_eq_map,ul6,List.all_map,h1];have:ej f (x :: xs) (y :: ys) 0=a:=by simp [ej,e1]
        rw [this];rfl
       ·cases j with
        | zero=>simp at q1 q2;subst q1 q2;exact ⟨a,e1⟩
        | succ j=>exact h2 j d e (by simpa using q1) (by simpa using q2)
variable {P:Program}{w:World}{H:Hp}{vs:List V}
theorem Gq {h:Heap}{a:Addr}(o:HOk P w H h)(e:H a=some (.lst vs)):∃its:List Value,Vals vs its/\h.IsList a its.toArray:=by
 obtain ⟨_,its,n,r,q⟩:=o a _ e;exact ⟨its,r,_,q,rfl,n,rfl⟩
theorem HF {h:Heap}{a:Addr}(o:HOk P w H h)(e:H a=some (.tup vs)):∃its:List Value,Vals vs its/\h.IsTuple a its.toArray:=by
 obtain ⟨_,its,r,q⟩:=o a _ e;exact ⟨its,r,q⟩
theorem JO {its:List Value}{j:Nat}(r:Vals vs its)(h:j < its.toArray.size):∃v,vs[j]?=some v/\RelV v its.toArray[j]:=by
 have h':j < its.length:=by simpa using h
 have hl:j < vs.length:=by rw [r.length];exact h'
 obtain ⟨u,e1,e2⟩:=r.get (ub5 hl);refine ⟨vs[j],ub5 hl,?_⟩;rw [ub5 h'] at e1
 cases e1
 simpa using e2
variable {b:Bool}
theorem Qd {f:D->D->Option Bool}{xs ys:List D}(h:Di f xs ys=some b)(ht:∀(j:Nat) d e k,xs[j]?=some d->ys[j]?=some e->f d e=some k->k=true):b=true:=by
 obtain ⟨h1,h2⟩:=Dj h;rw [h1,ui0];intro j hj;have hj':=uk7.mp hj;have l1:j < xs.length:=by lia
 have l2:j < ys.length:=by lia
 obtain ⟨k,ek⟩:=h2 j _ _ (ub5 l1) (ub5 l2);have:=ht j _ _ k (ub5 l1) (ub5 l2) ek;unfold ej;rw [ub5 l1,ub5 l2];simp [ek,this]
theorem GP {x y:D}(e:eq0 x y=some b):(∃i j,x = .int i/\y = .int j/\(i == j)=b)\/(∃i j,x = .str i/\y = .str j/\(i == j)=b)\/(∃i j,x = .bl i/\y = .bl j/\(i == j)=b)\/(x = .non/\y = .non/\true=b)\/(∃i j,x = .int i/\y = .str j/\false=b)\/(∃i j,x = .str i/\y = .int j/\false=b):=by
 unfold eq0 at e
 split at e
 ·cases e;exact .inl ⟨_,_,rfl,rfl,rfl⟩
 ·cases e;exact .inr (.inl ⟨_,_,rfl,rfl,rfl⟩)
 ·cases e;exact .inr (.inr (.inl ⟨_,_,rfl,rfl,rfl⟩))
 ·cases e;exact .inr (.inr (.inr (.inl ⟨rfl,rfl,rfl⟩)))
 ·cases e;exact .inr (.inr (.inr (.inr (.inl ⟨_,_,rfl,rfl,rfl⟩))))
 ·cases e;exact .inr (.inr (.inr (.inr (.inr ⟨_,_,rfl,rfl,rfl⟩))))
 ·cases e
theorem GR {n:Nat}{x y:D}(e:eqN n x y=some b):eq0 x y=some b\/(∃m xs ys,n=m + 1/\x = .lst xs/\y = .lst ys/\(if xs.length=ys.length then Di (eqN m) xs ys else some false)=some b)\/∃m xs ys b',n=m + 1/\x = .tup xs/\y = .tup ys/\Di (eqN m) xs ys=some b'/\(b' && xs.length == ys.length)=b:=by
 unfold eqN at e
 split at e
 ·exact .inl e
 ·obtain ⟨b',e1,e2⟩:=uc4.mp e;exact .inr (.inr ⟨_,_,_,b',rfl,rfl,rfl,e1,e2⟩)
 ·exact .inr (.inl ⟨_,_,_,rfl,rfl,rfl,e⟩)
 ·exact .inl e
variable {K:PySem.W.Frag}{c:Cf}
theorem NY:∀(n:Nat) {v:V} {d e:D} {b:Bool},Rep K c H v d->Rep K c H v e->eqN n d e=some b->b=true
 :=by
  intro n
  induction n using Nat.strongRecOn with
  | ind n ih=>
  intro v d e b rd re q;have items:∀{m:Nat} {vs:List V} {ds es:List D} {b':Bool},n=m + 1->Reps K c H vs ds->Reps K c H vs es->Di (eqN m) ds es=some b'->b'=true:=λ{m vs ds es b'} hm r1 r2 e'=>
   Qd e' λj d e k q1 q2 ek=>by
    obtain ⟨v,g1,g2⟩:=r1.at q1;exact ih m (by lia) g2 (r2.get g1 q2) ek
  rcases GR q with q0 | ⟨m,ds,es,hm,rfl,rfl,q0⟩ | ⟨m,ds,es,b',hm,rfl,rfl,q1,q2⟩
  ·rcases GP q0 with ⟨i,j,rfl,rfl,rfl⟩ | ⟨i,j,rfl,rfl,rfl⟩ | ⟨i,j,rfl,rfl,rfl⟩ | ⟨rfl,rfl,rfl⟩ | ⟨i,j,rfl,rfl,rfl⟩ | ⟨i,j,rfl,rfl,rfl⟩
   ·cases rd;cases re;simp
   ·cases rd;cases re;simp
   ·cases rd;cases re;simp
   ·cases rd;cases re;rfl
   ·cases rd;cases re
   ·cases rd;cases re
  ·cases rd with
   | lst h1 h2 h3=>
     cases re with
     | lst g1 g2 g3=>
       rw [h1] at g1;cases g1
       rw [if_pos (h3.length.symm.trans g3.length)] at q0;exact items hm h3 g3 q0
  ·cases rd with
   | tup h1 h2 h3=>
     cases re with
     | tup g1 g2 g3=>
       rw [h1] at g1;cases g1
       rw [<-q2,items hm h3 g3 q1,h3.length.symm.trans g3.length];simp
theorem NX {s:Shared}(hok:HOk P w H s.heap):∀(n:Nat) {A:Around} {x y:V} {u v:Value} {dx dy:D} {b:Bool},RelV x u->RelV y v->Rep K c H x dx->Rep K c H y dy->eqN n dx dy=some b->A.units + n < cLine->
 RcAt A s u v b/\(EqAt A s u v b)
 :=by
  intro n
  induction n using Nat.strongRecOn with
  | ind n ih=>
  intro A x y u v dx dy b ru rv rx ry e hu;have items:∀{m:Nat} {vs ws:List V} {is js:List Value} {ds es:List D} {b':Bool},n=m + 1->Vals vs is->Vals ws js->Reps K c H vs ds->Reps K c H ws es->Di (eqN m) ds es=some b'->
   ∀j (h1:j < is.toArray.size) (h2:j < js.toArray.size),EqAt A.in1 s is.toArray[j] js.toArray[j] (ej (eqN m) ds es j):=λ{m vs ws is js ds es b'} hm r1 r2 q1 q2 e' j h1 h2=>by
   obtain ⟨v1,a1,a2⟩:=JO r1 h1;obtain ⟨v2,b1,b2⟩:=JO r2 h2;obtain ⟨l1,g1⟩:=ub1.mp a1;obtain ⟨l2,g2⟩:=ub1.mp b1;have k1:ds[j]?=some (ds[j]'(by rw [<-q1.length];exact l1)):=ub5 _;have k2:es[j]?=some (es[j]'(by rw [<-q2.length];exact l2)):=ub5 _;obtain ⟨kk,ek⟩:=(Dj e').2 j _ _ k1 k2;have:ej (eqN m) ds es j=kk:=by unfold ej;rw [k1,k2];simp [ek]
   rw [this];have hu':A.in1.units + m < cLine:=by
    have:A.in1.units=A.units + 1:=by first | rfl | exact Around.units_in1 _ | simp [Around.in1,Around.units]
    lia
   exact (ih m (by lia) a2 b2 (q1.get a1 k1) (q2.get b1 k2) ek hu').2
  have hu0:A.units < cLine:=by lia
  have conc:∀{p q:Addr} {k:Bool},p≠q->RcAt A s (.ref p) (.ref q) k->RcAt A s (.ref p) (.ref q) k/\EqAt A s (.ref p) (.ref q) k:=λhn h=>⟨h,EqAt.of_refs hn h⟩;rcases GR e with e0 | ⟨m,ds,es,hm,rfl,rfl,e0⟩ | ⟨m,ds,es,b',hm,rfl,rfl,e1,e2⟩
  ·rcases GP e0 with ⟨i,j,rfl,rfl,rfl⟩ | ⟨i,j,rfl,rfl,rfl⟩ | ⟨i,j,rfl,rfl,rfl⟩ | ⟨rfl,rfl,rfl⟩ | ⟨i,j,rfl,rfl,rfl⟩ | ⟨i,j,rfl,rfl,rfl⟩
   ·cases rx;cases ry;obtain ⟨t',rfl⟩:=ru;obtain ⟨t,rfl⟩:=rv;exact ⟨RcAt.int_int _ _ _ _,EqAt.int_int _ _ _ _⟩
   ·cases rx;cases ry;obtain ⟨t',rfl⟩:=ru;obtain ⟨t,rfl⟩:=rv;exact ⟨RcAt.str_str _ _ _ _,EqAt.str_str _ _ _ _⟩
   ·cases rx;cases ry;cases ru;cases rv;exact ⟨RcAt.bool_bool _ _,EqAt.bool_bool _ _⟩
   ·cases rx;cases ry;cases ru;cases rv;exact ⟨RcAt.none_none,EqAt.same _⟩
   ·cases rx;cases ry;obtain ⟨t',rfl⟩:=ru;obtain ⟨t,rfl⟩:=rv;exact ⟨RcAt.int_str _ _ _ _,EqAt.int_str _ _ _ _⟩
   ·cases rx;cases ry;obtain ⟨t',rfl⟩:=ru;obtain ⟨t,rfl⟩:=rv;exact ⟨RcAt.str_int _ _ _ _,EqAt.str_int _ _ _ _⟩
  ·cases rx with
   | @lst p vs _ g1 g2 g3=>
   cases ry with
   | @lst q ws _ h1 h2 h3=>
     cases ru
     cases rv
     obtain ⟨is,r1,l1⟩:=Gq hok g1;obtain ⟨js,r2,l2⟩:=Gq hok h1;have hs1:is.toArray.size=ds.length:=by rw [<-g3.length,r1.length];simp
     have hs2:js.toArray.size=es.length:=by rw [<-h3.length,r2.length];simp
     by_cases hl:ds.length=es.length
     ·rw [if_pos hl] at e0;have hsz:is.toArray.size=js.toArray.size:=by rw [hs1,hs2,hl]
      have rc:=RcAt.lists l1 l2 hsz hu0 (items hm r1 r2 g3 h3 e0);have eb:(List.range is.toArray.size).all (ej (eqN m) ds es)=b:=by rw [(Dj e0).1,hs1,<-hl,Nat.min_self]
      rw [eb] at rc
      by_cases hpq:p=q
      ·refine ⟨rc,?_⟩;subst hpq;rw [NY n (Rep.lst g1 g2 g3) (Rep.lst h1 h2 h3) e];exact EqAt.same _
      ·exact conc hpq rc
     ·rw [if_neg hl] at e0
      cases e0
      have hsz:(is.toArray.size != js.toArray.size)=true:=by rw [hs1,hs2];simpa using hl
      refine conc (λz=>hl ?_) (RcAt.lists_lengths l1 l2 hsz hu0);subst z;rw [g1] at h1;cases h1
      rw [<-g3.length,<-h3.length]
  ·cases rx with
   | @tup p vs _ g1 g2 g3=>
   cases ry with
   | @tup q ws _ h1 h2 h3=>
     cases ru
     cases rv
     obtain ⟨is,r1,l1⟩:=HF hok g1;obtain ⟨js,r2,l2⟩:=HF hok h1;have hs1:is.toArray.size=ds.length:=by rw [<-g3.length,r1.length];simp
     have hs2:js.toArray.size=es.length:=by rw [<-h3.length,r2.length];simp
     have rc:=RcAt.tuples l1 l2 hu0 (items hm r1 r2 g3 h3 e1);have eb:((List.range (min is.toArray.size js.toArray.size)).all (ej (eqN m) ds es) && is.toArray.size == js.toArray.size)=b:=by rw [hs1,hs2,<-(Dj e1).1];exact e2
     rw [eb] at rc
     by_cases hpq:p=q
     ·refine ⟨rc,?_⟩;subst hpq;rw [NY n (Rep.tup g1 g2 g3) (Rep.tup h1 h2 h3) e];exact EqAt.same _
     ·exact conc hpq rc
theorem VH {s:Shared}(hok:HOk P w H s.heap)(n:Nat){A:Around}{x y:V}{u v:Value}{dx dy:D}{b:Bool}(ru:RelV x u)(rv:RelV y v)(rx:Rep K c H x dx)(ry:Rep K c H y dy)(e:eqN n dx dy=some b)(hu:A.units + n < cLine) :
 RcNeAt A s u v (!b):=by
 have items:∀{m:Nat} {vs ws:List V} {is js:List Value} {ds es:List D} {b':Bool},n=m + 1->Vals vs is->Vals ws js->Reps K c H vs ds->Reps K c H ws es->Di (eqN m) ds es=some b'->
  ∀j (h1:j < is.toArray.size) (h2:j < js.toArray.size),EqAt A.in1 s is.toArray[j] js.toArray[j] (ej (eqN m) ds es j):=λ{m vs ws is js ds es b'} hm r1 r2 q1 q2 e' j h1 h2=>by
  obtain ⟨v1,a1,a2⟩:=JO r1 h1;obtain ⟨v2,b1,b2⟩:=JO r2 h2;obtain ⟨l1,g1⟩:=ub1.mp a1;obtain ⟨l2,g2⟩:=ub1.mp b1;have k1:ds[j]?=some (ds[j]'(by rw [<-q1.length];exact l1)):=ub5 _;have k2:es[j]?=some (es[j]'(by rw [<-q2.length];exact l2)):=ub5 _;obtain ⟨kk,ek⟩:=(Dj e').2 j _ _ k1 k2;have:ej (eqN m) ds es j=kk:=by unfold ej;rw [k1,k2];simp [ek]
  rw [this];have hu':A.in1.units + m < cLine:=by
   have:A.in1.units=A.units + 1:=rfl;lia
  exact (NX hok m a2 b2 (q1.get a1 k1) (q2.get b1 k2) ek hu').2
 have hu0:A.units < cLine:=by lia
 rcases GR e with e0 | ⟨m,ds,es,hm,rfl,rfl,e0⟩ | ⟨m,ds,es,b',hm,rfl,rfl,e1,e2⟩
 ·rcases GP e0 with ⟨i,j,rfl,rfl,rfl⟩ | ⟨i,j,rfl,rfl,rfl⟩ | ⟨i,j,rfl,rfl,rfl⟩ | ⟨rfl,rfl,rfl⟩ | ⟨i,j,rfl,rfl,rfl⟩ | ⟨i,j,rfl,rfl,rfl⟩
  ·cases rx;cases ry;obtain ⟨t',rfl⟩:=ru;obtain ⟨t,rfl⟩:=rv;exact RcNeAt.int_int _ _ _ _
  ·cases rx;cases ry;obtain ⟨t',rfl⟩:=ru;obtain ⟨t,rfl⟩:=rv;exact RcNeAt.str_str _ _ _ _
  ·cases rx;cases ry;cases ru;cases rv;exact RcNeAt.bool_bool _ _
  ·cases rx;cases ry;cases ru;cases rv;exact RcNeAt.none_none
  ·cases rx;cases ry;obtain ⟨t',rfl⟩:=ru;obtain ⟨t,rfl⟩:=rv;exact RcNeAt.int_str _ _ _ _
  ·cases rx;cases ry;obtain ⟨t',rfl⟩:=ru;obtain ⟨t,rfl⟩:=rv;exact RcNeAt.str_int _ _ _ _
 ·cases rx with
  | @lst p vs _ g1 g2 g3=>
  cases ry with
  | @lst q ws _ h1 h2 h3=>
    cases ru
    cases rv
    obtain ⟨is,r1,l1⟩:=Gq hok g1;obtain ⟨js,r2,l2⟩:=Gq hok h1;have hs1:is.toArray.size=ds.length:=by rw [<-g3.length,r1.length];simp
    have hs2:js.toArray.size=es.length:=by rw [<-h3.length,r2.length];simp
    by_cases hl:ds.length=es.length
    ·rw [if_pos hl] at e0;have hsz:is.toArray.size=js.toArray.size:=by rw [hs1,hs2,hl]
     have rc:=RcNeAt.lists l1 l2 hsz hu0 (items hm r1 r2 g3 h3 e0);rw [show (List.range is.toArray.size).all (ej (eqN m) ds es)=b by rw [(Dj e0).1,hs1,<-hl,Nat.min_self]] at rc;exact rc
    ·rw [if_neg hl] at e0
     cases e0
     exact RcNeAt.lists_lengths l1 l2 (by rw [hs1,hs2];simpa using hl) hu0
 ·cases rx with
  | @tup p vs _ g1 g2 g3=>
  cases ry with
  | @tup q ws _ h1 h2 h3=>
    cases ru
    cases rv
    obtain ⟨is,r1,l1⟩:=HF hok g1;obtain ⟨js,r2,l2⟩:=HF hok h1;have hs1:is.toArray.size=ds.length:=by rw [<-g3.length,r1.length];simp
    have hs2:js.toArray.size=es.length:=by rw [<-h3.length,r2.length];simp
    have rc:=RcNeAt.tuples l1 l2 hu0 (items hm r1 r2 g3 h3 e1);have eb:((List.range (min is.toArray.size js.toArray.size)).all (ej (eqN m) ds es) && is.toArray.size == js.toArray.size)=b:=by rw [hs1,hs2,<-(Dj e1).1];exact e2
    rw [eb] at rc;exact rc
def EQD:Nat:=40
def neD (x y:D):M D:=λt=>(eqN EQD x y).map λb=>(.bl (!b),t)
def Po (K:PySem.W.Frag)(g:Bool->Bool):R2:=λx y H Q=>∃c dx dy b,Rep K c H x dx/\Rep K c H y dy/\eqN EQD dx dy=some b/\Q (.bl (g b)) H
theorem Nc {X:Cx}(hu:X.A.units + 64 < cLine):OpR X (compareOp .Eq) (Po X.K id):=by
 intro pins s σ H x y v u Q I rx ry h;obtain ⟨c,dx,dy,b,q1,q2,e,q⟩:=h;have hu':X.A.units + EQD < cLine:=by unfold EQD;lia
 exact (NX I.hok EQD rx ry q1 q2 e hu').1 X.prog X.w _ _ ⟨.bl b,H,I,rfl,q⟩
theorem Nf {X:Cx}(hu:X.A.units + 64 < cLine):OpR X (compareOp .NotEq) (Po X.K (!·)):=by
 intro pins s σ H x y v u Q I rx ry h;obtain ⟨c,dx,dy,b,q1,q2,e,q⟩:=h;have hu':X.A.units + EQD < cLine:=by unfold EQD;lia
 exact VH I.hok EQD rx ry q1 q2 e hu' X.prog X.w _ _ ⟨.bl (!b),H,I,rfl,q⟩
end F2
set_option maxHeartbeats 4000000
namespace F2
open PySem L2 PySem.Spec
variable {g:Int->Int->D}{t:T}{z:D×T}{X:Cx}{c:Cf}{H:Hp}
section
variable {K:PySem.W.Frag}
def i2 (g:Int->Int->D):D->D->M D
 | .int i,.int j=>ret (g i j)
 | _,_=>fail
theorem X0 {x y:D}(h:i2 g x y t=some z):∃i j,x = .int i/\y = .int j/\z=(g i j,t):=by
 cases x with
 | int i=>cases y with
   | int j=>cases h;exact ⟨i,j,rfl,rfl,rfl⟩
   | _=>cases h
 | _=>cases h
theorem YZ {gV:Int->Int->V}(hr:∀i j c H,Rep K c H (gV i j) (g i j)):Bi K (rI0 gV) (i2 g):=λ{Oo c t σ H x y dx dy r t' Q} f rx ry eq k=>by
 obtain ⟨i,j,rfl,rfl,z⟩:=X0 eq
 cases z
 cases rx
 cases ry
 exact ⟨i,j,rfl,rfl,k _ H c f .refl (hr i j c H)⟩
def i2C (C:Int->Int->Bool)(g:Int->Int->D):D->D->M D
 | .int i,.int j=>λt=>if C i j=true then some (g i j,t) else none
 | _,_=>fail
theorem Vu {C:Int->Int->Bool}{x y:D}(h:i2C C g x y t=some z):∃i j,x = .int i/\y = .int j/\C i j=true/\z=(g i j,t):=by
 cases x with
 | int i=>cases y with
   | int j=>
     unfold i2C at h;dsimp only at h
     by_cases hc:C i j=true
     ·rw [if_pos hc] at h;cases h;exact ⟨i,j,rfl,rfl,hc,rfl⟩
     ·rw [if_neg hc] at h;cases h
   | _=>cases h
 | _=>cases h
theorem E9 {P:Int->Int->Prop}{C:Int->Int->Bool}{gV:Int->Int->V}(hP:∀i j,C i j=true->P i j)(hr:∀i j c H,Rep K c H (gV i j) (g i j)):Bi K (rI P gV) (i2C C g):=λ{Oo c t σ H x y dx dy r t' Q} f rx ry eq k=>by
 obtain ⟨i,j,rfl,rfl,hc,z⟩:=Vu eq
 cases z
 cases rx
 cases ry
 exact ⟨i,j,rfl,rfl,hP i j hc,k _ H c f .refl (hr i j c H)⟩
def BL:=i2 λi j=>.int (i - j)
noncomputable def LA (_ j:Int):Bool:=decide (0 < j) && decide (j < 1073741824)
def FH:=i2C LA λi j=>.int (i / j)
def EY:=i2C (λ_ j=>decide (0 < j)) λi j=>.int (i % j)
noncomputable def LD (i j:Int):Bool:=decide (0<=j) && decide (j<=1000000) && decide (i.natAbs < 2 ^ 64)
def Hj:=i2C LD λi j=>.int (i ^ j.toNat)
noncomputable def E6 (i j:Int):Bool:=(decide (-(2 ^ 64) < i) && decide (i < 2 ^ 64)) || (decide (-(2 ^ 64) < j) && decide (j < 2 ^ 64))
def Nw:=i2C (λ_ j=>decide (0<=j)) λi j=>.int (i / 2 ^ j.toNat)
theorem WH:Bi K (rI0 λi j=>.int (i - j)) BL:=YZ λi j _ _=>.int _
theorem TZ:Bi K (rI W7 λi j=>.int (i / j)) FH:=E9 (λi j h=>by
 unfold LA at h;rw [uh6] at h;exact ⟨uh0 h.1,uh0 h.2⟩) λi j _ _=>.int _
theorem WB:Bi K (rI (λ_ j=>0 < j) λi j=>.int (i % j)) EY:=E9 (λi j h=>uh0 h) λi j _ _=>.int _
theorem WE:Bi K (rI W8 λi j=>.int (i ^ j.toNat)) Hj:=E9 (λi j h=>by
 unfold LD at h;rw [uh6,uh6] at h;exact ⟨uh0 h.1.1,uh0 h.1.2,uh0 h.2⟩) λi j _ _=>.int _
theorem WF:Bi K (rI (λ_ j=>0<=j) λi j=>.int (i / 2 ^ j.toNat)) Nw:=E9 (λi j h=>uh0 h) λi j _ _=>.int _
theorem Q0 {i j:Int}(h:E6 i j=true):CMul i j:=by
 unfold E6 at h;rw [uj9,uh6,uh6] at h;rcases h with h | h
 ·exact .inl ⟨uh0 h.1,uh0 h.2⟩
 ·exact .inr ⟨uh0 h.1,uh0 h.2⟩
def bw:D->M D
 | .int i=>ret (.int (-i))
 | _=>fail
def Xi:D->D->M D
 | .int i,.int j=>ret (.int (i + j))
 | .str x,.str y=>lim (x.length + y.length) (.str (x++y))
 | .lst xs,.lst ys=>lim (xs.length + ys.length) (.lst (xs++ys))
 | _,_=>fail
def Wm:R2:=λx y H Q=>∃i j,x = .str i/\y = .str j/\i.length + j.length<=sizeLine/\Q (.str (i++j)) H
def Pk (K:PySem.W.Frag):R2:=λx y H Q=>rI0 (λi j=>.int (i + j)) x y H Q\/(Wm x y H Q\/Pn x y H Q)
theorem VP:OpR X (binaryOp .Add) (Pk X.K):=op_add.or (op_add_str.or Nb)
theorem Wt:Bi K (Pk K) Xi:=λ{Oo c t σ H x y dx dy r t' Q} f rx ry eq k=>by
 cases rx with
 | int i=>
   cases ry with
   | int j=>cases eq;exact .inl ⟨i,j,rfl,rfl,k _ H c f .refl (.int _)⟩
   | _=>cases eq
 | str i=>
   cases ry with
   | str j=>
     obtain ⟨h,z⟩:=DO eq
     cases z
     exact .inr (.inl ⟨i,j,rfl,rfl,um4 h Cz,k _ H c f .refl (.str _)⟩)
   | _=>cases eq
 | @lst a vs ds h1 h2 h3=>
   cases ry with
   | @lst b ws es g1 g2 g3=>
     obtain ⟨h,z⟩:=DO eq
     cases z
     refine .inr (.inr ⟨a,b,vs,ws,rfl,rfl,h1,g1,?_,λp hp=>?_⟩)
     ·rw [h3.length,g3.length];exact um4 h Cz
     ·exact k _ _ c (f.laid hp) (f.stp_laid hp) (.lst Ar (f.s.free hp) ((h3.append g3).mono (Ext.laid f.s hp)))
   | _=>cases eq
 | _=>cases eq
def Iy:D->D->M (List D)
 | .lst xs,.lst ys=>lim (xs.length + ys.length) (xs++ys)
 | _,_=>fail
theorem TY:Lw K Pn Iy:=λ{Oo c t σ H x y dx dy r t' Q} f rx ry eq k=>by
 cases rx with
 | @lst a vs ds h1 h2 h3=>
   cases ry with
   | @lst b ws es g1 g2 g3=>
     obtain ⟨h,z⟩:=DO eq
     cases z
     refine ⟨a,b,vs,ws,rfl,rfl,h1,g1,?_,λp hp=>k p _ H c f .refl (h3.append g3) hp⟩;rw [h3.length,g3.length];exact um4 h Cz
   | _=>cases eq
 | _=>cases eq
def isC:D->D->M D
 | x,.non=>λt=>some (.bl (match x with | .non=>true | _=>false),t)
 | x,.bl b=>λt=>some (.bl (match x with | .bl c=>c == b | _=>false),t)
 | _,_=>fail
def QM (x y:D):M D:=bnd (isC x y) λd=>match d with | .bl b=>ret (.bl (!b)) | _=>fail
def rIs (g:Bool->Bool):R2:=λx y H Q=>(y = .non\/∃b,y = .bl b)/\Q (.bl (g (decide (x=y)))) H
theorem UY {x y:V}{v u:Value}(rx:RelV x v)(ry:RelV y u)(hy:y = .non\/∃b,y = .bl b):plainIs v u=true/\(v == u)=decide (x=y):=by
 rcases hy with rfl | ⟨b,rfl⟩
 ·cases ry
  cases x with
  | non=>cases rx;exact ⟨rfl,by simp⟩
  | bl _=>cases rx;exact ⟨rfl,by simp⟩
  | int _=>obtain ⟨t,rfl⟩:=rx;exact ⟨rfl,by simp⟩
  | str _=>obtain ⟨t,rfl⟩:=rx;exact ⟨rfl,by simp⟩
  | byt _=>obtain ⟨t,rfl⟩:=rx;exact ⟨rfl,by simp⟩
  | flt _=>obtain ⟨t,rfl⟩:=rx;exact ⟨rfl,by simp⟩
  | ref _=>cases rx;exact ⟨rfl,by simp⟩
  | ty _=>cases rx;exact ⟨rfl,by simp⟩
 ·cases ry
  cases x with
  | non=>cases rx;exact ⟨rfl,by simp⟩
  | bl c=>cases rx;exact ⟨rfl,by simp;cases c <;> cases b <;> rfl⟩
  | int _=>obtain ⟨t,rfl⟩:=rx;exact ⟨rfl,by simp⟩
  | str _=>obtain ⟨t,rfl⟩:=rx;exact ⟨rfl,by simp⟩
  | byt _=>obtain ⟨t,rfl⟩:=rx;exact ⟨rfl,by simp⟩
  | flt _=>obtain ⟨t,rfl⟩:=rx;exact ⟨rfl,by simp⟩
  | ref _=>cases rx;exact ⟨rfl,by simp⟩
  | ty _=>cases rx;exact ⟨rfl,by simp⟩
theorem Q8:OpR X (compareOp .Is) (rIs id):=by
 intro pins s σ H x y v u Q I rx ry h;obtain ⟨hy,q⟩:=h;obtain ⟨h1,h2⟩:=UY rx ry hy;exact wpAny_is_plain h1 ⟨.bl _,H,I,by rw [h2];rfl,q⟩
theorem Vv {x y:V}{dx dy:D}(rx:Rep K c H x dx)(ry:Rep K c H y dy)(eq:isC dx dy t=some z):(y = .non\/∃b,y = .bl b)/\z=(.bl (decide (x=y)),t):=by
 cases ry with
 | non=>
   refine ⟨.inl rfl,?_⟩
   cases rx <;> (cases eq;first | rfl | simp)
 | bl b=>
   refine ⟨.inr ⟨b,rfl⟩,?_⟩
   cases rx <;> (cases eq;first | rfl | simp)
   next a=>cases a <;> cases b <;> rfl
 | _=>cases eq
theorem RB:Bi K (rIs id) isC:=λ{Oo c t σ H x y dx dy r t' Q} f rx ry eq k=>by
 obtain ⟨h,z⟩:=Vv rx ry eq
 cases z
 exact ⟨h,k _ H c f .refl (.bl _)⟩
noncomputable def Gk:D->Bool
 | .non=>true | .bl _=>true | .int _=>true | .str _=>true | _=>false
noncomputable def toV:D->V
 | .bl b=>.bl b | .int i=>.int i | .str x=>.str x | _=>.non
theorem Kw {v:V}{d:D}(r:Rep K c H v d)(h:Gk d=true):v=toV d:=by cases r <;> first | rfl | cases h
theorem IQ {c:Cf}{H:Hp}:∀{vs:List V} {ds:List D},Reps K c H vs ds->ds.all Gk=true->vs=ds.map toV
 | _,_,.nil,_=>rfl
 | _,_,.cons r t,h=>by
   rw [ul6,uh6] at h;rw [ul4,Kw r h.1,IQ t h.2]
theorem MC:∀d:D,E4 (toV d)=true:=λd=>by cases d <;> rfl
def ixD:D->D->M D
 | .lst ds,.int i=>λt=>(atI ds i).map λd=>(d,t)
 | .tup ds,.int i=>λt=>(atI ds i).map λd=>(d,t)
 | .scr ns,.int i=>λt=>(atI ns i).map λn=>(.int n,t)
 | .str x,.int i=>λt=>if x.length<=LIM then (atI x.cps.toList i).map λn=>(.str ⟨#[n]⟩,t) else none
 | .obj k,.int i=>λt=>match t.S[k]? with
   | some (.lst ds)=>(atI ds i).map λd=>(d,t)
   | _=>none
 | _,_=>fail
theorem Ix {vs:List V}{ds:List D}{i:Int}{d:D}(r:Reps K c H vs ds)(h:atI ds i=some d):∃v,atI vs i=some v/\Rep K c H v d:=by
 unfold atI at h ⊢;obtain ⟨j,h1,h2⟩:=Option.bind_eq_some_iff.mp h;obtain ⟨v,h3,h4⟩:=r.at h2;exact ⟨v,by rw [r.length,h1];exact h3,h4⟩
theorem UW {α β:Type}(g:α->β)(xs:List α)(i:Int):atI (xs.map g) i=(atI xs i).map g:=by
 unfold atI;rw [uj0]
 cases ixN xs.length i with
 | none=>rfl
 | some j=>simp
theorem X3 {dx dy r:D}{t':T}(eq:ixD dx dy t=some (r,t')):∃i,dy = .int i/\((∃ds,dx = .lst ds)\/(∃ds,dx = .tup ds)\/(∃ns,dx = .scr ns)\/(∃z,dx = .str z)\/∃k,dx = .obj k):=by
 unfold ixD at eq
 split at eq
 ·exact ⟨_,rfl,.inl ⟨_,rfl⟩⟩
 ·exact ⟨_,rfl,.inr (.inl ⟨_,rfl⟩)⟩
 ·exact ⟨_,rfl,.inr (.inr (.inl ⟨_,rfl⟩))⟩
 ·exact ⟨_,rfl,.inr (.inr (.inr (.inl ⟨_,rfl⟩)))⟩
 ·exact ⟨_,rfl,.inr (.inr (.inr (.inr ⟨_,rfl⟩)))⟩
 ·cases eq
theorem Y0:Bi K (rIx K) ixD:=λ{Oo c t σ H x y dx dy r t' Q} f rx ry eq k=>by
 obtain ⟨i,rfl,hd⟩:=X3 eq
 cases ry
 rcases hd with ⟨ds,rfl⟩ | ⟨ds,rfl⟩ | ⟨ns,rfl⟩ | ⟨z,rfl⟩ | ⟨kk,rfl⟩
 ·cases rx with
  | @lst a vs _ h1 h2 h3=>
    obtain ⟨d,e1,e2⟩:=uc4.mp eq
    cases e2
    obtain ⟨v,e3,e4⟩:=Ix h3 e1;exact .inl ⟨a,vs,i,v,rfl,rfl,SqL.of h1,e3,k _ H c f .refl e4⟩
 ·cases rx with
  | @tup a vs _ h1 h2 h3=>
    obtain ⟨d,e1,e2⟩:=uc4.mp eq
    cases e2
    obtain ⟨v,e3,e4⟩:=Ix h3 e1;exact .inr (.inl ⟨a,vs,i,v,rfl,rfl,SqT.of h1,e3,k _ H c f .refl e4⟩)
 ·cases rx with
  | @scr a _ h1=>
    obtain ⟨n,e1,e2⟩:=uc4.mp eq
    cases e2
    exact .inl ⟨a,_,i,.int n,rfl,rfl,h1.sq,by rw [UW,e1];rfl,k _ H c f .refl (.int n)⟩
 ·cases rx
  unfold ixD at eq;dsimp only at eq
  split at eq
  ·next hl=>
   obtain ⟨n,e1,e2⟩:=uc4.mp eq
   cases e2
   exact .inr (.inr ⟨z,i,n,rfl,rfl,um4 hl Cz,e1,k _ H c f .refl (.str _)⟩)
  ·cases eq
 ·cases rx with
  | @obj a _ h1=>
    unfold ixD at eq;dsimp only at eq
    cases es:t.S[kk]? with
    | none=>rw [es] at eq;cases eq
    | some o=>
      rw [es] at eq
      cases o with
      | dct _ | ins _ _=>cases eq
      | lst ds=>
        obtain ⟨d,e1,e2⟩:=uc4.mp eq
        cases e2
        obtain ⟨vs,g1,g2⟩:=f.s.obs kk a _ h1 es;obtain ⟨v,e3,e4⟩:=Ix g2 e1;exact .inl ⟨a,vs,i,v,rfl,rfl,SqL.of g1,e3,k _ H c f .refl e4⟩
end
variable {f:M D}{id:String}{R:List V->Hp->VK->Prop}{x:Str}{p:Pos}
section
variable {X:Cx}{e a b:Expr}{es:List Expr}{pos:Pos}
inductive RO (K:PySem.W.Frag)(f:M (Option Int))(σ:L2.St)(H:Hp)(Q:Option Int->Hp->Prop):Prop where
 | mk (Oo:Addr->Prop) (c:Cf) (t:T) (fi:FInv K Oo c t σ H) (r:Option Int) (t':T) (e:f t=some (r,t')) (k:∀H' c',FInv K Oo c' t' σ H'->Stp Oo c H c' H'->Q r H'):RO K f σ H Q
theorem PZ {oe:Option Expr}{t t':TO}(h:PO X oe t)(i:∀σ H Q,t' σ H Q->t σ H Q):PO X oe t':=λpins s σ H Q I q=>h pins s σ H Q I (i σ H Q q)
def fNo:M (Option Int):=ret none
def asI:D->M (Option Int)
 | .int i=>ret (some i)
 | _=>fail
def DI (f:M D):M (Option Int):=bnd f asI
theorem Vj:PO X none (RO X.K fNo):=PZ Wa λσ H Q z9=>by
 obtain ⟨Oo,c,t,fi,r,t',eq,k⟩:=z9
 cases eq
 exact k H c fi .refl
theorem Vk (h:PE X e (RE X.K f)):PO X (some e) (RO X.K (DI f)):=PZ (Wb h) λσ H Q z9=>by
 obtain ⟨Oo,c,t,fi,r,t',eq,k⟩:=z9;obtain ⟨d,t1,e1,eq⟩:=Ae eq;refine ⟨Oo,c,t,fi,d,t1,e1,λv H1 c1 f1 s1 rv=>?_⟩
 cases rv with
 | int i=>cases eq;exact ⟨i,rfl,k H1 c1 f1 s1⟩
 | _=>cases eq
def Sb (K:PySem.W.Frag)(R:V->Option Int->Option Int->Hp->VK->Prop)(h:D->Option Int->Option Int->M D):Prop:=∀{Oo:Addr->Prop} {c:Cf} {t:T} {σ:L2.St} {H:Hp} {x:V} {dx r:D} {lo hi:Option Int} {t':T} {Q:VK},FInv K Oo c t σ H->Rep K c H x dx->h dx lo hi t=some (r,t')->
 (∀v H' c',FInv K Oo c' t' σ H'->Stp Oo c H c' H'->Rep K c' H' v r->Q v H')->R x lo hi H Q
def fSl (f:M D)(l u:M (Option Int))(h:D->Option Int->Option Int->M D):M D:=bnd f λx=>bnd l λlo=>bnd u λhi=>h x lo hi
theorem SG {R:V->Option Int->Option Int->Hp->VK->Prop}{h:D->Option Int->Option Int->M D}{l u:M (Option Int)}{lo hi:Option Expr}{p2:Pos}(hr:SlR X R)(s:Sb X.K R h)(he:PE X e (RE X.K f))(hl:PO X lo (RO X.K l))(hu:PO X hi (RO X.K u)):PE X (.Subscript e (.Slice lo hi none p2) pos) (RE X.K (fSl f l u h)):=
 AK (Ng hr he hl hu) λσ H Q z9=>by
  obtain ⟨Oo,c,t,fi,r,t',eq,k⟩:=z9;obtain ⟨d,t1,e1,eq⟩:=Ae eq;obtain ⟨ol,t2,e2,eq⟩:=Ae eq;obtain ⟨oh,t3,e3,eq⟩:=Ae eq;exact ⟨Oo,c,t,fi,d,t1,e1,λv H1 c1 f1 s1 rv=>⟨Oo,c1,t1,f1,ol,t2,e2,λH2 c2 f2 s2=>⟨Oo,c2,t2,f2,oh,t3,e3,λH3 c3 f3 s3=>
   s f3 (rv.mono (s2.trans s3).ext) eq λv H' c' f' s' rv'=>k v H' c' f' (((s1.trans s2).trans s3).trans s') rv'⟩⟩⟩
def B5 {α:Type}(xs:List α)(lo hi:Option Int):List α:=(xs.drop (HT.sIx xs.length 0 lo)).take (HT.sIx xs.length xs.length hi - HT.sIx xs.length 0 lo)
def slD:D->Option Int->Option Int->M D
 | .lst ds,lo,hi=>ret (.lst (B5 ds lo hi))
 | .scr ns,lo,hi=>ret (.lst ((B5 ns lo hi).map .int))
 | _,_,_=>fail
theorem IP {K:PySem.W.Frag}{vs:List V}{ds:List D}(r:Reps K c H vs ds)(lo hi:Option Int):Reps K c H (IB vs lo hi) (B5 ds lo hi):=by
 unfold IB B5;rw [r.length];exact (r.drop _).take _
theorem Sn {α β:Type}(g:α->β)(xs:List α)(lo hi:Option Int):B5 (xs.map g) lo hi=(B5 xs lo hi).map g:=by
 unfold B5;rw [uj0,List.map_take,List.map_drop]
theorem KP (ns:List Int)(lo hi:Option Int):IB (ns.map V.int) lo hi=(B5 ns lo hi).map V.int:=Sn V.int ns lo hi
def TU (K:PySem.W.Frag):V->Option Int->Option Int->Hp->VK->Prop:=YV K
theorem sl2:SlR X (TU X.K):=WN
theorem Y1 {K:PySem.W.Frag}:Sb K (TU K) slD:=λ{Oo c t σ H x dx r lo hi t' Q} f rx eq k=>by
 cases rx with
 | @lst p vs ds h1 h2 h3=>
   cases eq
   exact ⟨p,vs,rfl,SqL.of h1,λq hq=>k _ _ c (f.laid hq) (f.stp_laid hq) (.lst Ar (f.s.free hq) ((IP h3 lo hi).mono (Ext.laid f.s hq)))⟩
 | @scr p ns h1=>
   cases eq
   refine ⟨p,_,rfl,h1.sq,λq hq=>k _ _ c (f.laid hq) (f.stp_laid hq) (.lst Ar (f.s.free hq) ?_)⟩;rw [KP];exact Reps.ints _
 | _=>cases eq
theorem bh {h:List D->M D}{f:M (List D)}(hc:Cm X (.builtin id) R)(s:En X.K R h)(hg:Gl X x)(hm:X.mg x=none)(hv:bootBuiltins x=some (.builtin id))(ha:PA X (e :: es) (RA X.K f))(hn:x≠"__name__":=by decide)(hdb:(x == ("__debug__" : Str))=false:=by decide)
 (he:starEach (e :: es) X.env=(false,eval e X.env) :: starEach es X.env:=by rfl) (hpl:(backTo pos (starEach es X.env)).any (·.1)=false:=by rfl):PE X (.Call (.Name x p) (e :: es) [] pos) (RE X.K (fB f h)):=
 AK (Tw hc hg hm hv ha hn hdb he hpl) λ_ _ _ q=>RE.callB s q
theorem bi {h:List D->M D}{f:M (List D)}(hc:Cm X (.type id) R)(s:En X.K R h)(hg:Gl X x)(hm:X.mg x=none)(hv:bootBuiltins x=some (.type id))(ha:PA X (e :: es) (RA X.K f))(hn:x≠"__name__":=by decide)(hdb:(x == ("__debug__" : Str))=false:=by decide)
 (he:starEach (e :: es) X.env=(false,eval e X.env) :: starEach es X.env:=by rfl) (hpl:(backTo pos (starEach es X.env)).any (·.1)=false:=by rfl):PE X (.Call (.Name x p) (e :: es) [] pos) (RE X.K (fB f h)):=
 AK (Hg hc hg hm hv ha hn hdb he hpl) λ_ _ _ q=>RE.callB s q
theorem bj {h:List D->M (List D)}{f:M (List D)}(hc:Cm X (.type id) R)(s:Lx X.K R h)(hg:Gl X x)(hm:X.mg x=none)(hv:bootBuiltins x=some (.type id))(ha:PA X (e :: es) (RA X.K f))(hn:x≠"__name__":=by decide)(hdb:(x == ("__debug__" : Str))=false:=by decide)
 (he:starEach (e :: es) X.env=(false,eval e X.env) :: starEach es X.env:=by rfl) (hpl:(backTo pos (starEach es X.env)).any (·.1)=false:=by rfl):PE X (.Call (.Name x p) (e :: es) [] pos) (RF X.K (fBF f h)):=
 AK (Hg hc hg hm hv ha hn hdb he hpl) λ_ _ _ q=>RF.callB s q
theorem Uz {op:Operator}{R:R2}{g:M D}{h:D->D->M (List D)}(ho:OpR X (binaryOp op) R)(s:Lw X.K R h)(ha:PE X a (RE X.K f))(hb:PE X b (RE X.K g)):PE X (.BinOp a op b pos) (RF X.K (bnd f λx=>bnd g λy=>h x y)):=
 AK (Pi ho ha hb) λ_ _ _ q=>RF.two s q
end
section
variable {K:PySem.W.Frag}
theorem DK {xs:List V}{d:D}(r:Reps K c H xs [d]):∃v,xs=[v]/\Rep K c H v d:=by
 cases r with
 | cons r rs=>cases rs;exact ⟨_,rfl,r⟩
theorem JI {xs:List V}{d e:D}(r:Reps K c H xs [d,e]):∃v u,xs=[v,u]/\Rep K c H v d/\Rep K c H u e:=by
 cases r with
 | cons r rs=>
   obtain ⟨u,rfl,q⟩:=DK rs;exact ⟨_,u,rfl,r,q⟩
def A0:List D->M D
 | [.lst ds]=>ret (.int ds.length)
 | [.tup ds]=>ret (.int ds.length)
 | [.scr ns]=>ret (.int ns.length)
 | [.str x]=>lim x.length (.int x.length)
 | [.obj k]=>λt=>match t.S[k]? with
   | some (.lst ds)=>some (.int ds.length,t)
   | _=>none
 | _=>fail
theorem Wy:En K (λxs H Q=>∃x n,xs=[x]/\Xc K x H n/\Q (.int n) H) A0:=λ{Oo c t σ H xs ds r t' Q} f rx eq k=>by
 match ds,rx,eq with
 | [],_,eq=>cases eq
 | d0 :: _ :: _,_,eq=>cases d0 <;> cases eq
 | [d],rx,eq=>
   obtain ⟨v,rfl,rv⟩:=DK rx
   cases rv with
   | @lst a vs ds h1 h2 h3=>cases eq;exact ⟨_,ds.length,rfl,.inl ⟨vs,SqL.of h1,h3.length.symm⟩,k _ H c f .refl (.int _)⟩
   | @tup a vs ds h1 h2 h3=>cases eq;exact ⟨_,ds.length,rfl,.inr ⟨vs,SqT.of h1,h3.length.symm⟩,k _ H c f .refl (.int _)⟩
   | @scr a ns h1=>cases eq;exact ⟨_,ns.length,rfl,.inl ⟨_,h1.sq,by simp⟩,k _ H c f .refl (.int _)⟩
   | str x=>
     obtain ⟨hl,z⟩:=DO eq
     cases z
     exact ⟨_,x.length,rfl,⟨um4 hl Cz,rfl⟩,k _ H c f .refl (.int _)⟩
   | @obj a kk h1=>
     unfold A0 at eq;dsimp only at eq
     cases es:t.S[kk]? with
     | none=>rw [es] at eq;cases eq
     | some o=>
       rw [es] at eq
       cases o with
       | dct _ | ins _ _=>cases eq
       | lst ds=>
         cases eq
         obtain ⟨vs,g1,g2⟩:=f.s.obs kk a _ h1 es;exact ⟨_,ds.length,rfl,.inl ⟨vs,SqL.of g1,g2.length.symm⟩,k _ H c f .refl (.int _)⟩
   | _=>cases eq
noncomputable def tyD:D->Option String
 | .non=>some "NoneType"
 | .bl _=>some "bool"
 | .int _=>some "int"
 | .str _=>some "str"
 | .lst _=>some "list"
 | .tup _=>some "tuple"
 | .dic=>some "dict"
 | _=>none
noncomputable def Dc (n m:String):Option Bool:=match m with
 | "int"=>some (n == "int" || n == "bool")
 | "bool"=>some (n == "bool")
 | "str"=>some (n == "str")
 | "list"=>some (n == "list")
 | "tuple"=>some (n == "tuple")
 | "dict"=>some (n == "dict")
 | _=>none
def Dk:List D->M D
 | [d,.ty m]=>λt=>match tyD d with
   | some n=>(Dc n m).map λb=>(.bl b,t)
   | none=>none
 | _=>fail
theorem HJ {d:D}{n m:String}{b:Bool}(h1:tyD d=some n)(h2:Dc n m=some b):PySem.W.kitOne K (.type n) (.type m)=some b:=by
 have hm:m = "int"\/m = "bool"\/m = "str"\/m = "list"\/m = "tuple"\/m = "dict":=by
  unfold Dc at h2
  split at h2 <;> simp_all
 have hn:n = "NoneType"\/n = "bool"\/n = "int"\/n = "str"\/n = "list"\/n = "tuple"\/n = "dict":=by
  cases d <;> simp [tyD] at h1 <;> simp [<-h1]
 rcases hm with rfl | rfl | rfl | rfl | rfl | rfl <;> rcases hn with rfl | rfl | rfl | rfl | rfl | rfl | rfl <;> (cases h2;rfl)
def TR (K:PySem.W.Frag):List V->Hp->VK->Prop:=λxs H Q=>∃x n t b,xs=[x,.ty n]/\TyOf K H x t/\PySem.W.kitOne K t (.type n)=some b/\Q (.bl b) H
theorem Me:Cm X (.builtin "isinstance") (TR X.K):=by
 intro pins s σ H xs us Q I r h;obtain ⟨x,n,t,b,rfl,ty,e,q⟩:=h;obtain ⟨u,w',rfl,rx,rt⟩:=LG r
 cases rt
 exact QO I rx ty e λtk=>⟨.bl b,H,I.tok tk,rfl,q⟩
theorem Ox:En K (TR K) Dk:=λ{Oo c t σ H xs ds r t' Q} f rx eq k=>by
 unfold Dk at eq
 split at eq
 ·next d m=>
  obtain ⟨v,u,rfl,rv,ru⟩:=JI rx
  cases ru
  cases et:tyD d with
  | none=>rw [et] at eq;cases eq
  | some n=>
    rw [et] at eq;obtain ⟨b,e1,e2⟩:=uc4.mp eq
    cases e2
    refine ⟨v,m,.type n,b,rfl,?_,HJ et e1,k _ H c f .refl (.bl b)⟩
    cases rv <;> first | (cases et;first | exact .non | exact .bl _ | exact .int _ | exact .str _ | exact .lst ‹_› | exact .tup ‹_› | exact .dK ‹_›) | cases et
 ·cases eq
def KC:List D->M D
 | [.lst ds]=>ret (.tup ds)
 | [.tup ds]=>ret (.tup ds)
 | [.obj k]=>λt=>match t.S[k]? with
   | some (.lst ds)=>some (.tup ds,t)
   | _=>none
 | _=>fail
theorem WI:En K (λxs H Q=>∃p ys,xs=[.ref p]/\((SqL K H p ys/\∀l,H l=none->Q (.ref l) (upd H l (.tup ys)))\/(SqT K H p ys/\Q (.ref p) H))) KC:=λ{Oo c t σ H xs ds r t' Q} f rx eq k=>by
 match ds,rx,eq with
 | [],_,eq=>cases eq
 | d0 :: _ :: _,_,eq=>cases d0 <;> cases eq
 | [d],rx,eq=>
   obtain ⟨v,rfl,rv⟩:=DK rx
   cases rv with
   | @lst a vs ds h1 h2 h3=>cases eq;exact ⟨a,vs,rfl,.inl ⟨SqL.of h1,λq hq=>k _ _ c (f.laid hq) (f.stp_laid hq) (.tup Ar (f.s.free hq) (h3.mono (Ext.laid f.s hq)))⟩⟩
   | @tup a vs ds h1 h2 h3=>cases eq;exact ⟨a,vs,rfl,.inr ⟨SqT.of h1,k _ H c f .refl (.tup h1 h2 h3)⟩⟩
   | @obj a kk h1=>
     unfold KC at eq;dsimp only at eq
     cases es:t.S[kk]? with
     | none=>rw [es] at eq;cases eq
     | some o=>
       rw [es] at eq
       cases o with
       | dct _ | ins _ _=>cases eq
       | lst ds=>
         cases eq
         obtain ⟨vs,g1,g2⟩:=f.s.obs kk a _ h1 es;exact ⟨a,vs,rfl,.inl ⟨SqL.of g1,λq hq=>k _ _ c (f.laid hq) (f.stp_laid hq) (.tup Ar (f.s.free hq) (g2.mono (Ext.laid f.s hq)))⟩⟩
   | _=>cases eq
def D9:List D->M (List D)
 | [.lst ds]=>ret ds
 | [.tup ds]=>ret ds
 | [.scr ns]=>ret (ns.map .int)
 | [.obj k]=>λt=>match t.S[k]? with
   | some (.lst ds)=>some (ds,t)
   | _=>none
 | _=>fail
theorem Wz:Lx K (λxs H Q=>∃p ys,xs=[.ref p]/\(SqL K H p ys\/SqT K H p ys)/\∀l,H l=none->Q (.ref l) (upd H l (.lst ys))) D9:=λ{Oo c t σ H xs ds r t' Q} f rx eq k=>by
 match ds,rx,eq with
 | [],_,eq=>cases eq
 | d0 :: _ :: _,_,eq=>cases d0 <;> cases eq
 | [d],rx,eq=>
   obtain ⟨v,rfl,rv⟩:=DK rx
   cases rv with
   | @lst a vs ds h1 h2 h3=>cases eq;exact ⟨a,vs,rfl,.inl (SqL.of h1),λq hq=>k q vs H c f .refl h3 hq⟩
   | @tup a vs ds h1 h2 h3=>cases eq;exact ⟨a,vs,rfl,.inr (SqT.of h1),λq hq=>k q vs H c f .refl h3 hq⟩
   | @scr a ns h1=>cases eq;exact ⟨a,_,rfl,.inl h1.sq,λq hq=>k q _ H c f .refl (Reps.ints ns) hq⟩
   | @obj a kk h1=>
     unfold D9 at eq;dsimp only at eq
     cases es:t.S[kk]? with
     | none=>rw [es] at eq;cases eq
     | some o=>
       rw [es] at eq
       cases o with
       | dct _ | ins _ _=>cases eq
       | lst ds=>
         cases eq
         obtain ⟨vs,g1,g2⟩:=f.s.obs kk a _ h1 es;exact ⟨a,vs,rfl,.inl (SqL.of g1),λq hq=>k q vs H c f .refl g2 hq⟩
   | _=>cases eq
def Km:List D->M D
 | [.int i]=>ret (.int i)
 | [.bl b]=>ret (.int (if b then 1 else 0))
 | _=>fail
theorem Wx:En K (λxs H Q=>(∃i,xs=[.int i]/\Q (.int i) H)\/∃k,xs=[.bl k]/\Q (.int (if k then 1 else 0)) H) Km:=λ{Oo c t σ H xs ds r t' Q} f rx eq k=>by
 match ds,rx,eq with
 | [],_,eq=>cases eq
 | d0 :: _ :: _,_,eq=>cases d0 <;> cases eq
 | [d],rx,eq=>
   obtain ⟨v,rfl,rv⟩:=DK rx
   cases rv with
   | int i=>cases eq;exact .inl ⟨i,rfl,k _ H c f .refl (.int _)⟩
   | bl b=>cases eq;exact .inr ⟨b,rfl,k _ H c f .refl (.int _)⟩
   | _=>cases eq
def aY:List D->M D
 | [.int i]=>ret (.int (if i < 0 then -i else i))
 | _=>fail
def Fr:List D->M D
 | [.int i,.int j]=>ret (.int (if j < i then j else i))
 | _=>fail
def bv:List D->M D
 | [.int i,.int j]=>ret (.int (if j > i then j else i))
 | _=>fail
theorem WA:En K (λxs H Q=>∃i j,xs=[.int i,.int j]/\Q (.int (if j < i then j else i)) H) Fr:=λ{Oo c t σ H xs ds r t' Q} f rx eq k=>by
 unfold Fr at eq
 split at eq
 ·next i j=>
  obtain ⟨v,u,rfl,rv,ru⟩:=JI rx
  cases rv;cases ru;cases eq
  exact ⟨i,j,rfl,k _ H c f .refl (.int _)⟩
 ·cases eq
def IL:List D->M D
 | [.str x]=>λt=>if x.length=1 then some (.int (x.cps.getD 0 0:Nat),t) else none
 | _=>fail
theorem WD:En K (λxs H Q=>∃x,xs=[.str x]/\x.length=1/\Q (.int (x.cps.getD 0 0:Nat)) H) IL:=λ{Oo c t σ H xs ds r t' Q} f rx eq k=>by
 match ds,rx,eq with
 | [],_,eq=>cases eq
 | d0 :: _ :: _,_,eq=>cases d0 <;> cases eq
 | [d],rx,eq=>
   obtain ⟨v,rfl,rv⟩:=DK rx
   cases rv with
   | str x=>
     unfold IL at eq;dsimp only at eq
     split at eq
     ·next h=>cases eq;exact ⟨x,rfl,h,k _ H c f .refl (.int _)⟩
     ·cases eq
   | _=>cases eq
end
end F2
namespace L2
open PySem PySem.Spec PyProof.Rows
open AutoSeq1 (wpAny_loadPart')
end L2
namespace L2
open PySem PySem.Spec PyProof.Rows
open AutoSeq1 (wpAny_loadPart')
theorem MtM.or {X:Cx}{id:String}{r r':V->List V->Hp->VK->Prop}(h:MtM X id r)(h':MtM X id r'):MtM X id (λx xs H Q=>r x xs H Q\/r' x xs H Q):=by
 intro pins s σ H x xs v us Q I rx rv q;rcases q with q | q
 ·exact h pins s σ H x xs v us Q I rx rv q
 ·exact h' pins s σ H x xs v us Q I rx rv q
section
variable {X:Cx}{a b c d:Expr}{ta tb tc td:TE}{pos:Pos}
end
end L2
namespace F2
open PySem L2 PySem.Spec
section
variable {K:PySem.W.Frag}
def AR (x y:D):M D:=Xi x y
def UF (K:PySem.W.Frag):R2:=Pk K
theorem Of {X:Cx}:OpR X (binaryOp .Add) (UF X.K):=VP
theorem Nu:Bi K (UF K) AR:=Wt
def Tl:D->D->M D
 | .int i,.int j=>λt=>if E6 i j=true then some (.int (i * j),t) else none
 | _,_=>fail
def Pq (K:PySem.W.Frag):R2:=rI CMul (λi j=>.int (i * j))
theorem op_mul3 {X:Cx}:OpR X (binaryOp .Mult) (Pq X.K):=Yo
theorem WC:Bi K (Pq K) Tl:=λ{Oo c t σ H x y dx dy r t' Q} f rx ry eq k=>by
 cases rx with
 | int i=>
   cases ry with
   | int j=>
     unfold Tl at eq;dsimp only at eq
     split at eq
     ·next h=>cases eq;exact ⟨i,j,rfl,rfl,Q0 h,k _ H c f .refl (.int _)⟩
     ·cases eq
   | _=>cases eq
 | _=>cases eq
end
variable {K:PySem.W.Frag}
section
variable {X:Cx}{e a b:Expr}{pos:Pos}
def BA (xs:List D):List D->Option (List D)
 | [d]=>if xs.length < LIM then some (xs++[d]) else none
 | _=>none
def GU (xs:List D):List D->Option (List D)
 | [.lst ys]=>if xs.length + ys.length<=LIM then some (xs++ys) else none
 | _=>none
def ownM (i:Nat)(h:List D->List D->Option (List D))(g:M (List D)):M Out:=λt=>match t.env[i]? with
 | some (some (.own _))=>bnd g (λds t1=>match t1.env[i]? with
   | some (some (.own xs))=>(h xs ds).map λys=>(.next,{ t1 with env:=t1.env.set i (some (.own ys)) })
   | _=>none) t
 | _=>none
def OI (K:PySem.W.Frag)(R:V->List V->Hp->VK->Prop)(h:List D->List D->Option (List D)):Prop:=∀{c:Cf} {S:List Ob} {H:Hp} {a:Addr} {vs us:List V} {xs ds ys:List D} {Q:VK},SInv K c S H->H a=some (.lst vs)->Reps K c H vs xs->Reps K c H us ds->h xs ds=some ys->
 (∀ws,Reps K c H ws ys->Q .non (upd H a (.lst ws)))->R (.ref a) us H Q
theorem Ot:OI K On BA:=λ{c S H a vs us xs ds ys Q} s h r rs e k=>by
 unfold BA at e
 split at e
 ·next d=>
  split at e
  ·next hl=>
   cases e
   obtain ⟨v,rfl,rv⟩:=DK rs;exact ⟨a,vs,v,rfl,rfl,h,by rw [r.length];exact ue8 hl Cz,k _ (r.append (.cons rv .nil))⟩
  ·cases e
 ·cases e
def Pp (K:PySem.W.Frag):V->List V->Hp->VK->Prop:=Op
theorem Oa {X:Cx}:MtM X "list.extend" (Pp X.K):=QZ
theorem Wu:OI K (Pp K) GU:=λ{c S H a vs us xs ds ys Q} s h r rs e k=>by
 unfold GU at e
 split at e
 ·split at e
  ·next hl=>
   cases e
   obtain ⟨v,rfl,rv⟩:=DK rs
   cases rv with
   | lst h1 h2 h3=>exact ⟨a,_,vs,_,rfl,rfl,h,h1,by rw [r.length,h3.length];exact um4 hl Cz,k _ (r.append h3)⟩
  ·cases e
 ·cases e
theorem RS.ownM {μ:Cf->Hp->D->(V->Hp->Prop)->Prop}{K:PySem.W.Frag}{i:Nat}{h:List D->List D->Option (List D)}{g:M (List D)}{R:V->List V->Hp->VK->Prop}(s:OI K R h){E:Ends}{σ:L2.St}{H:Hp}(q:RSg K μ (F2.ownM i h g) E σ H):UN (tBM K "list" R (Zb i) (RA K g)) E σ H:=by
 obtain ⟨Oo,c,t,fi,o,t',eq,k⟩:=q;unfold F2.ownM at eq
 split at eq
 ·next xs0 e0=>
  obtain ⟨ds,t1,e1,eq⟩:=Ae eq;obtain ⟨a,vs0,h1,h2,h3,h4,h5⟩:=fi.own i xs0 e0;refine ⟨.ref a,h1,.inl ⟨rfl,vs0,SqL.of h4⟩,Oo,c,t,fi,ds,t1,e1,λus H1 c1 f1 s1 rus=>?_⟩
  split at eq
  ·next xs ex=>
   obtain ⟨ys,ey,ez⟩:=uc4.mp eq
   cases ez
   obtain ⟨a',vs,g1,g2,g3,g4,g5⟩:=f1.own i xs ex;rw [h1] at g1;injection g1 with g1;injection g1 with g1;injection g1 with g1;subst g1
   refine s f1.s g4 g5 rus ey λws rws=>?_;obtain ⟨f2,s2⟩:=f1.wrOwn ex h1 rws;exact k σ _ c1 f2 (s1.trans s2)
  ·cases eq
 ·cases eq
theorem Qu {μ:Cf->Hp->D->(V->Hp->Prop)->Prop}(i:Nat){x:Str}{es:List Expr}{g:M (List D)}{px apos cpos:Pos}(ha:PA X (e :: es) (RA X.K g))(hN:X.N[i]?=some x:=by rfl)(hv:Vis X.env.scope x:=by walk_at "h")(hd:(x == ("__debug__" : Str))=false:=by decide)
 (hcd:(x == ("__classdict__" : Str))=false:=by decide)
 (hbase:attributeBase (.Name x px) "append" X.env (eval (.Name x px) X.env)=eval (.Name x px) X.env:=by rfl)
 (hfew:((backTo cpos (starEach (e :: es) X.env)).all (λx=>!x.1) && (backToKw cpos (keywordEach [] X.env)).all (λx=>x.1.isSome) && decide ((e :: es).length + ([]:List Keyword).length + (if ([]:List Keyword).isEmpty then 0 else 1) < 30))=true:=by rfl)
 (hline:(apos.endLine == cpos.line)=true:=by rfl) (hs:starEach (e :: es) X.env=(false,eval e X.env) :: starEach es X.env:=by rfl) (hplain:(backTo cpos (starEach es X.env)).any (·.1)=false:=by rfl) :
 PS X (.Expr (.Call (.Attribute (.Name x px) "append" apos) (e :: es) [] cpos) pos) (RSg X.K μ (ownM i BA g)):=
 Bn (Kr (HS ub8 PySem.F.slot_list_append PySem.F.type_list_append K0 (C7 hN hv hd hcd) ha hbase hfew hline hs hplain)) λ_ _ _ q=>RS.ownM Ot q
theorem Qv {μ:Cf->Hp->D->(V->Hp->Prop)->Prop}(i:Nat){x:Str}{es:List Expr}{g:M (List D)}{px apos cpos:Pos}(ha:PA X (e :: es) (RA X.K g))(hN:X.N[i]?=some x:=by rfl)(hv:Vis X.env.scope x:=by walk_at "h")(hd:(x == ("__debug__" : Str))=false:=by decide)
 (hcd:(x == ("__classdict__" : Str))=false:=by decide)
 (hbase:attributeBase (.Name x px) "extend" X.env (eval (.Name x px) X.env)=eval (.Name x px) X.env:=by rfl)
 (hfew:((backTo cpos (starEach (e :: es) X.env)).all (λx=>!x.1) && (backToKw cpos (keywordEach [] X.env)).all (λx=>x.1.isSome) && decide ((e :: es).length + ([]:List Keyword).length + (if ([]:List Keyword).isEmpty then 0 else 1) < 30))=true:=by rfl)
 (hline:(apos.endLine == cpos.line)=true:=by rfl) (hs:starEach (e :: es) X.env=(false,eval e X.env) :: starEach es X.env:=by rfl) (hplain:(backTo cpos (starEach es X.env)).any (·.1)=false:=by rfl) :
 PS X (.Expr (.Call (.Attribute (.Name x px) "extend" apos) (e :: es) [] cpos) pos) (RSg X.K μ (ownM i GU g)):=
 Bn (Kr (HS ub8 PySem.F.slot_list_extend PySem.F.type_list_extend Oa (C7 hN hv hd hcd) ha hbase hfew hline hs hplain)) λ_ _ _ q=>RS.ownM Wu q
def objM (h:List D->List D->Option (List D))(f:M D)(g:M (List D)):M D:=bnd f λo=>match o with
 | .obj k=>λt=>match t.S[k]? with
   | some (.lst _)=>bnd g (λds t1=>match t1.S[k]? with
     | some (.lst xs)=>(h xs ds).map λys=>(.non,{ t1 with S:=t1.S.set k (.lst ys) })
     | _=>none) t
   | _=>none
 | _=>fail
theorem RE.objM {K:PySem.W.Frag}{h:List D->List D->Option (List D)}{f:M D}{g:M (List D)}{R:V->List V->Hp->VK->Prop}(s:OI K R h){σ:L2.St}{H:Hp}{Q:VK}(q:RE K (F2.objM h f g) σ H Q):tBM K "list" R (RE K f) (RA K g) σ H Q:=by
 obtain ⟨Oo,c,t,fi,r,t',eq,k⟩:=q;obtain ⟨o,t0,e0,eq⟩:=Ae eq;refine ⟨Oo,c,t,fi,o,t0,e0,λx H0 c0 f0 s0 rx=>?_⟩
 cases rx with
 | @obj a kk hk=>
   dsimp only at eq
   split at eq
   ·next xs0 ex0=>
    obtain ⟨ds,t1,e1,eq⟩:=Ae eq;obtain ⟨vs0,g0,g0'⟩:=f0.s.obs kk a _ hk ex0;refine ⟨.inl ⟨rfl,vs0,SqL.of g0⟩,Oo,c0,t0,f0,ds,t1,e1,λus H1 c1 f1 s1 rus=>?_⟩
    split at eq
    ·next xs ex=>
     obtain ⟨ys,ey,ez⟩:=uc4.mp eq
     cases ez
     have hk1:=s1.ext.io _ _ hk;obtain ⟨vs,g1,g2⟩:=f1.s.obs kk a _ hk1 ex;refine s f1.s g1 g2 rus ey λws rws=>?_;obtain ⟨f2,s2⟩:=f1.wrObj (o:=.lst ys) (u:=.lst ws) hk1 λc' H' ext hu=>⟨ws,hu,rws.mono ext⟩;exact k _ _ c1 f2 ((s0.trans s1).trans s2) .non
    ·cases eq
   ·cases eq
 | _=>cases eq
theorem Qh {o:Expr}{es:List Expr}{f:M D}{g:M (List D)}{apos cpos:Pos}(ho:PE X o (RE X.K f))(ha:PA X (e :: es) (RA X.K g))
 (hbase:attributeBase o "append" X.env (eval o X.env)=eval o X.env:=by rfl)
 (hfew:((backTo cpos (starEach (e :: es) X.env)).all (λx=>!x.1) && (backToKw cpos (keywordEach [] X.env)).all (λx=>x.1.isSome) && decide ((e :: es).length + ([]:List Keyword).length + (if ([]:List Keyword).isEmpty then 0 else 1) < 30))=true:=by rfl)
 (hline:(apos.endLine == cpos.line)=true:=by rfl) (hs:starEach (e :: es) X.env=(false,eval e X.env) :: starEach es X.env:=by rfl) (hplain:(backTo cpos (starEach es X.env)).any (·.1)=false:=by rfl) :
 PE X (.Call (.Attribute o "append" apos) (e :: es) [] cpos) (RE X.K (objM BA f g)):=
 AK (HS ub8 PySem.F.slot_list_append PySem.F.type_list_append K0 ho ha hbase hfew hline hs hplain) λ_ _ _ q=>RE.objM Ot q
def Y3 (o i d:D):M Unit:=match o,i with
 | .obj k,.int j=>λt=>match t.S[k]? with
   | some (.lst xs)=>(ixN xs.length j).map λn=>((),{ t with S:=t.S.set k (.lst (xs.set n d)) })
   | _=>none
 | _,_=>fail
def stD (f g:M D)(d:D):M Unit:=bnd f λo=>bnd g λi=>Y3 o i d
end
section
variable {X:Cx}{e a b tg iter elt:Expr}{ifs:List Expr}{pos:Pos}{scope:Scope}{N':List Str}{n:Nat}{fr:List Nat}{f:M (List D)}{st:D->M Unit}{tst:M Bool}{el:M D}
def DV:M Bool:=ret true
theorem Vc:PIf X [] (RT X.K DV):=λpins s σ H Q I z9=>by
 obtain ⟨Oo,c,t,fi,r,t',eq,k⟩:=z9;exact V6 pins s σ H Q I (by cases eq;exact k H c fi .refl)
theorem Vd {g:M Bool}(h:PT X e (RT X.K g)):PIf X [e] (RT X.K g):=V7 h
theorem Es (O:CmpOk X scope N' (Fg n fr))(hc:X.calm=true)(hi:PI X tg iter (RI X.K f))
 (hg:∀cl C s2 H2 fp,PG (B2 X N' scope cl C s2 H2 fp) tg (RG X.K st)) (ht:∀cl C s2 H2 fp,PIf (B2 X N' scope cl C s2 H2 fp) ifs (RT X.K tst)) (he:∀cl C s2 H2 fp,PE (B2 X N' scope cl C s2 H2 fp) elt (RE X.K el))
 (hs:∀x,foldedSetIterable iter X.env x=pure x:=by intro _;rfl):PE X (.ListComp elt [⟨tg,iter,ifs,0⟩] scope pos) (RF X.K (BM n fr f st tst el)):=
 AK (Oh O hc hi hg ht he hs) λ_ _ _ q=>RF.comp q
theorem DA (tgs:List Str)(frn:List (Nat×Str))(hk:scope.kind = .function)(hcell:(scope.names.all λy=>y.2 != .cell)=true)(hloc:(scope.names.all λy=>y.2 != .local || scope.names.lookup y.1 == some .local)=true)
 (hfree:(scope.names.all λy=>y.2 != .free || X.env.kindOf y.1 == some .cell || X.env.kindOf y.1 == some .free)=true)
 (hf:(frn.all λp=>X.N[p.1]? == some p.2 && scope.names.lookup p.2 == some .free)=true):CmpOk X scope (tgs++frn.map (·.2)) (Fg tgs.length (frn.map (·.1))):=by
 rw [ui0] at hcell hloc hfree hf;refine ⟨hk,λy hy=>by simpa using hcell y hy,λy hy hl=>?_,λy hy hl=>?_,λσ _=>by simp [Fg],λσ j x v h1 h2=>?_⟩
 ·have:=hloc y hy;simpa [hl] using this
 ·have:=hfree y hy;simpa [hl] using this
 ·unfold Fg at h2
  by_cases hj:j < tgs.length
  ·rw [ub2 (by simpa using hj),ub7] at h2
   split at h2 <;> simp at h2
  ·rw [ua7 (by simpa using hj),ud0,ug2,ug2] at h2;rw [ua7 (by simpa using hj),ug2] at h1
   cases e:frn[j - tgs.length]? with
   | none=>rw [e] at h1;cases h1
   | some p=>
     rw [e] at h1 h2;simp only [uj8,ug7] at h1 h2;have hp:=hf p (ud8 e);rw [uh6] at hp;refine ⟨p.1,by rw [<-h1];simpa using hp.1,?_,by rw [<-h1];simpa using hp.2⟩
     cases e2:σ[p.1]? with
     | none=>rw [e2] at h2;cases h2
     | some o=>rw [e2] at h2;simpa using h2
end
mutual
noncomputable def Bq:D->Bool
 | .tup xs=>Gz xs
 | .lst xs=>Gz xs
 | .obj _=>false
 | .scr _=>false
 | .exc _ _=>false
 | _=>true
noncomputable def Gz:List D->Bool
 | []=>true
 | d :: r=>Bq d && Gz r
end
def c0:Cf:=⟨[],λ_=>False⟩
theorem GL (a:Addr):¬c0.A a:=λh=>h.elim (λz=>nomatch z) λz=>z
mutual
theorem DF {K:PySem.W.Frag}{c:Cf}{H:Hp}{v:V}{d:D}(r:Rep K c H v d)(p:Bq d=true):Rep K c0 H v d:=by
 cases r with
 | non=>exact .non
 | bl b=>exact .bl b
 | int i=>exact .int i
 | str x=>exact .str x
 | ty n=>exact .ty n
 | tup h n r=>exact .tup h (GL _) (HV r (by simpa [Bq] using p))
 | lst h n r=>exact .lst h (GL _) (HV r (by simpa [Bq] using p))
 | scr h=>simp [Bq] at p
 | dic h n=>exact .dic h (GL _)
 | obj h=>simp [Bq] at p
 | exc _ _ _ _ _=>simp [Bq] at p
theorem HV {K:PySem.W.Frag}{c:Cf}{H:Hp}{vs:List V}{ds:List D}(r:Reps K c H vs ds)(p:Gz ds=true):Reps K c0 H vs ds:=by
 cases r with
 | nil=>exact .nil
 | cons h t=>
   simp only [Gz,uh6] at p;exact .cons (DF h p.1) (HV t p.2)
end
noncomputable def Dy (S:List Ob):D->D
 | .obj k=>match S[k]? with
   | some (.lst ds)=>.lst ds
   | _=>.obj k
 | d=>d
noncomputable def MJ:D->Bool
 | .obj _=>true
 | _=>false
def eqS (g:Bool->Bool)(x y:D):M D:=λt=>
 if (MJ x || MJ y)=true then (if (Bq (Dy t.S x) && Bq (Dy t.S y))=true then (eqN EQD (Dy t.S x) (Dy t.S y)).map λb=>(.bl (g b),t) else none)
 else (eqN EQD x y).map λb=>(.bl (g b),t)
theorem Nq {c:Cf}{S:List Ob}{H:Hp}{v:V}{d:D}(s:SInv K c S H)(r:Rep K c H v d)(p:Bq (Dy S d)=true):Rep K c0 H v (Dy S d):=by
 cases r with
 | @obj a k hk=>
   unfold Dy at p ⊢;dsimp only at p ⊢
   split
   ·next ds e=>
    rw [e] at p;obtain ⟨vs,h1,h2⟩:=s.obs k a _ hk e;exact .lst h1 (GL _) (HV h2 (by simpa [Bq] using p))
   ·next h=>
    split at p
    ·next ds e=>exact absurd e (h ds)
    ·simp [Bq] at p
 | non=>exact .non
 | bl b=>exact .bl b
 | int b=>exact .int b
 | str b=>exact .str b
 | ty b=>exact .ty b
 | tup h n q=>exact DF (.tup h n q) p
 | lst h n q=>exact DF (.lst h n q) p
 | scr h=>exact DF (c:=c) (.scr h) p
 | dic h n=>exact DF (.dic h n) p
 | exc a b n f q=>exact DF (.exc a b n f q) p
theorem HZ {g:Bool->Bool}:Bi K (Po K g) (eqS g):=λ{Oo c t σ H x y dx dy r t' Q} f rx ry eq k=>by
 unfold eqS at eq
 split at eq
 ·split at eq
  ·next hp=>
   rw [uh6] at hp;obtain ⟨b,e1,e2⟩:=uc4.mp eq
   cases e2
   exact ⟨c0,_,_,b,Nq f.s rx hp.1,Nq f.s ry hp.2,e1,k _ H c f .refl (.bl (g b))⟩
  ·cases eq
 ·obtain ⟨b,e1,e2⟩:=uc4.mp eq
  cases e2
  exact ⟨c,dx,dy,b,rx,ry,e1,k _ H c f .refl (.bl (g b))⟩
theorem QT {H:Hp}{a:Addr}{ns:List Int}{f:Fn}{S':List Ob}(hO:OG H)(hS:SqL K H a (ns.map V.int))(e:f [.scr ns] []=some (.bl true,S')):spF K f [.ref a] H (λv _=>v = .bl true) λ_ _ _=>False:=by
 refine ⟨c0,[.scr ns],[],⟨rfl,List.Pairwise.nil,λk a o h=>by simp [c0] at h,λb z=>z.elim,λb z=>z.elim⟩,.cons (.scr ?_) .nil,.bl true,S',e,λv H' c' _ _ _ rv=>by cases rv;rfl⟩;rcases hS with (h | h) | h
 ·rcases hO a with z | ⟨o,xs,z⟩
  ·rw [z] at h;cases h
  ·rw [z] at h;cases h
 ·exact .inl ⟨h,GL _⟩
 ·exact .inr h
end F2
namespace L2
open PySem PySem.Spec PyProof.Rows
section
variable {prog:Program}{w:World}{A:Around}{E:Value->Shared->Prop}{s:Shared}
theorem Jo {it l:Addr}{items:Array Value}(hne:l≠it):∀(n i:Nat) (s:Shared) (Q:List Value->Shared->Prop),s.heap.IsListIter it l i->s.heap.IsList l items->i + n<=items.size->
 (∀h',h'.IsListIter it l (i + n)->Heap.SameBut it s.heap h'->Q ((items.toList.drop i).take n) { s with heap:=h' })->wpAny (model prog w) A (draw (.ref it) n) Q E s
 | 0,i,s,Q,hit,_,_,hQ=>uo0 (by simpa using hQ s.heap hit (Heap.SameBut.refl ..))
 | n + 1,i,s,Q,hit,ht,hle,hQ=>by
   have hlt:i < items.size:=by lia
   refine un9 (wpAny_pyNext_list_item hit ht (x:=items[i]) (by simp [hlt]) λh1 hit1 hs1=>?_);refine un9 (um1 (Jo hne n (i + 1) _ _ hit1 (ht.extBut hs1.extBut hne) (by lia) λh2 hit2 hs2=>uo0 ?_));have hd:items.toList.drop i=items[i] :: items.toList.drop (i + 1):=by simp [ub3,hlt]
   have:=hQ h2 (by rw [show i + (n + 1)=i + 1 + n by lia];exact hit2) (hs1.trans hs2);rw [hd,ue5] at this;exact this
theorem NE {l:Addr}{items:Array Value}{targets:List (Bool×(Value->Sem Unit))}{Q:Unit->Shared->Prop}(hh:A.handled=none)(ht:s.heap.IsList l items)(hn:targets.length=items.size)(hstar:targets.findIdx? (·.1)=none)
 (h:∀h',Heap.ExtBut s.heap.objs.size s.heap h'->wpAny (model prog w) A (assignInOrder (targets.map (·.2)) items.toList) Q E { s with heap:=h' }):wpAny (model prog w) A (unpack (.ref l) targets) Q E s:=by
 have hlt:l≠s.heap.objs.size:=by obtain ⟨o,ho,_⟩:=ht;exact um3 (um2 ho)
 unfold unpack;rw [hn,hstar];refine un9 (um1 ?_);unfold unpackItems;refine un9 ?_;unfold notIterableAtAll;refine un9 (wpAny_specialOf ht.typeIs PySem.F.slot_list_iter.lookup ?_);refine uo0 ?_;simp only [uf4,if_false];refine un9 (um1 (wpAny_pyIter_list ht ?_));have hp:Heap.IsList (s.heap.push { cls:=.type "list_iterator",data:=.fields #[.ref l,.int 0 0] }) l items:=by
  obtain ⟨o,ho,r⟩:=ht;exact ⟨o,uc1 _ ho,r⟩
 refine un9 (um1 (Jo hlt items.size 0 _ _ ⟨_,ue1 _ rfl,rfl,rfl⟩ hp (by lia) λh1 hit1 hs1=>?_));have hall:List.take items.size (List.drop 0 items.toList)=items.toList:=by
  rw [ul0];exact uc5 (by simp)
 rw [hall];rw [if_neg (by simp)];have ht1:Heap.IsList h1 l items:=hp.extBut hs1.extBut hlt;refine un9 (um1 (wpAny_pyNext_list_end hh hit1 ht1 (by simp) λh2 he2=>?_));simp only [Option.isSome_none,uf4,if_false];exact uo0 (h h2 λb o hb e=>he2 b o hb (hs1.extBut b o hb (uc1 _ e)))
end
section
variable {X:Cx}{pos:Pos}
def gUn (K:PySem.W.Frag)(n:Nat)(t:TGs):TG:=λv σ H Q=>∃a xs,v = .ref a/\(SqT K H a xs\/SqL K H a xs)/\xs.length=n/\t xs σ H Q
theorem ZS {es:List Expr}{k:Nat}{t:TGs}{n:Nat}(hc:X.calm=true)(h:PGs X es t)
 (hn:(assignEach es X.env).length=n:=by rfl) (hst:(assignEach es X.env).findIdx? (·.1)=none:=by rfl):PG X (.Tuple es k pos) (gUn X.K n t):=by
 intro pins s σ H v u Q I r hw;obtain ⟨a,xs,e1,hq | hq,hl,hw⟩:=hw
 ·exact YC hc h hn hst pins s σ H v u Q I r ⟨a,xs,e1,hq,hl,hw⟩
 ·subst e1
  cases r
  obtain ⟨its,rv,ht,hz⟩:=I.list hq;rw [assign_Tuple];refine un9 (wpAny_standAt (NE (I.ok.hd hc) ht.isList (by simp [hn,<-hl,rv.length]) hst λh' hx=>?_));have I1:Inv X pins σ H { s with heap:=h' }:=I.kept (t':=s.toks) λb o e=>hx b o (um3 (um2 e)) e;exact h pins _ σ H xs _ Q I1 (by simpa using rv) hw
end
section
open HT
variable {prog:Program}{w:World}{A:Around}{E:Value->Shared->Prop}{s:Shared}
end
section
variable {X:Cx}
end
noncomputable def Its (z:Str):It:=⟨λi _=>i < z.cps.size,λi H x H'=>H'=H/\∃c,z.cps[i]?=some c/\x = .str ⟨#[c]⟩,λi _=>i=z.cps.size⟩
theorem ND {P:Program}{w:World}{K:PySem.W.Frag}{tg:Expr}{T:String}{x:Str}{t:Tok}(it:Addr)(hT:["enumerate", "zip", "dict_itemiterator", "dict_reverseitemiterator", "odict_iterator", "itertools.zip_longest", "itertools.pairwise"].contains T=false)
 (W:∀A:Around,A.handled=none->Walks P w A it [it] [it] x.cps.size (SignAt x) (λi h=>h.IsStrIter it T x t i))
 (self:∀(A:Around) (i:Nat) (s:Shared) (Q:Value->Shared->Prop) (E:Value->Shared->Prop),s.heap.IsStrIter it T x t i->Q (.ref it) s->wpAny (model P w) A (pyIter (.ref it)) Q E s) :
 Turn P w K tg (Its x) [it] it (λi h=>h.IsStrIter it T x t i) where
 mem:=by simp
 obj:=λi h st b hb=>by
  have e:b=it:=by simpa using hb
  subst e;obtain ⟨o,e,c,d⟩:=st;exact ⟨o,e,λv z=>by rw [d] at z;cases z⟩
 keep:=λi h h' st k=>by
  obtain ⟨o,e,r⟩:=st;exact ⟨o,k it (by simp) o e,r⟩
 item:=by
  intro X hP hw hK hc i pins s σ H E I hf st hg;subst hP hw hK;obtain ⟨f0,f1,f2,f3,f4,f5⟩:=hf it (by simp);refine (W X.A (I.ok.hd hc)).item i s _ _ hg st λv h' tk hv st' kk=>?_;obtain ⟨c,u,hcc,rfl⟩:=hv;have I1:Inv X pins σ H { s with heap:=h',toks:=tk }:=I.turned (λb o hb e=>kk b o (by simpa using hb) e) f0 f1 f3 f4 f5;obtain ⟨o,e,ec,ed⟩:=id st';exact ⟨_,rfl,LC (s:={ s with heap:=h',toks:=tk }) e ec ed hT ⟨.str ⟨#[c]⟩,H,I1,⟨u,rfl⟩,⟨rfl,c,hcc,rfl⟩,st',λb hb=>(hf b hb).1⟩⟩
 done:=by
  intro X hP hw hK hc i pins s σ H E I hf st hg;subst hP hw hK;obtain ⟨f0,f1,f2,f3,f4,f5⟩:=hf it (by simp);have hg':i=x.cps.size:=hg;subst hg';exact (W X.A (I.ok.hd hc)).done s _ _ st λh' tk kk=>⟨rfl,I.turned (λb o hb e=>kk b o (by simpa using hb) e) f0 f1 f3 f4 f5⟩
 self:=λA i s Q E st h=>self A i s Q E st h
section
variable {X:Cx}{tg:Expr}{pos:Pos}
def br (K:PySem.W.Frag)(tl:TE):TI:=λσ H R=>tl σ H λx H1=>(∃a,x = .ref a/\(∃xs,SqL K H1 a xs)/\R (Itl K a) H1)\/(∃a,x = .ref a/\(∃xs,SqT K H1 a xs)/\R (Itt K a) H1)\/∃z,x = .str z/\R (Its z) H1
theorem Rf {l:Expr}{tl:TE}(hl:PE X l tl):PI X tg l (br X.K tl):=by
 intro pins s σ H R I h;refine thn (hl pins s σ H _ I h) λv s1 z9=>?_;obtain ⟨x,H1,I1,r1,q1⟩:=z9;have fp:∀b∈[s1.heap.objs.size],FpOk X pins H1 b:=λb hb=>by
  have e:b=s1.heap.objs.size:=by simpa using hb
  subst e;exact I1.fpOk (un5 _) (I1.hok.fresh (un5 _))
 rcases q1 with ⟨a,rfl,⟨xs,hq⟩,q⟩ | ⟨a,rfl,⟨xs,hq⟩,q⟩ | ⟨z,rfl,q⟩
 ·cases r1
  obtain ⟨its,rv,p,hz⟩:=I1.list hq;refine wpAny_pyIter_list p.isList ?_;exact ⟨s1.heap.objs.size,[s1.heap.objs.size],_,_,H1,rfl,I1.kept (t':=s1.toks) λb o e=>uc1 _ e,RV a _,⟨_,ue1 _ rfl,rfl,rfl⟩,fp,q⟩
 ·cases r1
  obtain ⟨its,rv,p,hz⟩:=I1.tuple hq;refine wpAny_pyIter_tuple (show s1.heap.IsTuple a its.toArray from p) ?_;exact ⟨s1.heap.objs.size,[s1.heap.objs.size],_,_,H1,rfl,I1.kept (t':=s1.toks) λb o e=>uc1 _ e,Py a _,⟨_,ue1 _ rfl,rfl,rfl⟩,fp,q⟩
 ·obtain ⟨t,rfl⟩:=r1
  cases ha:z.cps.all (· < 128)
  ·refine wpAny_pyIter_wide ha ?_;exact ⟨s1.heap.objs.size,[s1.heap.objs.size],_,_,H1,rfl,I1.kept (t':=s1.toks) λb o e=>uc1 _ e,ND (T:="str_iterator") (x:=z) (t:=t) _ (by decide) (λA hA=>Walks.strWide hA _ z t) (λ_ _ _ _ _ st h=>wpAny_pyIter_striter_wide st h),⟨_,ue1 _ rfl,rfl,rfl⟩,fp,q⟩
  ·refine wpAny_pyIter_ascii ha ?_;exact ⟨s1.heap.objs.size,[s1.heap.objs.size],_,_,H1,rfl,I1.kept (t':=s1.toks) λb o e=>uc1 _ e,ND (T:="str_ascii_iterator") (x:=z) (t:=t) _ (by decide) (λA hA=>Walks.strAscii hA _ z t) (λ_ _ _ _ _ st h=>wpAny_pyIter_striter_ascii st h),⟨_,ue1 _ rfl,rfl,rfl⟩,fp,q⟩
def UJ:R2:=λx y H Q=>∃z k,x = .str z/\y = .int k/\MulOk z k/\Q (.str (Txt.mul z k)) H
theorem VS:OpR X (binaryOp .Mult) UJ:=by
 intro pins s σ H x y v u Q I rx ry h;obtain ⟨z,k,rfl,rfl,hk,q⟩:=h;obtain ⟨t,rfl⟩:=rx;obtain ⟨t',rfl⟩:=ry;exact SB.mul hk λt2 tk=>⟨.str _,H,I.tok tk,⟨t2,rfl⟩,q⟩
def GA (g:Int->Int->Bool)(h:List Nat->List Nat->Bool):R2:=λx y H Q=>(∃i j,x = .int i/\y = .int j/\Q (.bl (g i j)) H)\/∃i j,x = .str i/\y = .str j/\Q (.bl (h i.cps.toList j.cps.toList)) H
theorem Q9:OpR X (compareOp .Lt) (GA (λi j=>decide (i < j)) λi j=>decide (i < j)):=op_lt.or λpins s σ H x y v u Q I rx ry h=>by
 obtain ⟨i,j,rfl,rfl,q⟩:=h;obtain ⟨t,rfl⟩:=rx;obtain ⟨t',rfl⟩:=ry;exact P.lt_str ⟨.bl _,H,I,rfl,q⟩
theorem Nd:OpR X (compareOp .LtE) (GA (λi j=>decide (i<=j)) λi j=>!(decide (j < i))):=op_le.or λpins s σ H x y v u Q I rx ry h=>by
 obtain ⟨i,j,rfl,rfl,q⟩:=h;obtain ⟨t,rfl⟩:=rx;obtain ⟨t',rfl⟩:=ry;exact P.le_str ⟨.bl _,H,I,rfl,q⟩
theorem Q7:OpR X (compareOp .Gt) (GA (λi j=>decide (j < i)) λi j=>decide (j < i)):=op_gt.or λpins s σ H x y v u Q I rx ry h=>by
 obtain ⟨i,j,rfl,rfl,q⟩:=h;obtain ⟨t,rfl⟩:=rx;obtain ⟨t',rfl⟩:=ry;exact P.gt_str ⟨.bl _,H,I,rfl,q⟩
theorem Yl:OpR X (compareOp .GtE) (GA (λi j=>decide (j<=i)) λi j=>!(decide (i < j))):=op_ge.or λpins s σ H x y v u Q I rx ry h=>by
 obtain ⟨i,j,rfl,rfl,q⟩:=h;obtain ⟨t,rfl⟩:=rx;obtain ⟨t',rfl⟩:=ry;exact P.ge_str ⟨.bl _,H,I,rfl,q⟩
end
end L2
namespace F2
open PySem L2 PySem.Spec
def Dl:D->M (List D)
 | .lst ds=>ret ds
 | .scr ns=>ret (ns.map .int)
 | .tup ds=>ret ds
 | .str x=>ret (x.cps.toList.map λc=>.str ⟨#[c]⟩)
 | _=>fail
def D6 (f:M D):M (List D):=bnd f Dl
def Ei:D->D->M D
 | .str x,.int k=>λt=>if Ch k=true/\x.length * k.toNat<=LIM/\k<=LIM/\x.length<=LIM then some (.str (Txt.mul x k),t) else none
 | x,y=>Tl x y
def Fz:D->Option Int->Option Int->M D:=slD
def Mi (g:Int->Int->Bool)(h:List Nat->List Nat->Bool):D->D->M D
 | .int i,.int j=>ret (.bl (g i j))
 | .str x,.str y=>ret (.bl (h x.cps.toList y.cps.toList))
 | _,_=>fail
def ltA:=Mi (λi j=>decide (i < j)) (λi j=>decide (i < j))
def leA:=Mi (λi j=>decide (i<=j)) (λi j=>!(decide (j < i)))
def gtA:=Mi (λi j=>decide (j < i)) (λi j=>decide (j < i))
def geA:=Mi (λi j=>decide (j<=i)) (λi j=>!(decide (i < j)))
def unS (n:Nat)(g:List D->M Unit):D->M Unit
 | .tup ds=>if ds.length=n then g ds else fail
 | .lst ds=>if ds.length=n then g ds else fail
 | _=>fail
def bg:M D:=fC .dic
variable {tg:Expr}{K:PySem.W.Frag}{n:Nat}{g:List D->M Unit}{es:List Expr}
section
variable {X:Cx}{e a b:Expr}{pos:Pos}{st:Stmt}
theorem ItOk.str {K:PySem.W.Frag}{c:Cf}{H:Hp}{x:Str}:ItOk K (Its x) c H (x.cps.toList.map λc=>.str ⟨#[c]⟩):=by
 refine ⟨λc' H' i ex hi=>?_,λc' H' i y H'' d ex hd hy=>?_,λc' H' ex=>?_⟩
 ·show i < x.cps.size;simpa using hi
 ·obtain ⟨rfl,n,hn,rfl⟩:=hy;refine ⟨rfl,?_⟩;have:d = .str ⟨#[n]⟩:=by
   rw [ug2] at hd;have hn':x.cps.toList[i]?=some n:=by simpa using hn
   rw [hn'] at hd;simpa using hd.symm
  rw [this];exact .str _
 ·show _=x.cps.size;simp
theorem XN {f:M D}(h:PE X e (RE X.K f)):PI X tg e (RI X.K (D6 f)):=
 IY (Rf h) λσ H R z9=>by
  obtain ⟨Oo,c,t,fi,ds,t',eq,k⟩:=z9;obtain ⟨d,t1,e1,eq⟩:=Ae eq;refine ⟨Oo,c,t,fi,d,t1,e1,λv H1 c1 f1 s1 rv=>?_⟩
  cases rv with
  | @lst p vs ds' h1 h2 h3=>
    cases eq
    exact .inl ⟨p,rfl,⟨vs,SqL.of h1⟩,k _ H1 c1 f1 s1 (ItOk.lst λc' H' ex=>⟨vs,SqL.of (ex.keep _ _ h1 h2),h3.mono ex⟩)⟩
  | @scr p ns h1=>
    cases eq
    exact .inl ⟨p,rfl,⟨_,h1.sq⟩,k _ H1 c1 f1 s1 (ItOk.lst λc' H' ex=>⟨_,(h1.mono ex).sq,Reps.ints ns⟩)⟩
  | @tup p vs ds' h1 h2 h3=>
    cases eq
    exact .inr (.inl ⟨p,rfl,⟨vs,SqT.of h1⟩,k _ H1 c1 f1 s1 (ItOk.tup λc' H' ex=>⟨vs,SqT.of (ex.keep _ _ h1 h2),h3.mono ex⟩)⟩)
  | str x=>
    cases eq
    exact .inr (.inr ⟨x,rfl,k _ H1 c1 f1 s1 ItOk.str⟩)
  | _=>cases eq
theorem RG.un {v:V}{σ:L2.St}{H:Hp}{Q:L2.St->Hp->Prop}(q:RG K (unS n g) v σ H Q):gUn K n (RGs K g) v σ H Q:=by
 obtain ⟨Oo,c,t,d,fi,rv,t',eq,k⟩:=q
 cases rv with
 | @tup a vs ds h1 h2 h3=>
   unfold unS at eq
   by_cases hn:ds.length=n
   ·dsimp only at eq;rw [if_pos hn] at eq;exact ⟨a,vs,rfl,.inl (SqT.of h1),by rw [h3.length];exact hn,Oo,c,t,ds,fi,h3,t',eq,k⟩
   ·dsimp only at eq;rw [if_neg hn] at eq;cases eq
 | @lst a vs ds h1 h2 h3=>
   unfold unS at eq
   by_cases hn:ds.length=n
   ·dsimp only at eq;rw [if_pos hn] at eq;exact ⟨a,vs,rfl,.inr (SqL.of h1),by rw [h3.length];exact hn,Oo,c,t,ds,fi,h3,t',eq,k⟩
   ·dsimp only at eq;rw [if_neg hn] at eq;cases eq
 | _=>cases eq
theorem ZA {k:Nat}(hc:X.calm=true)(h:PGs X es (RGs X.K g))(hn:(assignEach es X.env).length=n:=by rfl)(hst:(assignEach es X.env).findIdx? (·.1)=none:=by rfl):PG X (.Tuple es k pos) (RG X.K (unS n g)):=
 LP (ZS hc h hn hst) λ_ _ _ _ q=>RG.un q
theorem SJ {f:D->M Unit}(h1:PG X e (RG X.K f))(h2:PGs X es (RGs X.K g))(hs:(assignEach (e :: es) X.env).map (·.2)=assign e X.env :: (assignEach es X.env).map (·.2):=by rfl):PGs X (e :: es) (RGs X.K (Bd f g)):=
 NO (TF h1 h2 hs) λ_ _ _ _ q=>RGs.cons q
end
variable {x:Str}
section
variable {K:PySem.W.Frag}
def UI (K:PySem.W.Frag):R2:=λx y H Q=>Pq K x y H Q\/UJ x y H Q
theorem VR {X:Cx}:OpR X (binaryOp .Mult) (UI X.K):=op_mul3.or VS
theorem NK {k:Int}(h:Ch k=true/\x.length * k.toNat<=LIM/\k<=LIM/\x.length<=LIM):MulOk x k:=by
 obtain ⟨g1,g2⟩:=FJ h.1;have hL:LIM=100000:=rfl;refine ⟨?_,λh1 _=>?_,λh1 _=>?_⟩
 ·rw [Bool.or_eq_false_iff];exact ⟨uk6 (by lia),uk6 (by lia)⟩
 ·have h2:k<=100000:=by have:=h.2.2.1;rw [hL] at this;exact this
  have h3:x.length<=100000:=by have:=h.2.2.2;rw [hL] at this;exact this
  have h4:(92233720368547:Int)<=(2 ^ 63 - 1) / k:=by
   rw [Int.le_ediv_iff_mul_le (by lia)];lia
  lia
 ·have h5:=h.2.1;rw [hL] at h5;unfold Builtin.Str.tooLong
  first | exact uk6 (by unfold sizeLine;lia) | (unfold sizeLine;exact uk6 (by lia))
theorem T4:Bi K (UI K) Ei:=λ{Oo c t σ H x y dx dy r t' Q} f rx ry eq k=>by
 unfold Ei at eq
 split at eq
 ·next z kk=>
  split at eq
  ·next h=>
   cases eq
   cases rx
   cases ry
   exact .inr ⟨z,kk,rfl,rfl,NK h,k _ H c f .refl (.str _)⟩
  ·cases eq
 ·exact .inl (WC f rx ry eq k)
def YU (K:PySem.W.Frag):V->Option Int->Option Int->Hp->VK->Prop:=TU K
theorem sl3 {X:Cx}:SlR X (YU X.K):=sl2
theorem WG:Sb K (YU K) Fz:=Y1
theorem HY {g:Int->Int->Bool}{h:List Nat->List Nat->Bool}:Bi K (GA g h) (Mi g h):=λ{Oo c t σ H x y dx dy r t' Q} f rx ry eq k=>by
 cases rx with
 | int i=>cases ry with
   | int j=>cases eq;exact .inl ⟨i,j,rfl,rfl,k _ H c f .refl (.bl _)⟩
   | _=>cases eq
 | str i=>cases ry with
   | str j=>cases eq;exact .inr ⟨i,j,rfl,rfl,k _ H c f .refl (.bl _)⟩
   | _=>cases eq
 | _=>cases eq
theorem Oy:Bi K (GA (λi j=>decide (i < j)) λi j=>decide (i < j)) ltA:=HY
theorem KA:Bi K (GA (λi j=>decide (i<=j)) λi j=>!(decide (j < i))) leA:=HY
theorem Ov:Bi K (GA (λi j=>decide (j < i)) λi j=>decide (j < i)) gtA:=HY
theorem Wv:Bi K (GA (λi j=>decide (j<=i)) λi j=>!(decide (i < j))) geA:=HY
end
variable {fa:Addr}{fd:FuncData}
theorem XQ {P:Program}{w:World}{mg:Str->Option Value}{base:Heap}{qual:Str}{st:Stmt}{N ps:List Str}{k m:Nat}{g:M Out}(e1:ps.length=n)(e2:N.length=m)(F:Fun K x qual st fa fd)(S:FnScope N ps (As st))
 (hb:∀(cdv:Value) (A:Around) (outer:List Env) (s:Shared) (H:Hp) (E:XK),Room k (A.deeper (PyProof.Rows.envOfC qual (As st) s.heap.objs.size fa cdv))->
   PSs (Dh CX0 P w K mg base N qual (As st) fa cdv A outer s H E).nox (Bt st) (RS K g)):FnOk P w K mg base CX0 (k + 1) fa fd ps (spF K (fnOf n m g)):=by
 subst e1 e2;exact ZD F S hb
theorem YY {P:Program}{w:World}{mg:Str->Option Value}{base:Heap}{ps:List Str}{k:Nat}{f g:Fn}(e:f=g)(h:FnOk P w K mg base CX0 k fa fd ps (spF K g)):FnOk P w K mg base CX0 k fa fd ps (spF K f):=by rw [e];exact h
theorem Xl:bootBuiltins "len" = some (.builtin "len"):=by decide +kernel
theorem EQ:bootBuiltins "isinstance" = some (.builtin "isinstance"):=by decide +kernel
theorem Xn:bootBuiltins "ord" = some (.builtin "ord"):=by decide +kernel
theorem Xm:bootBuiltins "min" = some (.builtin "min"):=by decide +kernel
theorem P5:bootBuiltins "int" = some (.type "int"):=by decide +kernel
theorem Xo:bootBuiltins "str" = some (.type "str"):=by decide +kernel
theorem UZ:bootBuiltins "bool" = some (.type "bool"):=by decide +kernel
theorem NT:bootBuiltins "list" = some (.type "list"):=by decide +kernel
theorem L3:bootBuiltins "tuple" = some (.type "tuple"):=by decide +kernel
noncomputable def AZ:Expr->Bool
 | .Starred _ _=>true
 | _=>false
theorem A7 {e:Expr}{env:Env}(h:AZ e=false):starEach (e :: es) env=(false,eval e env) :: starEach es env:=by
 cases e <;> first | rfl | cases h
def AY (es:List Expr):Bool:=es.all λe=>!AZ e
theorem AW:∀{es:List Expr} {env:Env} {p:Pos},AY es=true->(backTo p (starEach es env)).any (·.1)=false/\(backTo p (starEach es env)).all (λx=>!x.1)=true
 | [],env,p,_=>⟨rfl,rfl⟩
 | e :: es,env,p,h=>by
   have h':AZ e=false/\AY es=true:=by
    rw [AY,ul6,uh6] at h;exact ⟨by simpa using h.1,h.2⟩
   obtain ⟨h1,h2⟩:=AW (es:=es) (env:=env) (p:=p) h'.2;rw [A7 h'.1];refine ⟨?_,?_⟩
   ·show (false || (backTo p (starEach es env)).any (·.1))=false;rw [h1];rfl
   ·show (!false && (backTo p (starEach es env)).all (λx=>!x.1))=true;rw [h2];rfl
variable {f:M (List D)}{p:Pos}{id:String}{R:List V->Hp->VK->Prop}
section
variable {X:Cx}{e a b:Expr}{es:List Expr}{pos:Pos}
theorem Sw {f:M D}{g:M (List D)}(ha:PE X e (RE X.K f))(hr:PA X es (RA X.K g))(hs:AZ e=false:=by rfl):PA X (e :: es) (RA X.K (Aa f g)):=U4 ha hr (A7 hs)
theorem Mr {k:Nat}{ps:List Str}{g:Fn}(F:FnOk X.prog X.w X.K X.mg X.base CX0 k fa fd ps (spF X.K g))(hr:Room k X.A)(hg:Gl X x)(hm:X.mg x=some (.ref fa))(hk:PySem.W.keepIn X.K (.ref fa)=true)(hb:Binds X.K fd ps [])
 (ha:PA X (e :: es) (RA X.K f)) (hdb:(x == ("__debug__" : Str))=false:=by decide) (h1:AZ e=false:=by rfl) (h2:AY es=true:=by rfl) :
 PE X (.Call (.Name x p) (e :: es) [] pos) (RE X.K (Aj g f)):=U5 F hr hg hm hk hb ha hdb (A7 h1) (AW h2).1
theorem HE {h:List D->M D}(hc:Cm X (.builtin id) R)(s:En X.K R h)(hg:Gl X x)(hm:X.mg x=none)(hv:bootBuiltins x=some (.builtin id))(ha:PA X (e :: es) (RA X.K f))(hn:x≠"__name__":=by decide)(hdb:(x == ("__debug__" : Str))=false:=by decide)
 (h1:AZ e=false:=by rfl) (h2:AY es=true:=by rfl):PE X (.Call (.Name x p) (e :: es) [] pos) (RE X.K (fB f h)):=bh hc s hg hm hv ha hn hdb (A7 h1) (AW h2).1
theorem Ux {h:List D->M D}(hc:Cm X (.type id) R)(s:En X.K R h)(hg:Gl X x)(hm:X.mg x=none)(hv:bootBuiltins x=some (.type id))(ha:PA X (e :: es) (RA X.K f))(hn:x≠"__name__":=by decide)(hdb:(x == ("__debug__" : Str))=false:=by decide)
 (h1:AZ e=false:=by rfl) (h2:AY es=true:=by rfl):PE X (.Call (.Name x p) (e :: es) [] pos) (RE X.K (fB f h)):=bi hc s hg hm hv ha hn hdb (A7 h1) (AW h2).1
theorem Zz {h:List D->M (List D)}(hc:Cm X (.type id) R)(s:Lx X.K R h)(hg:Gl X x)(hm:X.mg x=none)(hv:bootBuiltins x=some (.type id))(ha:PA X (e :: es) (RA X.K f))(hn:x≠"__name__":=by decide)(hdb:(x == ("__debug__" : Str))=false:=by decide)
 (h1:AZ e=false:=by rfl) (h2:AY es=true:=by rfl):PE X (.Call (.Name x p) (e :: es) [] pos) (RF X.K (fBF f h)):=bj hc s hg hm hv ha hn hdb (A7 h1) (AW h2).1
theorem OW (hg:Gl X "range")(hm:X.mg "range" = none)(ha:PA X [a] (RA X.K f))(h1:AZ a=false:=by rfl):PI X tg (.Call (.Name "range" p) [a] [] pos) (RI X.K (Cg f)):=Qq hg hm ha (A7 h1)
theorem OX (hg:Gl X "range")(hm:X.mg "range" = none)(ha:PA X [a,b] (RA X.K f))(h1:AZ a=false:=by rfl)(h2:AZ b=false:=by rfl):PI X tg (.Call (.Name "range" p) [a,b] [] pos) (RI X.K (FG f)):=
 Qr hg hm ha (by rw [A7 h1,A7 h2];rfl) (A7 h2)
theorem Qo {cpos:Pos}(h1:AZ e=false)(h2:AY es=true)(h3:es.length < 20):((backTo cpos (starEach (e :: es) X.env)).all (λx=>!x.1) && (backToKw cpos (keywordEach [] X.env)).all (λx=>x.1.isSome) && decide ((e :: es).length + ([]:List Keyword).length + (if ([]:List Keyword).isEmpty then 0 else 1) < 30))=true:=by
 rw [(AW (es:=e :: es) (env:=X.env) (p:=cpos) (by rw [AY,ul6,h1];exact h2)).2];show (true && true && decide (es.length + 1 + 0 + 0 < 30))=true;simp;lia
theorem O0 {μ:Cf->Hp->D->(V->Hp->Prop)->Prop}(i:Nat){x:Str}{g:M (List D)}{px apos cpos:Pos}(ha:PA X (e :: es) (RA X.K g))(hN:X.N[i]?=some x:=by rfl)(hv:Vis X.env.scope x:=by walk_at "h")(hd:(x == ("__debug__" : Str))=false:=by decide)
 (hcd:(x == ("__classdict__" : Str))=false:=by decide) (hline:(apos.endLine == cpos.line)=true:=by rfl) (h1:AZ e=false:=by rfl) (h2:AY es=true:=by rfl) (h3:es.length < 20:=by decide) :
 PS X (.Expr (.Call (.Attribute (.Name x px) "append" apos) (e :: es) [] cpos) pos) (RSg X.K μ (ownM i BA g)):=Qu i ha hN hv hd hcd rfl (Qo h1 h2 h3) hline (A7 h1) (AW h2).1
theorem O1 {μ:Cf->Hp->D->(V->Hp->Prop)->Prop}(i:Nat){x:Str}{g:M (List D)}{px apos cpos:Pos}(ha:PA X (e :: es) (RA X.K g))(hN:X.N[i]?=some x:=by rfl)(hv:Vis X.env.scope x:=by walk_at "h")(hd:(x == ("__debug__" : Str))=false:=by decide)
 (hcd:(x == ("__classdict__" : Str))=false:=by decide) (hline:(apos.endLine == cpos.line)=true:=by rfl) (h1:AZ e=false:=by rfl) (h2:AY es=true:=by rfl) (h3:es.length < 20:=by decide) :
 PS X (.Expr (.Call (.Attribute (.Name x px) "extend" apos) (e :: es) [] cpos) pos) (RSg X.K μ (ownM i GU g)):=Qv i ha hN hv hd hcd rfl (Qo h1 h2 h3) hline (A7 h1) (AW h2).1
end
end F2
namespace HT
open PySem PySem.Spec L2 PyProof.Rows
section
variable {prog:Program}{w:World}{A:Around}{E:Value->Shared->Prop}{s:Shared}
end
end HT
namespace L2
open PySem PySem.Spec PyProof.Rows
section
variable {X:Cx}{e ek:Expr}{p2 pos:Pos}{te:TE}{tk:TO}
end
section
variable {X:Cx}
theorem GN:∀{ys:List Str} {us:List Value},Vals (ys.map V.str) us->CarriedAll us (ys.map PyData.str)
 | [],_,r=>by cases r;exact .nil
 | _ :: _,_,r=>by
   cases r with
   | cons r1 r2=>obtain ⟨t,rfl⟩:=r1;exact .cons (.str _ _) (GN r2)
def UH (K:PySem.W.Frag):V->List V->Hp->VK->Prop:=λx xs H Q=>∃z a ys,x = .str z/\xs=[.ref a]/\SqL K H a (ys.map V.str)/\(∀y∈ys,y.length<=8)/\z.length<=8/\ys.length<=1048576/\Q (.str (Txt.join z ys)) H
theorem VF:MtR X "str.join" (UH X.K):=by
 intro pins s σ H x xs v us Q I rx rs h;obtain ⟨z,a,ys,rfl,rfl,ha,h1,h2,h3,q⟩:=h;obtain ⟨t,rfl⟩:=rx;obtain ⟨u,rfl,ru⟩:=E7 rs
 cases ru
 obtain ⟨its,r,pl,_⟩:=I.list ha;refine join_madeW (l:=ys) (g:=id) 8 pl.isList (by rw [List.map_id];exact GN r) h1 h3 (by lia) λt' k=>?_;rw [List.map_id];exact ⟨.str _,H,I.tok _,⟨_,rfl⟩,q⟩
end
section
variable {X:Cx}
end
section
variable {X:Cx}
end
end L2
namespace F2
open PySem L2 PySem.Spec
section
variable {X:Cx}{K:PySem.W.Frag}
noncomputable def FA:List D->Option (List Str)
 | []=>some []
 | .str x :: r=>if x.length<=8 then (FA r).map (x :: ·) else none
 | _=>none
def joinM (f:M D)(g:M (List D)):M D:=bnd f λo=>bnd g λas=>match o,as with
 | .str z,[.lst ds]=>λt=>match FA ds with
   | some ys=>if z.length<=8/\ys.length<=1048576 then some (.str (Txt.join z ys),t) else none
   | none=>none
 | _,_=>fail
theorem NA {c:Cf}{H:Hp}:∀{ds:List D} {vs:List V} {ys:List Str},Reps K c H vs ds->FA ds=some ys->vs=ys.map V.str/\∀y∈ys,y.length<=8
 | [],_,ys,r,e=>by
   cases r
   cases e
   exact ⟨rfl,λ_ h=>nomatch h⟩
 | d :: ds,_,ys,r,e=>by
   cases r with
   | cons r1 r2=>
     cases r1 with
     | str x=>
       unfold FA at e
       split at e
       ·next hx=>
        obtain ⟨zs,e1,rfl⟩:=uc4.mp e;obtain ⟨h1,h2⟩:=NA r2 e1;refine ⟨by rw [h1];rfl,λy hy=>?_⟩;rcases ul3.mp hy with rfl | hy
        ·exact hx
        ·exact h2 y hy
       ·cases e
     | _=>cases e
theorem RE.joinM {f:M D}{g:M (List D)}{σ:L2.St}{H:Hp}{Q:VK}(q:RE K (F2.joinM f g) σ H Q):tBM K "str" (UH K) (RE K f) (RA K g) σ H Q:=by
 obtain ⟨Oo,c,t,fi,r,t',eq,k⟩:=q;obtain ⟨d,t1,e1,eq⟩:=Ae eq;obtain ⟨as,t2,e2,eq⟩:=Ae eq;refine ⟨Oo,c,t,fi,d,t1,e1,λv H1 c1 f1 s1 rv=>?_⟩
 split at eq
 ·next z ds=>
  cases rv
  refine ⟨rfl,Oo,c1,t1,f1,_,t2,e2,λus H2 c2 f2 s2 rus=>?_⟩;obtain ⟨w,rfl,rw'⟩:=DK rus
  split at eq
  ·next ys ey=>
   split at eq
   ·next hz=>
    cases eq
    cases rw' with
    | @lst p vs ds h1 h2 h3=>
      obtain ⟨h4,h5⟩:=NA h3 ey;subst h4;exact ⟨_,p,ys,rfl,rfl,SqL.of h1,h5,hz.1,hz.2,k _ _ c2 f2 (s1.trans s2) (.str _)⟩
   ·cases eq
  ·cases eq
 ·cases eq
theorem U7 {o e:Expr}{es:List Expr}{f:M D}{g:M (List D)}{apos cpos:Pos}(ho:PE X o (RE X.K f))(ha:PA X (e :: es) (RA X.K g))
 (hbase:attributeBase o "join" X.env (eval o X.env)=eval o X.env:=by rfl)
 (hfew:((backTo cpos (starEach (e :: es) X.env)).all (λx=>!x.1) && (backToKw cpos (keywordEach [] X.env)).all (λx=>x.1.isSome) && decide ((e :: es).length + ([]:List Keyword).length + (if ([]:List Keyword).isEmpty then 0 else 1) < 30))=true:=by rfl)
 (hline:(apos.endLine == cpos.line)=true:=by rfl) (hs:starEach (e :: es) X.env=(false,eval e X.env) :: starEach es X.env:=by rfl) (hplain:(backTo cpos (starEach es X.env)).any (·.1)=false:=by rfl) :
 PE X (.Call (.Attribute o "join" apos) (e :: es) [] cpos) (RE X.K (joinM f g)):=
 AK (HS PySem.F.plainAttrs_str PySem.F.slot_str_join PySem.F.type_str_join VF ho ha hbase hfew hline hs hplain) λ_ _ _ q=>RE.joinM q
end
end F2
namespace L2
open PySem PySem.Spec PyProof.Rows
def Ro:R2:=λx y H Q=>∃a kvs k v,x = .ref a/\y = .str k/\H a=some (.dK kvs)/\Dz kvs (Sum.inr k:Key)=some v/\Q v H
def YN:V->V->V->Hp->(Hp->Prop)->Prop:=λo i v H Q=>∃a kvs k,o = .ref a/\i = .str k/\H a=some (.dK kvs)/\kvs.length < sizeLine/\Q (upd H a (.dK (Dx kvs (Sum.inr k:Key) v)))
section
variable {X:Cx}
theorem X2:IxR X Ro:=by
 intro value slice pins s σ H x y v u Q I rx ry h hs;obtain ⟨a,kvs,k,z,rfl,rfl,e,l,q⟩:=h
 cases rx
 obtain ⟨_,_,vs,rel,dd⟩:=LB I.hok e;have g:DGet H a (kV (Sum.inr k:Key)) (some z):=by rw [<-l];exact DGet.k e
 have hT:=dd.typeIs;unfold subscriptTail;refine un9 ?_;rw [getitemInPython_of_ne hT.not_modules];refine un9 (wpAny_specialOf hT PySem.F.slot_dict_getitem.lookup ?_);have get:wpAny (model X.prog X.w) X.A (getItem (.ref a) u) (EP X pins σ Q) X.xe s:=by
  obtain ⟨w',hw,rw'⟩:=RelO.some_of (v:=z) (o:=valueAt vs (Sum.inr k:Key)) (by rw [<-l];exact rel.val _);exact wpAny_getItem_of (Jy (k:=(Sum.inr k:Key)) ry) dd.mapOf hw ⟨z,H,I.tok _,rw',q⟩
 have fin:wpAny (model X.prog X.w) X.A (subscripted slice false (.ref a) u) (λr s₃=>wpAny (model X.prog X.w) X.A (letTemporaryGo value (.ref a) r >>= λ_=>pure r) (EP X pins σ Q) X.xe s₃) X.xe s:=by
  rw [hs];exact wpAny_operating (uo1 get (λr s₃ h₃=>un9 (wpAny_letTemporaryGo (uo0 h₃))) λ_ _ x=>x)
 first
  | exact uo0 (un9 fin)
  | exact un9 (uo0 (un9 fin))
  | exact un9 fin
theorem WJ:Xe X YN:=by
 intro pins s σ H o i v ov iv u Q I ro ri rv h;obtain ⟨a,kvs,k,rfl,rfl,e,l,q⟩:=h
 cases ro
 obtain ⟨z,hd,vs,rel,dd⟩:=LB I.hok e;have hz:vs.length<=sizeLine:=by rw [<-rel.length];exact z
 have hl:(Dx kvs (Sum.inr k:Key) v).length<=sizeLine:=by have:=Ik kvs (Sum.inr k:Key) v;lia
 refine wpAny_setItem_pairs (hsz:=hz) (Jy (k:=(Sum.inr k:Key)) ri) dd λh' dd' hs=>⟨_,?_,q⟩;have he:∃q,h'.get? a=some q:=let ⟨q,_,_,hq,_⟩:=dd';⟨q,hq⟩;exact NW I (by rw [e];exact True.intro) hs he (Mn hl hd (rel.put _ rv) dd')
end
end L2
namespace F2
open PySem L2 PySem.Spec
noncomputable def A6 (kvs:List (Key×D))(k:Key):Option D:=(kvs.find? λkv=>decide (kv.1=k)).map (·.2)
noncomputable def Bp (kvs:List (Key×D))(k:Key)(d:D):List (Key×D):=
 if (kvs.any λkv=>decide (kv.1=k))=true then kvs.map (λkv=>if kv.1=k then (kv.1,d) else kv) else kvs++[(k,d)]
def A8:D->D->M D
 | .obj n,.str x=>λt=>match t.S[n]? with
   | some (.dct kvs)=>(A6 kvs (.inr x)).map λd=>(d,t)
   | _=>none
 | _,_=>fail
def F9:D->D->D->M Unit
 | .obj n,.str x,d=>λt=>match t.S[n]? with
   | some (.dct kvs)=>if kvs.length < LIM then some ((),{ t with S:=t.S.set n (.dct (Bp kvs (.inr x) d)) }) else none
   | _=>none
 | _,_,_=>fail
def DL (f g:M D)(d:D):M Unit:=bnd f λo=>bnd g λi=>F9 o i d
def DC:List (Str×M D)->M (List (Key×D))
 | []=>ret []
 | (k,f) :: r=>bnd f λd=>bnd (DC r) λps=>ret ((.inr k,d) :: ps)
def Bc (ps:List (Key×D)):List (Key×D):=ps.foldl (λacc kv=>Bp acc kv.1 kv.2) []
def E8 (n:Nat)(ps:List (Key×D)):M D:=λt=>match t.S[n]? with
 | some (.dct [])=>if ps.length<=15 then some (.obj n,{ t with S:=t.S.set n (.dct (Bc ps)) }) else none
 | _=>none
def FF (l:List (Str×M D)):M D:=λt=>bnd (DC l) (E8 t.S.length) { t with S:=t.S++[.dct []] }
section
variable {K:PySem.W.Frag}{c:Cf}{H:Hp}
theorem KVR.get {us:List (Key×V)}{kvs:List (Key×D)}(r:KVR K c H us kvs)(k:Key){d:D}(e:A6 kvs k=some d):∃v,Dz us k=some v/\Rep K c H v d:=by
 unfold KVR at r
 induction r with
 | nil=>simp [A6] at e
 | @cons p q ps qs h t ih=>
   by_cases hk:p.1=k
   ·have hq:q.1=k:=h.1.symm.trans hk;have:A6 (q :: qs) k=some q.2:=by simp [A6,uj6,hq]
    rw [this] at e;cases e
    exact ⟨p.2,GF hk,h.2⟩
   ·have hq:¬q.1=k:=λz=>hk (h.1.trans z);have:A6 (q :: qs) k=A6 qs k:=by simp [A6,uj6,hq]
    rw [this] at e;rw [GD hk];exact ih e
theorem KVR.any {us:List (Key×V)}{kvs:List (Key×D)}(r:KVR K c H us kvs)(k:Key):(us.any λkv=>decide (kv.1=k))=(kvs.any λkv=>decide (kv.1=k)):=by
 unfold KVR at r
 induction r with
 | nil=>rfl
 | @cons p q ps qs h t ih=>rw [ul7,ul7,ih,h.1]
theorem KVR.put {us:List (Key×V)}{kvs:List (Key×D)}(r:KVR K c H us kvs)(k:Key){v:V}{d:D}(rv:Rep K c H v d):KVR K c H (Dx us k v) (Bp kvs k d):=by
 unfold Dx Bp;rw [r.any k]
 by_cases q:(kvs.any λkv=>decide (kv.1=k))=true
 ·rw [if_pos q,if_pos q];clear q;unfold KVR at r ⊢
  induction r with
  | nil=>exact .nil
  | @cons p q ps qs h t ih=>
    rw [ul4,ul4];refine .cons ?_ ih
    by_cases e:p.1=k
    ·rw [if_pos e,if_pos (h.1.symm.trans e)];exact ⟨h.1,rv⟩
    ·rw [if_neg e,if_neg (λz=>e (h.1.trans z))];exact h
 ·rw [if_neg q,if_neg q];exact Paired.snoc r ⟨rfl,rv⟩
theorem KVR.length {us:List (Key×V)}{kvs:List (Key×D)}(r:KVR K c H us kvs):us.length=kvs.length:=Paired.length r
theorem KVR.mono {c':Cf}{H':Hp}{us:List (Key×V)}{kvs:List (Key×D)}(e:Ext c H c' H')(r:KVR K c H us kvs):KVR K c' H' us kvs:=Paired.mapP r λ_ _ z=>⟨z.1,z.2.mono e⟩
theorem KVR.merge:∀{ps:List (Key×D)} {us:List (Key×V)} {acc:List (Key×D)} {ua:List (Key×V)},KVR K c H us ps->KVR K c H ua acc->KVR K c H (Fq ua us) (ps.foldl (λacc kv=>Bp acc kv.1 kv.2) acc):=by
 intro ps us acc ua r;unfold KVR at r
 induction r generalizing acc ua with
 | nil=>intro q;exact q
 | @cons p q ps qs h t ih=>
   intro r0;refine ih ?_;show KVR K c H (Dx ua p.1 p.2) (Bp acc q.1 q.2);have:=KVR.put r0 p.1 h.2;rw [<-h.1];exact this
theorem Ry:Bi K Ro A8:=λ{Oo c t σ H x y dx dy r t' Q} f rx ry eq k=>by
 unfold A8 at eq
 split at eq
 ·next n z=>
  cases ry
  cases rx with
  | @obj a kk hk=>
    split at eq
    ·next kvs es=>
     obtain ⟨d,e1,e2⟩:=uc4.mp eq
     cases e2
     obtain ⟨us,g1,g2⟩:=f.s.obs _ a _ hk es;obtain ⟨v,e3,e4⟩:=g2.get _ e1;exact ⟨a,us,z,v,rfl,rfl,g1,e3,k _ H c f .refl e4⟩
    ·cases eq
 ·cases eq
end
section
variable {X:Cx}{pos:Pos}{e:Expr}
theorem Qp {o i:Expr}{f g:M D}(ho:PE X o (RE X.K f))(hi:PE X i (RE X.K g))
 (ha:∀v,assign (.Subscript o i pos) X.env v=(do
   let ov <-holding [v] (eval o X.env)
   let iv <-holding [v,ov] (eval i X.env)
   standAt pos
   holding [v,ov,iv] (setItem ov iv v)
   release [v,ov,iv] []):=by intro _;rfl):PG X (.Subscript o i pos) (RG X.K (DL f g)):=
 LP (YB ho hi WJ ha) λv σ H Q z9=>by
  obtain ⟨Oo,c,t,d,fi,rv,t',eq,k⟩:=z9;obtain ⟨d0,t1,e1,eq⟩:=Ae eq;obtain ⟨di,t2,e2,eq⟩:=Ae eq;refine ⟨Oo,c,t,fi,_,t1,e1,λx H1 c1 f1 s1 rx=>⟨Oo,c1,t1,f1,di,t2,e2,λy H2 c2 f2 s2 ry=>?_⟩⟩;unfold F9 at eq
  split at eq
  ·next n z dd=>
   cases ry
   cases rx with
   | @obj a kk hk=>
     split at eq
     ·next kvs es=>
      split at eq
      ·next hl=>
       cases eq
       have hk2:=s2.ext.io _ _ hk;obtain ⟨us,g1,g2⟩:=f2.s.obs _ a _ hk2 es;refine ⟨a,us,z,rfl,rfl,g1,by rw [g2.length];exact Nat.lt_trans hl W9,?_⟩;have rv2:=rv.mono (s1.trans s2).ext;obtain ⟨f3,s3⟩:=f2.wrObj (o:=.dct (Bp kvs (.inr z) d)) (u:=.dK (Dx us (.inr z) v)) hk2 λc' H' ext hu=>⟨_,hu,(g2.put _ rv2).mono ext⟩;exact k σ _ c2 f3 ((s1.trans s2).trans s3)
      ·cases eq
     ·cases eq
  ·cases eq
def RP (K:PySem.W.Frag)(f:M (List (Key×D)))(σ:St)(H:Hp)(Q:List (V×V)->Hp->Prop):Prop:=
 ∃Oo c t,FInv K Oo c t σ H/\∃ps t',f t=some (ps,t')/\∀us H' c',FInv K Oo c' t' σ H'->Stp Oo c H c' H'->KVR K c' H' us ps->Q (us.map λkv=>(kV kv.1,kv.2)) H'
def PPf (X:Cx)(pos:Pos)(keys:List (Option Expr))(values:List Expr)(f:M (List (Key×D))):Prop:=
 ∃trs,PPs X pos keys values trs/\∀σ H Q,RP X.K f σ H Q->JN trs σ H Q
theorem Vl:PPf X pos [] [] (DC []):=⟨[],Wg,λσ H Q z9=>by
 obtain ⟨Oo,c,t,fi,ps,t',eq,k⟩:=z9
 cases eq
 exact k [] H c fi .refl .nil⟩
theorem SL {k:Str}{j:Nat}{kp:Pos}{v:Expr}{ks:List (Option Expr)}{vs:List Expr}{f:M D}{r:List (Str×M D)}(hv:PE X v (RE X.K f))(hr:PPf X pos ks vs (DC r)) :
 PPf X pos (some (.Constant (.str k) j kp) :: ks) (v :: vs) (DC ((k,f) :: r)):=by
 obtain ⟨trs,h1,h2⟩:=hr;refine ⟨_,TK Rc hv h1,λσ H Q z9=>?_⟩;obtain ⟨Oo,c,t,fi,ps,t',eq,kk⟩:=z9;obtain ⟨d,t1,e1,eq⟩:=Ae eq;obtain ⟨qs,t2,e2,eq⟩:=Ae eq
 cases eq
 refine ⟨Oo,c,t,fi,d,t1,e1,λy H1 c1 f1 s1 ry=>?_⟩;refine h2 σ H1 _ ⟨Oo,c1,t1,f1,qs,_,e2,λus H2 c2 f2 s2 ru=>?_⟩;exact kk ((.inr k,y) :: us) H2 c2 f2 (s1.trans s2) (.cons ⟨rfl,ry.mono s2.ext⟩ ru)
theorem U6 {keys:List (Option Expr)}{values:List Expr}{l:List (Str×M D)}(h:PPf X pos keys values (DC l))(hall:keys.all (·.isSome)=true:=by rfl)(hl:keys.length=values.length:=by rfl)(h0:keys≠[]:=by exact List.cons_ne_nil _ _)
 (h15:keys.length<=15:=by exact ud2 rfl):PE X (.Dict keys values pos) (RE X.K (FF l)):=by
 obtain ⟨trs,h1,h2⟩:=h;refine AK (V1 h1 hall hl h0 h15) λσ H Q z9=>?_;obtain ⟨Oo,c,t,fi,r,t',eq,k⟩:=z9;intro p hp;obtain ⟨c1,f1,s1,e1⟩:=fi.newObj (o:=.dct []) (u:=.dK []) hp λc' H' ex hu=>⟨[],hu,.nil⟩;obtain ⟨ps,t2,e2,eq⟩:=Ae eq;refine h2 σ _ _ ⟨Oo,c1,_,f1,ps,t2,e2,λus H2 c2 f2 s2 ru=>?_⟩;unfold E8 at eq
 split at eq
 ·next es=>
  split at eq
  ·next hl15=>
   cases eq
   have hk2:=s2.ext.io _ _ e1;obtain ⟨u0,g1,g2⟩:=f2.s.obs _ p _ hk2 es
   cases g2
   refine ⟨g1,us,rfl,by rw [ru.length];exact hl15,?_⟩;obtain ⟨f3,s3⟩:=f2.wrObj (o:=.dct (Bc ps)) (u:=.dK (Fq [] us)) hk2 λc' H' ext hu=>⟨_,hu,(KVR.merge ru .nil).mono ext⟩;exact k _ _ c2 f3 (s1.trans (s2.trans s3)) (.obj hk2)
  ·cases eq
 ·cases eq
end
end F2
namespace L2
open PySem PySem.Spec PyProof.Rows
section
variable {X:Cx}
end
end L2
namespace F2
open PySem L2 PySem.Spec
section
variable {X:Cx}{pos:Pos}{e:Expr}{es:List Expr}
end
end F2
namespace L2
open PySem PySem.Spec PyProof.Rows
section
variable {prog:Program}{w:World}{A:Around}{I:Addr}{fp wr:List Addr}{G:Array GenState->Array GenState->Prop}{n:Nat}{P:Nat->Value->Prop}{St:Nat->Shared->Prop}
end
section
variable {X:Cx}
end
end L2
namespace F2
open PySem L2 PySem.Spec PyProof.Rows
section
variable {X:Cx}{pos:Pos}{e:Expr}
end
end F2
namespace F2
open PySem L2 PySem.Spec
noncomputable def C8 (f:M Bool)(b:M Out):Nat->M Out
 | 0=>λ_=>none
 | n + 1=>λt=>match f t with
   | none=>none
   | some (false,t1)=>some (.next,t1)
   | some (true,t1)=>match b t1 with
     | some (.next,t2)=>C8 f b n t2
     | some (.cont,t2)=>C8 f b n t2
     | some (.brk,t2)=>some (.next,t2)
     | some (.ret x,t2)=>some (.ret x,t2)
     | none=>none
def Ly:Nat:=1000000
def Ge (f:M Bool)(b:M Out):M Out:=C8 f b Ly
theorem RS.while {μ:Cf->Hp->D->(V->Hp->Prop)->Prop}{K:PySem.W.Frag}{f:M Bool}{b:M Out}{E:Ends}{σ:L2.St}{H:Hp}(q:RSg K μ (Ge f b) E σ H):RN (RT K f) (RSg K μ b) E σ H:=by
 obtain ⟨Oo,c,t,fi,o,t',eq,k⟩:=q;refine ⟨λm σ' H'=>∃c' t2,FInv K Oo c' t2 σ' H'/\Stp Oo c H c' H'/\C8 f b m t2=some (o,t'),⟨Ly,c,t,fi,.refl,eq⟩,?_⟩;rintro m σ' H' ⟨c',t2,f2,s2,e2⟩
 cases m with
 | zero=>cases e2
 | succ m=>
 rw [C8] at e2;dsimp only at e2
 cases ef:f t2 with
 | none=>rw [ef] at e2;cases e2
 | some p=>
 obtain ⟨r,t3⟩:=p;rw [ef] at e2;refine ⟨Oo,c',t2,f2,r,t3,ef,λH3 c3 f3 s3=>?_⟩
 cases r with
 | false=>
   cases e2
   exact k σ' H3 c3 f3 (s2.trans s3)
 | true=>
   rw [if_pos rfl];dsimp only at e2;refine ⟨λσ4 H4=>∃c4 t4,FInv K Oo c4 t4 σ4 H4/\Stp Oo c H c4 H4/\C8 f b m t4=some (o,t'),λσ4 H4 h=>⟨m,uh3 m,h⟩,?_⟩
   cases eb:b t3 with
   | none=>rw [eb] at e2;cases e2
   | some p=>
   obtain ⟨ob,t4⟩:=p;rw [eb] at e2;refine ⟨Oo,c3,t3,f3,ob,t4,eb,λσ4 H4 c4 f4 s4=>?_⟩
   cases ob with
   | next=>exact ⟨c4,t4,f4,(s2.trans s3).trans s4,e2⟩
   | cont=>exact ⟨c4,t4,f4,(s2.trans s3).trans s4,e2⟩
   | brk=>
     cases e2
     exact k σ4 H4 c4 f4 ((s2.trans s3).trans s4)
   | ret x=>
     cases e2
     exact k σ4 H4 c4 f4 ((s2.trans s3).trans s4)
section
variable {X:Cx}{pos:Pos}
theorem MD {μ:Cf->Hp->D->(V->Hp->Prop)->Prop}{e:Expr}{body:List Stmt}{f:M Bool}{b:M Out}(hp:PassesOwn (model X.prog X.w) X.A X.env X.xe)(hc:PT X e (RT X.K f))(hb:PSs X body (RSg X.K μ b)):PS X (.While e body [] pos) (RSg X.K μ (Ge f b)):=
 Bn (TN hp hc hb) λ_ _ _ q=>RS.while q
end
end F2
namespace L2
open PySem PySem.Spec PyProof.Rows
end L2
namespace F2
open PySem L2 PySem.Spec
end F2
namespace L2
open PySem PySem.Spec PyProof.Rows
section
variable {X:Cx}{tg:Expr}
end
end L2
namespace F2
open PySem L2 PySem.Spec
section
variable {X:Cx}{pos:Pos}{e:Expr}{es:List Expr}
end
noncomputable def EA (H:Hp)(a:Addr):Hp:=λb=>if b=a then none else H b
theorem Ts {H:Hp}{a:Addr}{o:HO}(h:H a=some o):upd (EA H a) a o=H:=by
 funext b
 by_cases e:b=a
 ·subst e;rw [Ar];exact h.symm
 ·rw [Ai e];unfold EA;rw [if_neg e]
section
variable {K:PySem.W.Frag}{Oo:Addr->Prop}{c:Cf}{t:T}{σ:L2.St}{H:Hp}
theorem FInv.out (f:FInv K Oo c t σ H){i:Nat}{ds:List D}(e:t.env[i]?=some (some (.own ds))){a:Addr}(ha:σ[i]?=some (some (.ref a))) :
 FInv K Oo ⟨c.ι,λb=>c.O b/\b≠a⟩ { t with env:=t.env.set i none } σ (EA H a)/\Stp Oo c H ⟨c.ι,λb=>c.O b/\b≠a⟩ (EA H a):=by
 obtain ⟨a',vs,g1,g2,g3,g4,g5⟩:=f.own i ds e;rw [ha] at g1;injection g1 with g1;injection g1 with g1;injection g1 with g1;subst g1
 have ni:a∉c.ι:=f.s.dis a g2;have ext:Ext c H ⟨c.ι,λb=>c.O b/\b≠a⟩ (EA H a):=by
  refine ⟨λb o hb hn=>?_,λb o hb z=>?_,λk b h=>h⟩
  ·unfold EA;rw [if_neg λz=>hn (by rw [z];exact .inr g2)];exact hb
  ·rcases z with z | z
   ·exact .inl z
   ·exact .inr z.1
 have stp:Stp Oo c H ⟨c.ι,λb=>c.O b/\b≠a⟩ (EA H a):=⟨ext,λb hb=>by unfold EA;rw [if_neg λz=>g3 (by rw [<-z];exact hb)]⟩;have old:∀{j:Nat} {x:Sl},(t.env.set i none)[j]?=some (some x)->j≠i/\t.env[j]?=some (some x):=λ{j x} q=>by
  by_cases h:j=i
  ·subst h;rw [ug6] at q
   split at q
   ·split at q <;> simp at q
   ·contradiction
  ·exact ⟨h,by rw [ud7 (Ne.symm h)] at q;exact q⟩
 refine ⟨⟨⟨f.s.len,f.s.nd,λk b o e1 e2=>?_,λb hb=>?_,λb hb=>f.s.dis b hb.1⟩,by simpa using f.len,λb hb=>⟨f.sub b hb,λz=>g3 (by rw [<-z];exact hb)⟩,λj d q=>?_,λj es q=>?_,λj k es fs b q1 q2 q3 q4=>?_⟩,stp⟩
 ·refine (f.s.obs k b o e1 e2).mono ext ?_;unfold EA;rw [if_neg λz=>ni (by rw [<-z];exact ud8 e1)]
 ·obtain ⟨o,ho⟩:=f.s.trk b hb.1;exact ⟨o,by unfold EA;rw [if_neg hb.2];exact ho⟩
 ·obtain ⟨v,h1,h2⟩:=f.val j d (old q).2;exact ⟨v,h1,h2.mono ext⟩
 ·obtain ⟨nj,q'⟩:=old q;obtain ⟨b,us,k1,k2,k3,k4,k5⟩:=f.own j es q';have nb:b≠a:=λz=>nj (f.inj j i es ds a q' e (by rw [k1,z]) ha);exact ⟨b,us,k1,⟨k2,nb⟩,k3,by unfold EA;rw [if_neg nb];exact k4,k5.mono ext⟩
 ·exact f.inj j k es fs b (old q1).2 (old q2).2 q3 q4
end
noncomputable def F7 (i:Nat):M Out:=λt=>match t.env[i]? with
 | some (some (.own xs))=>some (.ret (.lst xs),{ t with env:=t.env.set i none })
 | _=>none
def GB (f:M (List D)):M Out:=bnd f λds=>ret (.ret (.lst ds))
variable {g:Fn}{fa:Addr}{fd:FuncData}
section
variable {X:Cx}{pos:Pos}{e:Expr}{es:List Expr}
theorem N2 {f:M (List D)}(h:PE X e (RF X.K f)):PS X (.Return (some e) pos) (RSg X.K (μF X.K) (GB f)):=
 Bn (Hk h) λE σ H z9=>by
  obtain ⟨Oo,c,t,fi,o,t',eq,k⟩:=z9;obtain ⟨ds,t1,e1,eq⟩:=Ae eq
  cases eq
  exact ⟨Oo,c,t,fi,ds,_,e1,λp us H1 c1 f1 s1 ru hp=>k σ H1 c1 f1 s1 p us hp ru⟩
theorem Qz (i:Nat){x:Str}{px:Pos}(hN:X.N[i]?=some x:=by rfl)(hv:Vis X.env.scope x:=by walk_at "h")(hd:(x == ("__debug__" : Str))=false:=by decide)
 (hcd:(x == ("__classdict__" : Str))=false:=by decide):PS X (.Return (some (.Name x px)) pos) (RSg X.K (μF X.K) (F7 i)):=
 Bn (Hk (C7 hN hv hd hcd)) λE σ H z9=>by
  obtain ⟨Oo,c,t,fi,o,t',eq,k⟩:=z9;unfold F7 at eq
  split at eq
  ·next xs ex=>
   cases eq
   obtain ⟨a,vs,h1,h2,h3,h4,h5⟩:=fi.own i xs ex;refine ⟨.ref a,h1,?_⟩;obtain ⟨f2,s2⟩:=fi.out ex h1;have:=k σ (EA H a) _ f2 s2 a vs (by unfold EA;rw [if_pos rfl]) (h5.mono s2.ext);rw [Ts h4] at this;exact this
  ·cases eq
inductive spFF (K:PySem.W.Frag)(f:Fn)(vs:List V)(H:Hp)(Q:VK)(E:XK):Prop where
 | mk (c:Cf) (ds:List D) (S:List Ob) (si:SInv K c S H) (rp:Reps K c H vs ds) (rs:List D) (S':List Ob) (e:f ds S=some (.lst rs,S')) (k:∀p us H' c',SInv K c' S' H'->Stp c.O c H c' H'->(∀b,c'.O b↔c.O b)->Reps K c' H' us rs->H' p=none->Q (.ref p) (upd H' p (.lst us))):spFF K f vs H Q E
def DB (g:Fn)(f:M (List D)):M (List D):=bnd f λds t=>match g ds t.S with
 | some (.lst rs,S')=>some (rs,{ t with S:=S' })
 | _=>none
theorem OP {ds:List D}{t:T}{rs:List D}{t':T}(h:(match g ds t.S with | some (.lst rs,S')=>some (rs,{ t with S:=S' }) | _=>none:Option (List D×T))=some (rs,t')):∃S',g ds t.S=some (.lst rs,S')/\t' = { t with S:=S' }:=by
 split at h
 ·next rs' S' e=>cases h;exact ⟨S',e,rfl⟩
 ·cases h
theorem SH {k:Nat}{ps:List Str}{f:M (List D)}{x:Str}{p:Pos}(F:FnOk X.prog X.w X.K X.mg X.base CX0 k fa fd ps (spFF X.K g))(hr:Room k X.A)(hg:Gl X x)(hm:X.mg x=some (.ref fa))(hk:PySem.W.keepIn X.K (.ref fa)=true)(hb:Binds X.K fd ps [])
 (ha:PA X (e :: es) (RA X.K f)) (hdb:(x == ("__debug__" : Str))=false:=by decide) (h1:AZ e=false:=by rfl) (h2:AY es=true:=by rfl) :
 PE X (.Call (.Name x p) (e :: es) [] pos) (RF X.K (DB g f)):=
 AK (Og F hr hg hm hk hb .nil Gy ha hdb (A7 h1) (AW h2).1) λσ H Q z9=>by
  obtain ⟨Oo,c,t,fi,rs,t',eq,kk⟩:=z9;obtain ⟨ds,t1,e1,eq⟩:=Ae eq;obtain ⟨S',e2,rfl⟩:=OP eq;refine ⟨Oo,c,t,fi,ds,t1,e1,λvs H1 c1 f1 s1 rvs=>?_⟩;show spFF X.K g (vs++[]) H1 Q E0;rw [uj2];refine ⟨c1,ds,t1.S,f1.s,rvs,rs,S',e2,λp us H' c' si st ho ru hp=>?_⟩;obtain ⟨f2,s2⟩:=f1.after si st ho;exact kk p us H' c' f2 (s1.trans s2) ru hp
end
theorem Vh {P:Program}{w:World}{K:PySem.W.Frag}{mg:Str->Option Value}{base:Heap}{x qual:Str}{st:Stmt}{N ps:List Str}{k n m:Nat}{g:M Out}(e1:ps.length=n)(e2:N.length=m)(F:Fun K x qual st fa fd)(S:FnScope N ps (As st))
 (hb:∀(cdv:Value) (A:Around) (outer:List Env) (s:Shared) (H:Hp) (E:XK),Room k (A.deeper (PyProof.Rows.envOfC qual (As st) s.heap.objs.size fa cdv))->
   PSs (Dh CX0 P w K mg base N qual (As st) fa cdv A outer s H E).nox (Bt st) (RSg K (μF K) g)):FnOk P w K mg base CX0 (k + 1) fa fd ps (spFF K (fnOf n m g)):=by
 subst e1 e2;have hlen:∀{ds:List D} {S:List Ob} {z:D×List Ob},fnOf ps.length N.length g ds S=some z->ds.length=ps.length:=λ{ds S z} h=>by
  unfold fnOf at h
  split at h
  ·next h1=>exact h1
  ·cases h
 refine F.ok S (λvs H Q E h=>?_) (λcdv A outer s H vs Q E hr h=>?_)
 ·obtain ⟨c,ds,S,si,rs,r,S',e,_⟩:=h;rw [rs.length];exact hlen e
 obtain ⟨c,ds,S0,si,rs,r,S',e,kk⟩:=h;refine ⟨RSg K (μF K) g,hb cdv A outer s H E hr,?_⟩;have hl:=hlen e;unfold fnOf at e;rw [if_pos hl] at e
 cases eg:g ⟨env0 N.length ds,S0⟩ with
 | none=>rw [eg] at e;cases e
 | some p=>
   obtain ⟨o,t⟩:=p;rw [eg] at e;refine ⟨c.O,c,_,Gj si rs,o,t,eg,λσ' H' c' f' s'=>?_⟩;obtain ⟨si',ext'⟩:=f'.leave;have st':Stp c.O c H ⟨c'.ι,c.O⟩ H':=⟨s'.ext.trans ext',s'.oo⟩
   cases o with
   | next=>cases e
   | ret d=>
     cases e
     exact λp us hp ru=>kk p us H' _ si' st' (λ_=>Iff.rfl) (ru.mono ext') hp
   | brk=>cases e
   | cont=>cases e
theorem Ws {P:Program}{w:World}{K:PySem.W.Frag}{mg:Str->Option Value}{base:Heap}{ps:List Str}{k:Nat}{f:Fn}(e:f=g)(h:FnOk P w K mg base CX0 k fa fd ps (spFF K g)):FnOk P w K mg base CX0 k fa fd ps (spFF K f):=by rw [e];exact h
end F2
namespace L2
open PySem PySem.Spec PyProof.Rows
section
variable {X:Cx}
theorem VY {o:Expr}{to:TE}{apos cpos:Pos}(ho:PE X o to)(hbase:attributeBase o "bit_length" X.env (eval o X.env)=eval o X.env:=by rfl)(hline:(apos.endLine == cpos.line)=true:=by rfl) :
 PE X (.Call (.Attribute o "bit_length" apos) [] [] cpos) (λσ H Q=>to σ H λv H1=>∃i,v = .int i/\Q (.int (Builtin.Int.intBits i:Nat)) H1):=by
 intro pins s σ H Q I h;refine Call_method0 hbase hline (thn (ho pins s σ H _ I h) λu s1 z9=>?_);obtain ⟨v,H1,I1,rv,i,ex,q⟩:=z9;subst ex;obtain ⟨t,rfl⟩:=rv;exact ⟨"int", "int.bit_length",PySem.F.plainAttrs_int,ua5,PySem.F.type_int_bit_length,typeIs_int _ _ _,(λ_ e=>nomatch e),
  method0_gives ua5 PySem.F.entry_int_bit_length (typeIs_int _ _ _) (PySem.F.args_int_bit_length_1 _) (PySem.AutoIntG2.int_bit_length_int_0 i t) ⟨.int (Builtin.Int.intBits i:Nat),H1,I1.tok _,⟨_,rfl⟩,q⟩⟩
end
end L2
namespace F2
open PySem L2 PySem.Spec
def Je:D->M D
 | .int i=>ret (.int (Builtin.Int.intBits i:Nat))
 | _=>fail
section
variable {X:Cx}{pos:Pos}{e:Expr}{es:List Expr}
theorem Qi {o:Expr}{f:M D}{apos cpos:Pos}(ho:PE X o (RE X.K f))(hbase:attributeBase o "bit_length" X.env (eval o X.env)=eval o X.env:=by rfl)(hline:(apos.endLine == cpos.line)=true:=by rfl) :
 PE X (.Call (.Attribute o "bit_length" apos) [] [] cpos) (RE X.K (fUn f Je)):=
 AK (VY ho hbase hline) λσ H Q z9=>by
  obtain ⟨Oo,c,t,fi,r,t',eq,k⟩:=z9;obtain ⟨d,t1,e1,eq⟩:=Ae eq;refine ⟨Oo,c,t,fi,d,t1,e1,λx H1 c1 f1 s1 rx=>?_⟩;unfold Je at eq
  split at eq
  ·next i=>
   cases eq
   cases rx
   exact ⟨i,rfl,k _ H1 c1 f1 s1 (.int _)⟩
  ·cases eq
end
section
variable {X:Cx}{b elt:Expr}{pos:Pos}
end
end F2
namespace L2
open PySem PySem.Spec PyProof.Rows
end L2
namespace F2
open PySem L2 PySem.Spec
structure ItOk2 (K:PySem.W.Frag)(J:It)(c:Cf)(H:Hp)(ds:List D):Prop where
 go:∀c' H' (i:Nat),Ext c H c' H'->i < ds.length->J.go i H'
 yld:∀c' H' (i:Nat) x H'' d,Ext c H c' H'->ds[i]?=some d->J.yld i H' x H''->∃p vs es,x = .ref p/\H' p=none/\H''=upd H' p (.tup vs)/\d = .tup es/\Reps K c' H' vs es
 stop:∀c' H',Ext c H c' H'->J.stop ds.length H'
inductive RI2 (K:PySem.W.Frag)(f:M (List D))(σ:L2.St)(H:Hp)(R:It->Hp->Prop):Prop where
 | mk (Oo:Addr->Prop) (c:Cf) (t:T) (fi:FInv K Oo c t σ H) (ds:List D) (t':T) (e:f t=some (ds,t')) (k:∀J H' c',FInv K Oo c' t' σ H'->Stp Oo c H c' H'->ItOk2 K J c' H' ds->R J H'):RI2 K f σ H R
section
variable {X:Cx}{pos:Pos}{e:Expr}
end
end F2
namespace L2
open PySem PySem.Spec PyProof.Rows
section
variable {X:Cx}
end
end L2
namespace F2
open PySem L2 PySem.Spec
section
variable {X:Cx}{pos:Pos}{e:Expr}{es:List Expr}
end
end F2
namespace L2
open PySem PySem.Spec PyProof.Rows
section
variable {X:Cx}{e ek:Expr}{p2 pos:Pos}{te:TE}{tk:TO}
end
end L2
namespace F2
open PySem L2 PySem.Spec
section
variable {X:Cx}
end
end F2
namespace L2
open PySem PySem.Spec PyProof.Rows
section
variable {X:Cx}
end
end L2
namespace F2
open PySem L2 PySem.Spec
section
variable {X:Cx}{pos:Pos}
end
end F2
namespace L2
open PySem PySem.Spec PyProof.Rows
theorem Lq {x y:Int}(h0:0 < y)(h1:y < 18446744073709551616):Builtin.divisionGoesByPylong x y=false:=by
 unfold Builtin.divisionGoesByPylong;have hl:y.natAbs.log2 < 64:=(Nat.log2_lt (by lia)).mpr (by show y.natAbs < 2 ^ 64;lia);have e:(y == 0)=false:=by rw [beq_eq_false_iff_ne];lia
 simp only [e,uf4,if_false];rw [Bool.and_eq_false_iff];left;rw [decide_eq_false_iff_not];lia
def Us (i j:Int):Prop:=0 < j/\j < 18446744073709551616
section
variable {X:Cx}
theorem KN {i:Int}(h:i.natAbs < 2 ^ 512):Builtin.Int.intBits i<=2 ^ 20:=by
 unfold Builtin.Int.intBits
 split
 ·exact un6 _
 ·next z=>
  have hz:i.natAbs≠0:=by
   intro e;have:i=0:=by lia
   subst this;exact z rfl
  have:=(Nat.log2_lt hz).mpr h;lia
def Ut (i j:Int):Prop:=i.natAbs < 2 ^ 512/\j.natAbs < 2 ^ 512
theorem VT:OpR X (binaryOp .Mult) (rI Ut λi j=>.int (i * j)):=opI λ_ _ _ _ _ _ _ hc q=>mul_int q (IntMulOk.of_bits (KN hc.1) (KN hc.2))
theorem Tq:OpR X (binaryOp .FloorDiv) (rI Us λi j=>.int (i / j)):=opI λi j _ _ _ _ _ hc q=>by
 have h1:(0:Int) < j:=hc.1;exact floordiv_int (by lia) (by rw [ua6 i (by lia)];exact q) (.inl (Lq hc.1 hc.2))
end
end L2
namespace F2
open PySem L2 PySem.Spec
noncomputable def Ml (i j:Int):Bool:=decide (0 < j) && decide (j < 18446744073709551616)
def HD:=i2C Ml λi j=>.int (i / j)
theorem Rz {K:PySem.W.Frag}:Bi K (rI Us λi j=>.int (i / j)) HD:=E9 (λi j h=>by
 unfold Ml at h;rw [uh6,ug9,ug9] at h;exact h) λ_ _ _ _=>.int _
noncomputable def M5 (i j:Int):Bool:=decide (i.natAbs < 2 ^ 512) && decide (j.natAbs < 2 ^ 512)
def II:=i2C M5 λi j=>.int (i * j)
theorem T5 {K:PySem.W.Frag}:Bi K (rI Ut λi j=>.int (i * j)) II:=E9 (λi j h=>by
 unfold M5 at h;rw [uh6] at h;exact ⟨uh0 h.1,uh0 h.2⟩) λ_ _ _ _=>.int _
end F2
namespace L2
open PySem PySem.Spec PyProof.Rows
section
variable {X:Cx}
end
section
variable {X:Cx}
def MG (y:V)(xs:List V):Option Nat:=xs.findIdx? λz=>eqV z y
theorem N9 {x:V}:∀{xs:List V} {us:List Value},Vals xs us->xs.all E4=true->us.map (eqU x)=xs.map λy=>eqV y x
 | _,_,.nil,_=>rfl
 | y :: xs,u :: us,.cons r t,f=>by
   rw [ul6,uh6] at f;rw [ul4,ul4,Qe r f.1,N9 t f.2]
def YO (K:PySem.W.Frag):V->List V->Hp->VK->Prop:=λx vs H Q=>∃p xs y j,x = .ref p/\vs=[y]/\SqL K H p xs/\E4 y=true/\xs.all E4=true/\MG y xs=some j/\Q (.int (j:Nat)) H
theorem Yb:MtR X "list.index" (YO X.K):=by
 intro pins s σ H x vs v us Q I rx rv h;obtain ⟨p,xs,y,j,rfl,rfl,hq,fy,fs,hj,q⟩:=h
 cases rx
 obtain ⟨u,rfl,ru⟩:=E7 rv;obtain ⟨its,r,pl,hz⟩:=I.list hq;obtain ⟨⟨cl1,dd,dt1,sl⟩,ho,h1,n,h2⟩:=pl.isList;simp only at h1 h2;subst h1 h2;obtain ⟨jl,jt,jn⟩:=ua0.mp hj;have hl:=r.length;have hm:=N9 (x:=y) r fs;have at_:∀m (h1:m < its.length) (h2:m < xs.length),eqU y its[m]=eqV xs[m] y:=λm h1 h2=>by
  have e1:(its.map (eqU y))[m]?=some (eqU y its[m]):=by rw [ug2,ub5 h1];rfl
  have e2:(xs.map λz=>eqV z y)[m]?=some (eqV xs[m] y):=by rw [ug2,ub5 h2];rfl
  rw [hm,e2] at e1;exact (ui9 e1).symm
 have hs:its.toArray.size=its.length:=by simp
 refine call_meets PySem.F.slot_list_index ⟨_,ho,rfl⟩ PySem.F.entry_list_index (PySem.F.args_list_index_2 _ _) (SeqAt.list_indexAt p its.toArray n dd sl u (eqU y) j (by lia) ?_ ?_ ?_) ⟨ho,λw hw=>M2 ru fy r fs w (by simpa using hw),⟨.int (j:Nat),H,I.tok _,⟨_,rfl⟩,q⟩⟩
 ·have:sizeLine < 2 ^ 62:=by decide
  lia
 ·rw [List.getElem_toArray,at_ j (by lia) jl];exact jt
 ·intro m hm' hlt;rw [List.getElem_toArray,at_ m (by lia) (by lia)];simpa using jn m hlt
end
section
variable {X:Cx}
end
end L2
namespace F2
open PySem L2 PySem.Spec
def idxM (f:M D)(g:M (List D)):M D:=bnd f λo=>bnd g λas=>match o,as with
 | .lst ds,[y]=>λt=>if Gk y=true/\ds.all Gk=true then (match MG (toV y) (ds.map toV) with
   | some j=>some (.int (j:Nat),t)
   | none=>none) else none
 | _,_=>fail
theorem RE.idxM {K:PySem.W.Frag}{f:M D}{g:M (List D)}{σ:L2.St}{H:Hp}{Q:VK}(q:RE K (F2.idxM f g) σ H Q):tBM K "list" (YO K) (RE K f) (RA K g) σ H Q:=by
 obtain ⟨Oo,c,t,fi,r,t',eq,k⟩:=q;obtain ⟨d,t1,e1,eq⟩:=Ae eq;obtain ⟨as,t2,e2,eq⟩:=Ae eq;refine ⟨Oo,c,t,fi,d,t1,e1,λv H1 c1 f1 s1 rv=>?_⟩
 split at eq
 ·next ds y=>
  cases rv with
  | @lst p vs ds h1 h2 h3=>
  refine ⟨.inl ⟨rfl,vs,SqL.of h1⟩,Oo,c1,t1,f1,_,t2,e2,λus H2 c2 f2 s2 rus=>?_⟩;obtain ⟨w,rfl,rw'⟩:=DK rus;have rv2:=(Rep.lst h1 h2 h3).mono s2.ext
  cases rv2 with
  | @lst _ ws _ h1 h2 h3=>
  split at eq
  ·next hf=>
   split at eq
   ·next j ej=>
    cases eq
    refine ⟨p,ws,w,j,rfl,rfl,SqL.of h1,?_,?_,?_,k _ _ c2 f2 (s1.trans s2) (.int _)⟩
    ·rw [Kw rw' hf.1];exact MC _
    ·rw [IQ h3 hf.2,List.all_map,ui0];exact λd _=>MC d
    ·rw [Kw rw' hf.1,IQ h3 hf.2];exact ej
   ·cases eq
  ·cases eq
 ·cases eq
section
variable {X:Cx}{pos:Pos}{e:Expr}{es:List Expr}
theorem SE {o e:Expr}{es:List Expr}{f:M D}{g:M (List D)}{apos cpos:Pos}(ho:PE X o (RE X.K f))(ha:PA X (e :: es) (RA X.K g))
 (hbase:attributeBase o "index" X.env (eval o X.env)=eval o X.env:=by rfl)
 (hfew:((backTo cpos (starEach (e :: es) X.env)).all (λx=>!x.1) && (backToKw cpos (keywordEach [] X.env)).all (λx=>x.1.isSome) && decide ((e :: es).length + ([]:List Keyword).length + (if ([]:List Keyword).isEmpty then 0 else 1) < 30))=true:=by rfl)
 (hline:(apos.endLine == cpos.line)=true:=by rfl) (hs:starEach (e :: es) X.env=(false,eval e X.env) :: starEach es X.env:=by rfl) (hplain:(backTo cpos (starEach es X.env)).any (·.1)=false:=by rfl) :
 PE X (.Call (.Attribute o "index" apos) (e :: es) [] cpos) (RE X.K (F2.idxM f g)):=
 AK (HS ub8 PySem.F.slot_list_index PySem.F.type_list_index Yb ho ha hbase hfew hline hs hplain) λ_ _ _ q=>RE.idxM q
end
end F2
namespace L2
open PySem PySem.Spec PyProof.Rows
section
variable {X:Cx}
end
end L2
namespace F2
open PySem L2 PySem.Spec
def HC:List (Int×M D)->M (List (Key×D))
 | []=>ret []
 | (k,f) :: r=>bnd f λd=>bnd (HC r) λps=>ret ((.inl k,d) :: ps)
def EN (l:List (Int×M D)):M D:=λt=>bnd (HC l) (E8 t.S.length) { t with S:=t.S++[.dct []] }
noncomputable def O5:List (Key×D)->Option (List Int)
 | []=>some []
 | (.inl k,_) :: r=>(O5 r).map (k :: ·)
 | _=>none
section
variable {K:PySem.W.Frag}{c:Cf}{H:Hp}
theorem KVR.has {us:List (Key×V)}{kvs:List (Key×D)}(r:KVR K c H us kvs)(k:Key):(Dz us k).isSome=(A6 kvs k).isSome:=by
 unfold KVR at r
 induction r with
 | nil=>rfl
 | @cons p q ps qs h t ih=>
   by_cases hk:p.1=k
   ·have hq:q.1=k:=h.1.symm.trans hk;rw [GF hk];simp [A6,uj6,hq]
   ·have hq:¬q.1=k:=λz=>hk (h.1.trans z);have:A6 (q :: qs) k=A6 qs k:=by simp [A6,uj6,hq]
    rw [this,GD hk];exact ih
end
section
variable {X:Cx}{pos:Pos}{e b:Expr}
theorem Qk:PE X (.Dict [] [] pos) (RE X.K (EN [])):=
 AK Tz λσ H Q z9=>by
  obtain ⟨Oo,c,t,fi,r,t',eq,k⟩:=z9;intro p hp;obtain ⟨c1,f1,s1,e1⟩:=fi.newObj (o:=.dct []) (u:=.dK []) hp λc' H' ex hu=>⟨[],hu,.nil⟩;have e2:EN [] t=some (.obj t.S.length,{ t with S:=t.S++[.dct []] }):=by
   simp [EN,HC,bnd,F2.ret,E8,Bc]
  rw [e2] at eq
  cases eq
  exact k _ _ c1 f1 s1 (.obj e1)
end
end F2
namespace L2
open PySem PySem.Spec PyProof.Rows
noncomputable def tb (led:Bool)(pl:List Nat):SetTable:={ mask:=7,place:=pl.toArray,dummies:=#[],finger:=0,led:=led,moves:=0,plain:=true }
noncomputable def pls:Nat->List (List Nat)
 | 0=>[[]]
 | k + 1=>(pls k).flatMap λl=>(List.range 8).filterMap λj=>if l.all (· < j) then some (l++[j]) else none
section
variable {P:Program}{w:World}{A:Around}{E:Value->Shared->Prop}{s:Shared}
end
section
variable {P:Program}{w:World}{A:Around}{I:Addr}{fp wr:List Addr}{G:Array GenState->Array GenState->Prop}{n:Nat}{Pr:Nat->Value->Prop}{St:Nat->Shared->Prop}
end
section
variable {P:Program}{w:World}{A:Around}{E:Value->Shared->Prop}{s:Shared}
end
section
variable {prog:Program}{w:World}{A:Around}
end
section
variable {X:Cx}
end
end L2
namespace F2
open PySem L2 PySem.Spec PyProof.Rows
section
variable {X:Cx}{pos:Pos}{e:Expr}
end
end F2
namespace L2
open PySem PySem.Spec PyProof.Rows
section
variable {P:Program}{w:World}{A:Around}{E:Value->Shared->Prop}{s:Shared}
structure ZT (h:Heap)(z TI TO i1 i2 t1 t2:Addr)(n:Nat):Prop where
 zz:IsZip h z TI TO .none
 ti:IsPair h TI (.ref i1) (.ref i2)
 ot:∃a b,IsPair h TO a b
 p1:h.IsTupleIter i1 t1 n
 p2:h.IsTupleIter i2 t2 n
end
section
variable {P:Program}{w:World}{A:Around}{E:Value->Shared->Prop}{s:Shared}
end
def Itz (K:PySem.W.Frag)(a b:Addr):It:=
 ⟨λi H=>∃xs ys x y,SqT K H a xs/\SqT K H b ys/\xs[i]?=some x/\ys[i]?=some y,λi H v H'=>∃p x y,v = .ref p/\H p=none/\(∀xs,SqT K H a xs->xs[i]?=some x)/\(∀ys,SqT K H b ys->ys[i]?=some y)/\H'=upd H p (.tup [x,y]),λi H=>∃xs ys,SqT K H a xs/\SqT K H b ys/\(xs.length<=i\/ys.length<=i)⟩
end L2
namespace F2
open PySem L2 PySem.Spec
noncomputable def c8:List D->List D->List D
 | x :: xs,y :: ys=>.tup [x,y] :: c8 xs ys
 | _,_=>[]
section
variable {X:Cx}{e a b tg iter elt:Expr}{ifs:List Expr}{pos:Pos}{scope:Scope}{N':List Str}{n:Nat}{fr:List Nat}{f:M (List D)}{st:D->M Unit}{tst:M Bool}{el:M D}
end
def Gu:List D->M D
 | [.obj k,.ty m]=>λt=>match t.S[k]? with
   | some (.lst _)=>(Dc "list" m).map λb=>(.bl b,t)
   | _=>none
 | ds=>Dk ds
theorem T3 {K:PySem.W.Frag}:En K (TR K) Gu:=λ{Oo c t σ H xs ds r t' Q} f rx eq k=>by
 unfold Gu at eq
 split at eq
 ·next n m=>
  obtain ⟨v,u,rfl,rv,ru⟩:=JI rx
  cases ru
  cases rv with
  | @obj a kk hk=>
  split at eq
  ·next ds es=>
   obtain ⟨b,e1,e2⟩:=uc4.mp eq
   cases e2
   obtain ⟨us,g1,g2⟩:=f.s.obs _ a _ hk es;exact ⟨.ref a,m,.type "list",b,rfl,.lst g1,HJ (d:=.lst []) rfl e1,k _ H c f .refl (.bl b)⟩
  ·cases eq
 ·exact Ox f rx eq k
section
variable {X:Cx}{elt:Expr}{pos:Pos}{e:Expr}{es:List Expr}
end
end F2
namespace L2
open PySem PySem.Spec PyProof.Rows
section
variable {X:Cx}{pins:List (Addr×Obj)}{σ:St}{H:Hp}{s:Shared}{a:Addr}{kvs:List (Key×V)}{o:Obj}
end
section
variable {X:Cx}
end
section
variable {X:Cx}
end
end L2
namespace F2
open PySem L2 PySem.Spec SeqAt
def PU (K:PySem.W.Frag)(H:Hp)(v w:V):Prop:=∃c dv dw,Rep K c H v dv/\Rep K c H w dw/\eqN EQD dv dw=some true
def W6 (K:PySem.W.Frag)(H:Hp)(v w:V):Prop:=PU K H v w\/∃a b us ts,v = .ref a/\w = .ref b/\H a=some (.dK us)/\H b=some (.dK ts)/\us.length=ts.length/\(∀kv∈us,∃n:Int,kv.1=Sum.inl n)/\(∀kv∈ts,∃n:Int,kv.1=Sum.inl n)/\∀kv∈us,∃z,Dz ts kv.1=some z/\PU K H kv.2 z
def dR (K:PySem.W.Frag)(b:Bool):R2:=λx y H Q=>∃p q vs ws,x = .ref p/\y = .ref q/\H p=some (.lst vs)/\H q=some (.lst ws)/\vs.length=ws.length/\(∀(j:Nat) v w,vs[j]?=some v->ws[j]?=some w->W6 K H v w)/\Q (.bl b) H
def LY (S:List Ob)(x y:D):Bool:=Bq (Dy S x) && Bq (Dy S y) && decide (eqN EQD (Dy S x) (Dy S y)=some true)
def dj (S:List Ob)(x y:D):Bool:=match x,y with
 | .obj m,.obj n=>match S[m]?,S[n]? with
   | some (.dct kvs),some (.dct lvs)=>kvs.length == lvs.length && (O5 kvs).isSome && (O5 lvs).isSome && kvs.all (λkv=>match A6 lvs kv.1 with | some e=>LY S kv.2 e | none=>false)
   | _,_=>LY S x y
 | _,_=>LY S x y
end F2
namespace F2
open PySem L2 PySem.Spec
section
variable {X:Cx}{pos:Pos}
end
end F2
namespace L2
open PySem PySem.Spec PyProof.Rows
structure ZL (h:Heap)(z TI TO i1 i2 t1 t2:Addr)(n:Nat):Prop where
 zz:IsZip h z TI TO .none
 ti:IsPair h TI (.ref i1) (.ref i2)
 ot:∃a b,IsPair h TO a b
 p1:h.IsListIter i1 t1 n
 p2:h.IsListIter i2 t2 n
end L2
namespace F2
open PySem L2 PySem.Spec
section
variable {X:Cx}{a b:Expr}{pos:Pos}
end
end F2
namespace L2
open PySem PySem.Spec PyProof.Rows PySem.W
section
variable {prog:Program}{w:World}{A:Around}{h:Heap}{g:Array GenState}{d:Drawn}{t:Nat}{os:OsState}{R:Result->Shared->Prop}
variable {nm q:Str}{C N fI:Addr}{bs bm bmB:List Value}{hdct:Bool}{sn:List Str}{sub:List Value}{ab:Bool}{col:Option Bool}{dd:Option Addr}{k0 k1 k2 k3 k5:Option Value}{B newId initId:String}{mN:Str->Option Value}
abbrev excObj (C tp:Addr):Obj:={ cls:=.ref C,data:=.fields #[.ref tp,.none,.none,.none,.bool false,.none] }
abbrev DJ (h:Heap)(C:Addr)(us:List Value):Heap:=(h.push { cls:=.type "tuple",data:=.seq us.toArray }).push (excObj C h.objs.size)
theorem M0 (F:ExcBaseFacts B newId initId bmB)(T:OwnTail h bmB bm){us:List Value}(hC:h.get? C=some (excClassObj nm q C N bs bm hdct sn sub ab col dd k0 k1 k2 k3 k5 newId))(hn:h.Ns N mN)(hni:mN "__init__" = some (.ref fI))
 (hb:Looks (model prog w) h (bindSpecial (.ref fI) (.ref (h.objs.size + 1))) (.ref fI,[.ref (h.objs.size + 1)])) (hus:us.length<=sizeLine)
 (hq:codeAny (model prog w) (A.under (.builtin "type.__call__" ⟨.ref C :: us,[]⟩)) (.call (.ref fI) ⟨.ref (h.objs.size + 1) :: us,[]⟩) (InitBack (h.objs.size + 1) R) ⟨DJ h C us,g,d,t,os⟩) :
 codeAny (model prog w) A (.call (.ref C) ⟨us,[]⟩) R ⟨h,g,d,t,os⟩:=by
 have c1:=tc_lookup;have c2:=tc_bind (.ref C);have ty:(⟨h,g,d,t,os⟩:Shared).TypeIs (.ref C) "type":=⟨_,hC,rfl⟩;refine codeAny_of_tree ?_;show wpAny _ _ (callAny (.ref C) _) _ _ _
 repeat (any_goals (first
  | assumption
  | with_reducible refine wpAny_loadPart_at hC ?_
  | wp_step))
 refine ⟨rfl,codeAny_call_builtin_at (Code.quiet_builtin _ (by decide +kernel)) entry_typeCall (wpAny_check_type_call_sub hC ?_)⟩
 repeat (first
  | with_reducible refine wpAny_loadPart_at hC ?_
  | with_reducible refine wpAny_madeBy_exc hC ?_
  | wp_step)
 refine codeAny_call_builtin_code (Code.quiet_builtin _ F.quiet) (wpAny_check_new_subT F T hC (codeAny_exc_new_subT F T hC ?_ hus))
 change wpAny _ _ _ _ _ (Shared.mk (DJ h C us) g d t os)
 have kp:∀b o,h.get? b=some o->(DJ h C us).get? b=some o:=λb o e=>uc1 _ (uc1 _ e);have he:(DJ h C us).get? (h.objs.size + 1)=some { cls:=.ref C,data:=.fields #[.ref h.objs.size,.none,.none,.none,.bool false,.none] }:=by heap_get
 have n1:(DJ h C us).Ns N mN:=hn.keeps kp;have cC:(Value.ref C :: bm).contains (.ref C)=true:=by simp
 unfold isInstance
 repeat (first
  | with_reducible refine wpAny_loadPart_at he ?_
  | (with_reducible refine wpAny_isSubtype_exc (kp _ _ hC) ?_;rw [cC])
  | wp_step)
 show wpAny _ _ (typeLookup (.ref C) _) _ _ _;refine wpAny_typeLookup_tail (kp _ _ hC) n1 (T.keeps kp) F.mroIs F.init.lookup ?_;rw [hni];refine um1 (un9 ((hb.keeps kp).at ?_));refine un9 (wpAny_call (codeAny_mono hq λr s' z=>?_))
 cases r with
 | error e=>exact z
 | ok f=>
   cases f with
   | ret v=>
     obtain ⟨rfl,z⟩:=z;exact uo0 (uo0 z)
   | _=>exact z.elim
end
end L2
namespace L2
open PySem PySem.Spec PyProof.Rows PySem.W PySem.Builtin PySem.Builtin.ObjectAttr
theorem Rr (self:Value):refuseLoop self "__setattr__" [.type "ValueError",.type "Exception",.type "BaseException",.type "object"]=pure ():=by
 kernel_rfl
abbrev FE (C P:Addr):List Value:=[.ref C,.ref P,.type "ValueError",.type "Exception",.type "BaseException",.type "object"]
theorem JH (self:Value)(C P:Addr):refuseLoop self "__setattr__" (FE C P)=pure ():=by
 rw [FE,refuseLoop_ref,refuseLoop_ref];exact Rr self
section
variable {prog:Program}{w:World}{A:Around}{s:Shared}{K:PySem.W.Frag}{x C P tp:Addr}{R:Result->Shared->Prop}{name:Str}{v:Value}{tk:Tok}{cd:ClassData}
theorem VU (X:K.In s.heap)(hx:s.heap.get? x=some (excObj C tp))(hc:clsIn K C=some cd)(hmr:cd.mro=FE C P)(ha:findIn K (.ref C) name=some none)
 (h:wpAny (model prog w) A.in1 (storeInOwnDict (.ref x) (.ref C) (.str name tk) name v false) (λfin s'=>match fin with | .done f=>R (.ok f) s' | .again c'=>c'.quiet=true/\codeAny (model prog w) A c' R s') (λe s'=>R (.error e) s') s) :
 codeAny (model prog w) A (.call (.builtin "object.__setattr__") ⟨[.ref x,.str name tk,v],[]⟩) R s:=by
 have SF:=PySem.F.store_object;have I:InstAt s.heap x (excObj C tp) C none:=⟨hx,rfl,rfl,trivial⟩;have ob:Looks (model prog w) s.heap (isInstance (.ref x) (.type "object")) true:=I.type.andThen (looks_mroIn X (by unfold mroIn;rw [hc,Option.bind_some,hmr];rfl));refine codeAny_call_builtin SF.slot.plain SF.entry (@check_slot (model prog w) _ _ s "object.__setattr__" "object" "__setattr__" (.ref x) [.str name tk,v] [] _ SF.kind SF.split ob (SF.args (.ref x) (.str name tk) v) ?_);have mr:Looks (model prog w) s.heap (mroOf (.ref C)) (FE C P):=by rw [<-hmr];exact (looks_clsIn X hc).andThen .now
 rw [osa_eq,refuse_eq];refine un9 (un9 (I.type.here (un9 (mr.here ?_))));rw [JH];refine uo0 (un9 (I.type.here (un9 ((looks_findIn X ha).here ?_))));exact un9 (uo0 h)
theorem WK {E:Value->Shared->Prop}{Q:Unit->Shared->Prop}(X:K.In s.heap)(hx:s.heap.get? x=some (excObj C tp))(hs:findIn K (.ref C) "__setattr__" = some (some (.builtin "object.__setattr__")))(hc:clsIn K C=some cd)(hmr:cd.mro=FE C P)(hd:cd.hasDict=true)(ha:findIn K (.ref C) name=some none)
 (h:∀h',(∀b o,b≠x->s.heap.get? b=some o->h'.get? b=some o)->h'.get? x=some { excObj C tp with dict:=some s.heap.objs.size }->h'.Ns1 s.heap.objs.size (λy=>if y=name then some v else none)->Q () { s with heap:=h',toks:=s.toks + 2 }) :
 wpAny (model prog w) A (setAttr (.ref x) name v) Q E s:=by
 have I:InstAt s.heap x (excObj C tp) C none:=⟨hx,rfl,rfl,trivial⟩;refine set_plain X I hs (VU (s:={ s with toks:=s.toks + 1 }) X hx hc hmr ha ?_);refine un9 (uo0 (un9 (un9 (wpAny_loadPart (s:={ s with toks:=s.toks + 1 }) hx (un9 (Looks.here (s:={ s with toks:=s.toks + 1 }) (looks_clsIn X hc) ?_))))));rw [hd,if_neg (by decide)];show wpAny _ _ (alloc _ >>= λdx=>update x _ >>= λ_=>pure (some dx)) _ _ _;have hx1:(s.heap.push emptyDict).get? x=some (excObj C tp):=uc1 _ hx;have hne:s.heap.objs.size≠x:=um6 (um2 hx);refine un9 (wpAny_alloc (s:={ s with toks:=s.toks + 1 }) (un9 (wpAny_update hx1 (uo0 ?_))));have hx2:((s.heap.push emptyDict).update x λo=>{ o with dict:=some s.heap.objs.size }).get? x=some { excObj C tp with dict:=some s.heap.objs.size }:=ud3 _ hx1 rfl;have hk:∀b o,b≠x->s.heap.get? b=some o->((s.heap.push emptyDict).update x λo=>{ o with dict:=some s.heap.objs.size }).get? b=some o:=λb o hb e=>(uc3 _ _ (Ne.symm hb)).trans (uc1 _ e);have hdx:((s.heap.push emptyDict).update x λo=>{ o with dict:=some s.heap.objs.size }).get? s.heap.objs.size=some emptyDict:=(uc3 _ _ (Ne.symm hne)).trans (ue1 _ rfl);have n1:((s.heap.push emptyDict).update x λo=>{ o with dict:=some s.heap.objs.size }).Ns1 s.heap.objs.size λ_=>none:=⟨_,#[],_,hdx,rfl,(λe he=>by simp at he),(by simp [UniqKeys]),λ_=>rfl⟩;refine un9 (uo0 (un9 ?_));refine wpAny_nsSet1 n1 λh' n2 sb=>?_;obtain ⟨oD,esD,epD,hoD,hdD,hcD⟩:=n2.count (PySem.Within.cons name v (ns:=[]) (λy u=>absurd rfl u));refine un9 (wpAny_lookBehind hoD (by rw [hdD];exact pastItsLine_dict (um4 hcD (by show 1<=_;decide))) ?_);exact uo0 (h h' (λb o hb e=>by
  by_cases hb2:b=s.heap.objs.size
  ·subst hb2;exact absurd (um2 e) (ul2 _)
  ·exact (sb.2 b hb2).trans (hk b o hb e)) ((sb.2 x (Ne.symm hne)).trans hx2) n2)
end
end L2
namespace L2
open PySem PySem.Spec PyProof.Rows PySem.W
variable {qx:Bool}
def XRec (qx:Bool)(h:Heap)(x C:Addr)(dx:Option Addr)(tb:Value):Prop:=∃(o:Obj) (vs:Array Value),h.get? x=some o/\o.cls = .ref C/\o.dict=dx/\o.data = .fields vs/\vs[1]?=some tb/\(qx=true->vs[2]?=some .none/\4 < vs.size)
theorem Xs {qx:Bool}{vs:Array Value}{v:Value}(h:qx=true->vs[2]?=some .none/\4 < vs.size):qx=true->(vs.setIfInBounds 1 v)[2]?=some .none/\4 < (vs.setIfInBounds 1 v).size:=λz=>by
 rw [ua1 (by decide),ub6];exact h z
theorem XRec.to {qx:Bool}{h:Heap}{x C:Addr}{dx:Option Addr}{tb:Value}(r:XRec true h x C dx tb):XRec qx h x C dx tb:=by
 obtain ⟨o,vs,h1,h2,h3,h4,h5,h6⟩:=r;exact ⟨o,vs,h1,h2,h3,h4,h5,λ_=>h6 rfl⟩
def XTb (h:Heap)(T:Addr):Prop:=∃(o:Obj) (ts:Array Value),h.get? T=some o/\o.data = .fields ts/\ts[3]?=some .none
structure XKeep (fs ch:List Addr)(h h':Heap):Prop where
 keep:∀b o,b∉ch->b∉fs->h.get? b=some o->h'.get? b=some o
 slot:∀b o,b∉ch->h.get? b=some o->∃sl,h'.get? b=some { o with slots:=sl }
section
variable {M:Model}{A:Around}{E:Value->Shared->Prop}{s:Shared}{env:Env}{outer:List Env}{base:Heap}{L x C:Addr}{dx:Option Addr}{tb:Value}{Q:Unit->Shared->Prop}
theorem Fp {o:Obj}{vs:Array Value}(hd:o.data = .fields vs)(f:Array Value->Array Value):(o.mapFields f).data = .fields (f vs)/\(o.mapFields f).cls=o.cls/\(o.mapFields f).dict=o.dict:=by
 obtain ⟨c,d,dt,sl⟩:=o
 cases hd
 exact ⟨rfl,rfl,rfl⟩
end
end L2
namespace L2
open PySem PySem.Spec PyProof.Rows PySem.W
variable {qx:Bool}
abbrev VE:List Value:=[.type "ValueError",.type "Exception",.type "BaseException",.type "object"]
structure XCl (K:PySem.W.Frag)(C:Addr)(bm:List Value):Prop where
 ex:∃cd dd k0 k1 k2 k3 k5,K.lookup C=some { cls:=.type "type",dict:=dd,data:=.cls cd,slots:=#[k0,k1,k2,k3,some (.builtin "ValueError.__new__"),k5] }/\cd.mro = .ref C :: bm/\cd.hasDel=false/\cd.hasDict=true/\nsOkIn K cd.ns=true
 tl:tailIn K VE bm=true
noncomputable def LJ (K:PySem.W.Frag)(C:Addr)(bm:List Value):Bool:=tailIn K VE bm && match K.lookup C with
 | some ⟨.type "type",_,.cls cd,sl⟩=>(match sl.toList with
   | [_,_,_,_,some (.builtin n),_]=>n == "ValueError.__new__" && cd.mro == .ref C :: bm && !cd.hasDel && cd.hasDict && nsOkIn K cd.ns
   | _=>false)
 | _=>false
variable {K:PySem.W.Frag}{C:Addr}{bm:List Value}
theorem XCl.of_in (q:LJ K C bm=true):XCl K C bm:=by
 unfold LJ at q;rw [uh6] at q;refine ⟨?_,q.1⟩;have q:=q.2
 split at q
 ·rename_i dd cd sl ho
  split at q
  ·rename_i k0 k1 k2 k3 n k5 hs;simp only [uh6,beq_iff_eq,Bool.not_eq_true'] at q;obtain ⟨⟨⟨⟨rfl,h1⟩,h2⟩,h3⟩,h4⟩:=q;have hsl:sl=#[k0,k1,k2,k3,some (.builtin "ValueError.__new__"),k5]:=by
    cases sl
    exact congrArg Array.mk hs
   exact ⟨cd,dd,k0,k1,k2,k3,k5,by rw [ho,hsl],h1,h2,h3,h4⟩
  ·cases q
 ·cases q
theorem XCl.obj {K:PySem.W.Frag}{C:Addr}{bm:List Value}{h:Heap}(c:XCl K C bm)(X:K.In h):∃nm q N bs sn sub ab col dd k0 k1 k2 k3 k5,h.get? C=some (excClassObj nm q C N bs bm true sn sub ab col dd k0 k1 k2 k3 k5 "ValueError.__new__")/\h.Ns N (h.nsMap N):=by
 obtain ⟨⟨nm,bs,mro,ns,qn,hd,sn,sub,ab,col,del⟩,dd,k0,k1,k2,k3,k5,h1,h2,h3,h4,h5⟩:=c.ex;dsimp only at h2 h3 h4 h5;subst h2 h3 h4;exact ⟨nm,qn,ns,bs,sn,sub,ab,col,dd,k0,k1,k2,k3,k5,X _ _ h1,.of_isNs (isNs_of_in X h5)⟩
variable {h:Heap}
theorem XCl.tail (c:XCl K C bm)(X:K.In h):OwnTail h VE bm:=tail_of_in X c.tl
theorem XCl.has (c:XCl K C bm)(X:K.In h):(Value.ref C :: bm).contains (.type "BaseException")=true:=by
 rw [List.contains_cons,(c.tail X).hasType (b:=true) (by decide +kernel),Bool.or_true]
section
variable {M:Model}{A:Around}{E:Value->Shared->Prop}{env:Env}{K:PySem.W.Frag}{C:Addr}{bm:List Value}{s:Shared}
theorem TV {t:Sem Value}{Q:Flow->Shared->Prop}(c:XCl K C bm)(hh:A.handled=none)
 (h:wpAny M A t (λv s1=>∃x dx,v = .ref x/\K.In s1.heap/\XRec qx s1.heap x C dx .none/\E v s1) E s):wpAny M A (raiseStmt env (some t) none) Q E s:=by
 unfold raiseStmt;refine un9 (uo1 h (λv s1 q=>?_) λ_ _ z=>z);obtain ⟨x,dx,rfl,X,⟨o,vs,hx,hc,hd,hdt,h1,_⟩,hE⟩:=q;obtain ⟨nm,q,N,bs,sn,sub,ab,col,dd,k0,k1,k2,k3,k5,hC,_⟩:=c.obj X;have hb:=c.has X;obtain ⟨hp,g,d,tk,os⟩:=s1
 repeat (first
  | (with_reducible refine wpAny_loadPart_at hx ?_;rw [hc])
  | with_reducible refine wpAny_loadPart_at hC ?_
  | (with_reducible refine wpAny_isSubtype_exc hC ?_;rw [hb])
  | with_reducible refine un8 hx hdt h1 ?_
  | wp_step)
 exact wpAny_raiseNew_none hh hE
end
def CX1 (qx:Bool)(P:Program)(w:World):CXT:=λouter H s E e s'=>∃(x C:Addr) (dx:Option Addr) (T:Addr) (H':Hp),e = .ref x/\s'.os=s.os/\AllBare s'.gens/\Un (frs outer) [] H H' s.heap s'.heap/\HOk P w H' s'.heap/\
 H' x=some (.ext (F2.XIs qx x C dx))/\s.heap.objs.size<=x/\s.heap.objs.size<=T/\T≠x/\H' T=none/\XRec qx s'.heap x C dx (.ref T)/\XTb s'.heap T/\E (.ref x) dx H'
variable {x:Addr}{dx:Option Addr}
theorem XRec.is {tb:Value}(r:XRec qx h x C dx tb):F2.XIs qx x C dx h:=by
 obtain ⟨o,vs,h1,h2,h3,h4,_,h5⟩:=r;exact ⟨o,vs,h1,h2,h3,h4,h5⟩
theorem XIs.stay {h1 h2:Heap}(r:F2.XIs qx x C dx h1)(k:∀o,h1.get? x=some o->h2.get? x=some o):F2.XIs qx x C dx h2:=by
 obtain ⟨o,vs,e,q⟩:=r;exact ⟨o,vs,k o e,q⟩
theorem Jp {P:Program}{w:World}{H:Hp}(r:F2.XIs qx x C dx h):ObjOk P w H h x (.ext (F2.XIs qx x C dx)):=
 ⟨r,let ⟨o,_,e,_⟩:=r;⟨o,e⟩,λ_ _ q k=>XIs.stay q k⟩
section
variable {X:Cx}{pins:List (Addr×Obj)}{σ:St}{H H':Hp}{s s':Shared}{h':Heap}{x C T:Addr}{dx:Option Addr}{ch:List Addr}
theorem Ug (k:XKeep (frs X.stack) ch s.heap h')(hT:∀b∈ch,b=x\/b=T):Un (frs X.stack) (x :: T :: []) H H s.heap h':=by
 have nch:∀b:Addr,b∉(x :: T :: [])->b∉ch:=λb hb z=>hb (by rcases hT b z with rfl | rfl <;> simp);refine ⟨λb o e n hb hx=>k.keep b o (nch b hx) hb e,λb o e n hb hx=>k.slot b o (nch b hx) e,λb o e n _=>n,λb o e hx=>?_,λ_ _ e=>e,λ_ _ _ e=>e,λb ps e=>⟨#[],by rw [e];simp⟩⟩;obtain ⟨sl,q⟩:=k.slot b o (nch b hx) e;exact ⟨_,q⟩
theorem Inv.left (I:Inv X pins σ H s)(hx:H x=some (.ext (F2.XIs qx x C dx)))(hT:H T=none)(nx:X.s₀.heap.objs.size<=x)(nT:X.s₀.heap.objs.size<=T)(k:XKeep (frs X.stack) ch s.heap h')(hc:∀b∈ch,b=x\/b=T)(r:F2.XIs qx x C dx h')
 (oT:∀y c,X.env.cells.lookup y=some c->c≠T) (lT:T≠X.env.locals) (pT:∀p∈X.pn++pins,p.1≠T):Inv X pins σ H { s with heap:=h' }:=by
 have nfr:∀b u,H b=some u->b∉frs X.stack:=λb u e z=>by rw [I.stkFree b z] at e;cases e
 refine I.call (g':=s.gens) (t':=s.toks) (d':=s.drawn) (ch:=[x,T]) (Ug k hc) (λb u e=>?_) I.bare λb hb=>?_
 ·by_cases hb:b=x
  ·subst hb;rw [hx] at e;cases e;exact Jp r
  ·refine (I.hok b u e).stay (λc v hcc q=>k.keep c v ?_ ?_ q) (λ_ q=>q) λ_ _ q=>q
   ·intro z;rcases hcc with rfl | hcc
    ·rcases hc c z with q | q
     ·exact hb q
     ·rw [q,hT] at e;cases e
    ·rcases hc c z with q | q
     ·rw [q,hx] at hcc;cases hcc
     ·rw [q,hT] at hcc;cases hcc
   ·rcases hcc with rfl | hcc
    ·exact nfr _ _ e
    ·exact nfr _ _ hcc
 ·have q:b=x\/b=T:=by simpa using hb
  rcases q with rfl | rfl
  ·exact ⟨.inr nx,(λz=>by rw [z,I.free] at hx;cases hx),(λy c e z=>by subst z;rw [I.freeC y c e] at hx;cases hx),λp hp z=>by rw [<-z,(I.pin p hp).2.1] at hx;cases hx⟩
  ·exact ⟨.inr nT,lT,oT,pT⟩
theorem Inv.raised (I:Inv X pins σ H s){E:XK}{e:Value}(q:CX1 qx X.prog X.w X.stack H s E e s'):∃(x C:Addr) (dx:Option Addr) (T:Addr) (H':Hp),e = .ref x/\Inv X pins σ H' s'/\H' x=some (.ext (F2.XIs qx x C dx))/\s.heap.objs.size<=x/\s.heap.objs.size<=T/\T≠x/\H' T=none/\XRec qx s'.heap x C dx (.ref T)/\XTb s'.heap T/\E (.ref x) dx H':=by
 obtain ⟨x,C,dx,T,H',he,os,bare,un,hok,hx,nx,nT,ne,hT,r,tb,q⟩:=q;obtain ⟨hh,g,d,t,os'⟩:=s';obtain rfl:os'=s.os:=os;exact ⟨x,C,dx,T,H',he,I.call (h':=hh) (g':=g) (d':=d) (t':=t) (ch:=[]) un hok bare (λb z=>absurd z (by simp)),hx,nx,nT,ne,hT,r,tb,q⟩
theorem Inv.newT (I:Inv X pins σ H s)(h:s.heap.objs.size<=T):T≠X.env.locals/\(∀y c,X.env.cells.lookup y=some c->c≠T)/\∀p∈X.pn++pins,p.1≠T:=by
 have far:∀b o,s.heap.get? b=some o->b≠T:=λb o e z=>absurd (ue8 (um2 e) h) (by rw [z];exact ul2 _);refine ⟨λz=>absurd I.lt (by rw [<-z];exact Nat.not_lt.mpr h),λy c e=>?_,λp hp=>far _ _ (I.pin p hp).1⟩;obtain ⟨v,o,ho,_⟩:=I.cell y c e;exact far c o ho
end
section
variable {P:Program}{w:World}{K:PySem.W.Frag}{mg:Str->Option Value}{base:Heap}{N:List Str}{qual:Str}{scope:Scope}{f:Addr}{cd:Value}{A:Around}{outer:List Env}{s₀:Shared}{H₀:Hp}{E:XK}
end
end L2
namespace L2
open PySem PySem.Spec PyProof.Rows PySem.W
noncomputable def exO (x C tp:Addr):HO:=.ext λh=>h.get? x=some (excObj C tp)
noncomputable def FL (x C tp dx:Addr):HO:=.ext λh=>h.get? x=some { excObj C tp with dict:=some dx }
theorem Qf {P:Program}{w:World}{H:Hp}{h:Heap}{x C tp:Addr}(e:h.get? x=some (excObj C tp)):ObjOk P w H h x (exO x C tp):=⟨e,⟨_,e⟩,λ_ _ p k=>k _ p⟩
theorem U3 {P:Program}{w:World}{H:Hp}{h:Heap}{x C tp dx:Addr}(e:h.get? x=some { excObj C tp with dict:=some dx }):ObjOk P w H h x (FL x C tp dx):=⟨e,⟨_,e⟩,λ_ _ p k=>k _ p⟩
structure XAt (K:PySem.W.Frag)(C P:Addr)(f:Str):Prop where
 cl:XCl K C (.ref P :: VE)
 set:findIn K (.ref C) "__setattr__" = some (some (.builtin "object.__setattr__"))
 no:findIn K (.ref C) f=some none
theorem XCl.cls {K:PySem.W.Frag}{C:Addr}{bm:List Value}(c:XCl K C bm):∃cd,clsIn K C=some cd/\cd.mro = .ref C :: bm/\cd.hasDict=true:=by
 obtain ⟨cd,dd,k0,k1,k2,k3,k5,h1,h2,_,h4,_⟩:=c.ex;exact ⟨cd,by unfold clsIn;rw [h1],h2,h4⟩
def sXF (K:PySem.W.Frag)(P:Addr)(ta tv:TE)(f:Str):TS:=λD σ H=>tv σ H λy H1=>ta σ H1 λx H2=>∃a C tp,x = .ref a/\H2 a=some (exO a C tp)/\XAt K C P f/\
 ∀dx,H2 dx=none->dx≠a->D.nx σ (upd (upd H2 dx (.xd [(f,y)])) a (FL a C tp dx))
theorem UE {X:Cx}{P:Addr}{o value:Expr}{ta tv:TE}{f:Str}{pos' pos:Pos}(ha:PE X o ta)(hv:PE X value tv)(hs:swapsWith value (some (.Attribute o f pos')) pos.line X.env=pure false):PS X (.Assign [.Attribute o f pos'] value pos) (sXF X.K P ta tv f):=by
 intro pins s σ H D I h;refine plainObj_wpAny_Assign_Attribute (thn (hv pins s σ H _ I h) λu s1 ⟨y,H1,I1,ry,q⟩=>thn (ha pins s1 σ H1 _ I1 q) λov s2 z9=>?_) hs;obtain ⟨x,H2,I2,rx,a,C,tp,ex,ea,c,q2⟩:=z9;subst ex;obtain rfl:ov=Value.ref a:=rx;obtain ⟨cd,c1,c2,c3⟩:=c.cl.cls;have hx:s2.heap.get? a=some (excObj C tp):=(I2.hok a _ ea).1;refine WK I2.kIn hx c.set c1 c2 c3 c.no λh' k e n=>?_;have fr:=I2.hok.fresh (un5 s2.heap.objs.size);have ne:s2.heap.objs.size≠a:=(λz=>by rw [z,ea] at fr;cases fr)
 have nn:∀b u,H2 b=some u->b≠s2.heap.objs.size:=λb u z=>AO z fr;have na:∀b u,s2.heap.get? b=some u->H2 b=none->b≠a:=λb u _ z w'=>by rw [w',ea] at z;cases z
 refine ⟨σ,_,I2.un (h':=h') (t':=s2.toks + 2) ⟨λb u e1 e2 _ _=>k b u (na b u e1 e2) e1,λb u e1 e2 _ _=>⟨u.slots,k b u (na b u e1 e2) e1⟩,λb u e1 e2 _=>?_,λb u e1 _=>?_,λb xs e1=>?_,λb o' u e1=>?_,λb ps e1=>⟨#[],?_⟩⟩ λb u e1=>?_,q2 s2.heap.objs.size fr ne⟩
 ·rw [Ai (na b u e1 e2),Ai (um3 (um2 e1))];exact e2
 ·by_cases hb:b=a
  ·subst hb;exact ⟨_,e⟩
  ·exact ⟨_,k b u hb e1⟩
 ·rw [Ai (λz=>by rw [z,ea] at e1;cases e1),Ai (nn _ _ e1)];exact e1
 ·rw [Ai (λz=>by rw [z,ea] at e1;cases e1),Ai (nn _ _ e1)];exact e1
 ·rw [Ai (λz=>by rw [z,ea] at e1;cases e1),Ai (nn _ _ e1),e1];simp
 ·by_cases hb:b=a
  ·subst hb;rw [Ar] at e1;cases e1;exact U3 e
  ·rw [Ai hb] at e1
   by_cases hb2:b=s2.heap.objs.size
   ·subst hb2;rw [Ar] at e1;cases e1
    refine ⟨_,n,λg=>?_⟩
    by_cases hg:g=f
    ·subst hg;simp only [List.lookup,ui6,if_true];exact ry
    ·have hgb:(g == f)=false:=beq_eq_false_iff_ne.mpr hg;simp only [List.lookup,hgb,if_neg hg];trivial
   ·rw [Ai hb2] at e1;refine (I2.hok b u e1).stay (λz v hz q=>k z v ?_ q) (λz q=>?_) λz xs q=>?_
    ·rcases hz with rfl | hz
     ·exact hb
     ·intro w';rw [w',ea] at hz;cases hz
    ·rw [Ai (λz=>by rw [z,ea] at q;cases q),Ai (nn _ _ q)];exact q
    ·rw [Ai (λz=>by rw [z,ea] at q;cases q),Ai (nn _ _ q)];exact q
variable {qx:Bool}
theorem JF {K:PySem.W.Frag}{h:Heap}{N:Addr}{m:Str->Option Value}{n:Str}{v:Value}(X:K.In h)(G:h.Ns N m)(e:nsIn K N n=some (some v)):m n=some v:=by
 obtain ⟨o,es,ep,ho,hd,_,hf⟩:=G;unfold nsIn at e
 split at e
 ·next c d es' n' sl q=>
  have z:=X _ _ q;rw [ho] at z
  cases z
  cases hd
  split at e
  ·next en he=>
   rw [<-hf];unfold nsFind findBy;rw [<-uf1,he];simpa using e
  ·split at e <;> cases e
 ·cases e
structure XMk (K:PySem.W.Frag)(C P f:Addr):Prop where
 cl:XCl K C (.ref P :: VE)
 init:∃cd,clsIn K C=some cd/\nsIn K cd.ns "__init__" = some (some (.ref f))
 fn:isFn K (.ref f)=true
 kp:keepIn K (.ref C)=true
section
variable {X:Cx}{k:Nat}{f C P:Addr}{fd:FuncData}{pins:List (Addr×Obj)}{σ:St}{H:Hp}{s:Shared}{Q:Value->Shared->Prop}{us:List Value}{vs:List V}{a:Str}{ps:List Str}{v:V}{u:Value}
end
end L2
namespace L2
open PySem PySem.Spec PyProof.Rows PySem.W
variable {qx:Bool}
section
variable {M:Model}{A:Around}{E:Value->Shared->Prop}{K:PySem.W.Frag}{s:Shared}{x C C':Addr}{bm bm':List Value}{dx:Option Addr}{tb:Value}
theorem M1 {Q:Bool->Shared->Prop}(c:XCl K C bm)(c':XCl K C' bm')(X:K.In s.heap)(hx:XRec qx s.heap x C dx tb)(h:Q ((Value.ref C :: bm).contains (.ref C')) s):wpAny M A (excMatches (.ref x) (.ref C')) Q E s:=by
 obtain ⟨nm,q,N,bs,sn,sub,ab,col,dd,k0,k1,k2,k3,k5,hC,_⟩:=c.obj X;obtain ⟨nm',q',N',bs',sn',sub',ab',col',dd',k0',k1',k2',k3',k5',hC',_⟩:=c'.obj X;have hb:=c'.has X;obtain ⟨o,vs,ho,hc,hd,hdt,h1⟩:=hx;obtain ⟨hp,g,d,tk,os⟩:=s;have ty:(⟨hp,g,d,tk,os⟩:Shared).TypeIs (.ref C') "type":=⟨_,hC',rfl⟩;have nt:=tc_notTuple
 cases hbb:(Value.ref C :: bm).contains (.ref C') <;> (
  rw [hbb] at h;unfold excMatches
  repeat (first
   | (with_reducible refine wpAny_loadPart_at ho ?_;rw [hc])
   | with_reducible refine wpAny_loadPart_at hC' ?_
   | (with_reducible refine wpAny_isSubtype_exc hC' ?_;rw [hb])
   | (with_reducible refine wpAny_isSubtype_exc hC ?_;rw [hbb])
   | wp_step)
  exact h)
end
end L2
namespace L2
open PySem PySem.Spec PyProof.Rows PySem.W
variable {qx:Bool}
def Sf (h:Heap)(T:Addr)(fl:Value):Prop:=∃(o:Obj) (ts:Array Value),h.get? T=some o/\o.data = .fields ts/\ts[3]?=some fl
section
variable {M:Model}{A:Around}{E:Value->Shared->Prop}{s:Shared}{env:Env}{outer:List Env}{base:Heap}{L x C:Addr}{dx:Option Addr}{tb:Value}{Q:Unit->Shared->Prop}
theorem KQ {hadNext:Bool}{hd:Value}(hfr:A.frames=some (env :: outer))(hl:s.heap.FunFrames base (env :: outer))(hf:env.frame=some L)(hx:XRec qx s.heap x C dx tb)
 (h:∀h' T,s.heap.objs.size<=T->T≠x->XRec qx h' x C dx (.ref T)->Sf h' T (rawInt L)->XKeep (frs (env :: outer)) [x] s.heap h'->Q () { s with heap:=h' }) :
 wpAny M A (do let fo <-frameOf env;let at' <-entryPlaceOf L hadNext;let en <-EntryCells.newEntry hd fo .none (rawInt L) .none at';setField (.ref x) 1 en) Q E s:=by
 obtain ⟨ox,vs,gx,cx,dxe,dtx,tbx,xc⟩:=hx;have v1:1 < vs.size:=(ua8.mp tbx).1;have nfr:x∉frs (env :: outer):=λz=>by
  obtain ⟨_,o2,g2,n2⟩:=hl.mem z;rw [gx] at g2;cases g2
  exact n2 vs dtx
 refine un9 (wpAny_frameOf_fun hfr hl hf λh1 so=>?_);refine un9 (wpAny_entryPlaceOf λat' ip=>?_);unfold EntryCells.newEntry newFields;refine un9 (wpAny_newObj_type ?_ (ip.sizeOk5 _ _ _ _ _));generalize hne:(Obj.mk (Value.type "traceback") none (Data.fields ([hd,Value.ref L,Value.none,rawInt L,Value.none]++if at'.isEmpty=true then List.replicate 6 Value.none else at').toArray) #[])=nob;have dn:nob.data = .fields ([hd,Value.ref L,Value.none,rawInt L,Value.none]++if at'.isEmpty=true then List.replicate 6 Value.none else at').toArray:=by rw [<-hne]
 have gx1:h1.get? x=some ox:=(so.2.1 x nfr).trans gx;have gx2:(h1.push nob).get? x=some ox:=uc1 _ gx1;have nex:h1.objs.size≠x:=um6 (um2 gx1);refine wpAny_setField gx2 dtx v1 ?_;obtain ⟨m1,m2,m3⟩:=Fp dtx (·.setIfInBounds 1 (Value.ref h1.objs.size));have gx3:=ud3 (Obj.mapFields (·.setIfInBounds 1 (Value.ref h1.objs.size))) gx2 (Obj.isFreed_of_fields m1);have gT2:(h1.push nob).get? h1.objs.size=some nob:=ue1 h1 (Obj.isFreed_of_fields dn);have gT3:=(uc3 (h1.push nob) (Obj.mapFields (·.setIfInBounds 1 (Value.ref h1.objs.size))) (Ne.symm nex)).trans gT2;have vx:(vs.setIfInBounds 1 (Value.ref h1.objs.size))[1]?=some (.ref h1.objs.size):=by simp [v1]
 have old:∀b o,b≠x->h1.get? b=some o->((h1.push nob).update x (Obj.mapFields (·.setIfInBounds 1 (Value.ref h1.objs.size)))).get? b=some o:=λb o hb e=>by
  rw [uc3 _ _ (Ne.symm hb)];exact uc1 _ e
 refine h _ h1.objs.size (um7 so.1.symm) nex ⟨_,_,gx3,m2.trans cx,m3.trans dxe,m1,vx,Xs xc⟩ ⟨_,_,gT3,dn,?_⟩ ⟨λb o hb hbf e=>old b o (λz=>hb (by simp [z])) ((so.2.1 b hbf).trans e),λb o hb e=>?_⟩
 ·rw [List.getElem?_toArray];rfl
 ·obtain ⟨sl,e1⟩:=so.2.2 b o e;exact ⟨sl,old b _ (λz=>hb (by simp [z])) e1⟩
end
structure XOn (qx:Bool)(X:Cx)(pins:List (Addr×Obj))(H:Hp)(s:Shared)(x C:Addr)(dx:Option Addr)(T:Option Addr)(fl:Value):Prop where
 hx:H x=some (.ext (F2.XIs qx x C dx))
 nx:X.s₀.heap.objs.size<=x
 rc:XRec qx s.heap x C dx (match T with | some a=>.ref a | none=>.none)
 tb:∀a,T=some a->a≠x/\H a=none/\X.s₀.heap.objs.size<=a/\(a≠X.env.locals/\(∀y c,X.env.cells.lookup y=some c->c≠a)/\∀p∈X.pn++pins,p.1≠a)/\Sf s.heap a fl
 fo:fl = .none\/fl=rawInt X.env.locals
section
variable {M:Model}{A:Around}{Er:Value->Shared->Prop}{X:Cx}{pins:List (Addr×Obj)}{σ:St}{H:Hp}{s:Shared}{x C:Addr}{dx T:Option Addr}{fl:Value}{Q:Unit->Shared->Prop}
theorem ED (fr:Option Addr)(I:Inv X pins σ H s){a:Addr}(o:XOn qx X pins H s x C dx (some a) fl)(hfr:fr=none\/fr=some X.env.locals)
 (k:∀h',Inv X pins σ H { s with heap:=h' }->XOn qx X pins H { s with heap:=h' } x C dx (some a) (fr.elim Value.none λf=>rawInt f)->Q () { s with heap:=h' }):wpAny M A (setFlight (.ref x) fr) Q Er s:=by
 obtain ⟨ox,vs,gx,cx,dxe,dtx,tbx,xc⟩:=id o.rc;obtain ⟨ne,hT,nT,oT,ot,ts,gT,dT,t3⟩:=o.tb a rfl;unfold setFlight;refine un9 (un8 gx dtx tbx ?_);rw [if_pos (show (Value.ref a != Value.none)=true from rfl)];refine wpAny_setField gT dT (ua8.mp t3).1 ?_;obtain ⟨m1,m2,m3⟩:=Fp dT (·.setIfInBounds 3 (fr.elim Value.none λf=>rawInt f));have gT2:=ud3 (Obj.mapFields (·.setIfInBounds 3 (fr.elim Value.none λf=>rawInt f))) gT (Obj.isFreed_of_fields m1);have oth:∀b,b≠a->(s.heap.update a (Obj.mapFields (·.setIfInBounds 3 (fr.elim Value.none λf=>rawInt f)))).get? b=s.heap.get? b:=λb z=>uc3 _ _ (Ne.symm z);have rc':XRec qx (s.heap.update a (Obj.mapFields (·.setIfInBounds 3 (fr.elim Value.none λf=>rawInt f)))) x C dx (.ref a):=⟨ox,vs,(oth x (Ne.symm ne)).trans gx,cx,dxe,dtx,tbx,xc⟩;refine k _ (I.left o.hx hT o.nx nT (ch:=[a]) ⟨λb u hb _ e=>(oth b (by simpa using hb)).trans e,λb u hb e=>⟨u.slots,(oth b (by simpa using hb)).trans e⟩⟩ (λb hb=>.inr (by simpa using hb)) rc'.is oT.2.1 oT.1 oT.2.2) ⟨o.hx,o.nx,rc',λa' e=>?_,?_⟩
 ·cases e
  exact ⟨ne,hT,nT,oT,_,_,gT2,m1,by rw [Array.getElem?_setIfInBounds_self,if_pos (ua8.mp t3).1]⟩
 ·rcases hfr with rfl | rfl
  ·exact .inl rfl
  ·exact .inr rfl
theorem Fs (hA:A.frames=some X.stack)(I:Inv X pins σ H s)(hs:X.stack=X.env :: X.outer)(hf:X.env.frame=some X.env.locals)(o:XOn qx X pins H s x C dx T fl)
 (k:∀h' a,Inv X pins σ H { s with heap:=h' }->XOn qx X pins H { s with heap:=h' } x C dx (some a) (rawInt X.env.locals)->Q () { s with heap:=h' }):wpAny M A (noteFrame (.ref x) X.env) Q Er s:=by
 obtain ⟨ox,vs,gx,cx,dxe,dtx,tbx,xc⟩:=id o.rc;have fin:∀(s1:Shared) (hh:∃h1,s1 = { s with heap:=h1 }) (ch:List Addr) (h':Heap) (a:Addr),Inv X pins σ H s1->s1.heap.objs.size<=a->a≠x->XRec qx h' x C dx (.ref a)->Sf h' a (rawInt X.env.locals)->XKeep (frs (X.env :: X.outer)) [x] s1.heap h'->Q () { s1 with heap:=h' }:=by
  rintro s1 ⟨h1,rfl⟩ ch h' a I1 l1 l2 l3 l4 l5;obtain ⟨o1,o2,o3⟩:=I1.newT l1;have J:=I1.left o.hx (I1.hok.fresh l1) o.nx (um4 I1.sz l1) (ch:=[x]) (hs ▸ l5) (λb hb=>.inl (by simpa using hb)) l3.is o2 o1 o3;exact k h' a J ⟨o.hx,o.nx,l3,λa' e=>by cases e;exact ⟨l2,I1.hok.fresh l1,um4 I1.sz l1,⟨o1,o2,o3⟩,l4⟩,.inr rfl⟩
 unfold noteFrame;simp only [hf];refine un9 (un8 gx dtx tbx ?_)
 cases T with
 | none=>
   rw [if_neg (by decide)];exact KQ (hA.trans (congrArg some hs)) (hs ▸ I.stack) hf o.rc λh' a l1 l2 l3 l4 l5=>fin s ⟨s.heap,rfl⟩ [] h' a I l1 l2 l3 l4 l5
 | some T₀=>
   obtain ⟨ne,hT,nT,oT,ot,ts,gT,dT,t3⟩:=o.tb T₀ rfl;rw [if_pos (show (Value.ref T₀ != Value.none)=true from rfl)];refine un9 (un8 gT dT t3 ?_);rcases o.fo with rfl | rfl
   ·rw [if_neg (show ¬((Value.none == rawInt X.env.locals)=true) from by simp [rawInt])];refine un9 (wpAny_setField gT dT (ua8.mp t3).1 ?_);have oth:∀b,b≠T₀->(s.heap.update T₀ (Obj.mapFields (·.setIfInBounds 3 Value.none))).get? b=s.heap.get? b:=λb z=>uc3 _ _ (Ne.symm z);have rc':XRec qx (s.heap.update T₀ (Obj.mapFields (·.setIfInBounds 3 Value.none))) x C dx (.ref T₀):=⟨ox,vs,(oth x (Ne.symm ne)).trans gx,cx,dxe,dtx,tbx,xc⟩;have J:=I.left o.hx hT o.nx nT (ch:=[T₀]) ⟨λb u hb _ e=>(oth b (by simpa using hb)).trans e,λb u hb e=>⟨u.slots,(oth b (by simpa using hb)).trans e⟩⟩ (λb hb=>.inr (by simpa using hb)) rc'.is oT.2.1 oT.1 oT.2.2;exact KQ (s:={ s with heap:=s.heap.update T₀ (Obj.mapFields (·.setIfInBounds 3 Value.none)) }) (hA.trans (congrArg some hs)) (hs ▸ J.stack) hf rc' λh' a l1 l2 l3 l4 l5=>fin _ ⟨_,rfl⟩ [] h' a J l1 l2 l3 l4 l5
   ·rw [if_pos (show (rawInt X.env.locals == rawInt X.env.locals)=true from by first | (simp;done) | exact ui6 _)];exact uo0 (k s.heap T₀ I ⟨o.hx,o.nx,o.rc,o.tb,.inr rfl⟩)
end
def XE (qx:Bool)(X:Cx)(E:St->XK):Value->Shared->Prop:=λe s=>∃pins σ H x C dx T fl,e = .ref x/\Inv X pins σ H s/\XOn qx X pins H s x C dx T fl/\E σ (.ref x) dx H
def Cj (CX:CXT)(X:Cx)(E:St->XK):Prop:=∀(pins:List (Addr×Obj)) (σ:St) (H:Hp) (s:Shared) (e:Value) (s':Shared),Inv X pins σ H s->CX X.stack H s (E σ) e s'->X.xe e s'
section
variable {M:Model}{X:Cx}{E:St->XK}
theorem XE.own (hs:X.stack=X.env :: X.outer)(hf:X.env.frame=some X.env.locals):PassesOwn M X.A X.env (XE qx X E):=by
 rintro e s ⟨pins,σ,H,x,C,dx,T,fl,rfl,I,o,q⟩;refine Fs I.ok.frames I hs hf o λh' a I' o'=>?_;obtain ⟨ox,vs,gx,cx,dxe,dtx,tbx,xc⟩:=id o'.rc;unfold cameBackBy;refine un9 (un8 gx dtx tbx ?_);rw [if_neg (show ¬((Value.ref a == Value.none)=true) from by intro z;cases z)]
 rw [hf];exact ED _ I' o' (.inr rfl) λh'' I'' o''=>⟨pins,σ,H,x,C,dx,some a,_,rfl,I'',o'',q⟩
theorem XE.pass:Cj (CX1 qx X.prog X.w) (X.wish (XE qx X E)) E:=by
 intro pins σ H s e s' I q;obtain ⟨x,C,dx,T,H',rfl,J,hx,nx,nT,ne,hT,r,tb,q⟩:=I.unwish.raised q;exact ⟨pins,σ,H',x,C,dx,some T,.none,rfl,J,⟨hx,um4 I.sz nx,r,λa e=>by cases e;exact ⟨ne,hT,um4 I.sz nT,I.unwish.newT nT,tb⟩,.inl rfl⟩,q⟩
end
section
variable {P:Program}{w:World}{K:PySem.W.Frag}{mg:Str->Option Value}{base:Heap}
abbrev cxX (qx:Bool)(P:Program)(w:World)(K:PySem.W.Frag)(mg:Str->Option Value)(base:Heap)(N:List Str)(qual:Str)(scope:Scope)(f:Addr)(cd:Value)(A:Around)(outer:List Env)(s:Shared)(H:Hp)(E:XK):Cx:=
 (Dh (CX1 qx P w) P w K mg base N qual scope f cd A outer s H E).wish (XE qx (Dh (CX1 qx P w) P w K mg base N qual scope f cd A outer s H E) λ_=>E)
theorem XE.leaves {N:List Str}{qual:Str}{scope:Scope}{f:Addr}{cd:Value}{A:Around}{outer:List Env}{s₀:Shared}{H₀:Hp}{E:XK}{e:Value}{s:Shared}
 (h:XE qx (Dh (CX1 qx P w) P w K mg base N qual scope f cd A outer s₀ H₀ E) (λ_=>E) e s):(Dh (CX1 qx P w) P w K mg base N qual scope f cd A outer s₀ H₀ E).xe e s:=by
 obtain ⟨pins,σ,H,x,C,dx,T,fl,rfl,I,o,q⟩:=h;refine un9 (Fs I.ok.frames I rfl rfl o λh' a I' o'=>?_);refine ED none I' o' (.inl rfl) λh'' I'' o''=>?_;obtain ⟨ne,hT,nT,oT,tb⟩:=o''.tb a rfl;exact ⟨x,C,dx,a,H,rfl,I''.os,I''.bare,I''.base,I''.hok,o''.hx,o''.nx,nT,ne,hT,o''.rc,tb,q⟩
theorem Fun.okX {x qual:Str}{st:Stmt}{f:Addr}{fd:FuncData}{N ps:List Str}{k:Nat}{sp:Sp}(F:Fun K x qual st f fd)(S:FnScope N ps (As st))(len:∀vs H Q E,sp vs H Q E->vs.length=ps.length)
 (hbody:∀(cdv:Value) (A:Around) (outer:List Env) (s:Shared) (H:Hp) (vs:List V) (Q:VK) (E:XK),Room k (A.deeper (envOfC qual (As st) s.heap.objs.size f cdv))->sp vs H Q E->
   ∃t,PSs (cxX qx P w K mg base N qual (As st) f cdv A outer s H E) (Bt st) t/\t { nx:=λ_ H'=>Q .non H',rt:=Q } (start N vs) H):FnOk P w K mg base (CX1 qx P w) (k + 1) f fd ps sp:=by
 obtain ⟨oc,od,kV,doc,pm,an,cdv,ct,osl,rfl,lk,hcd⟩:=F.ex;refine UA lk hcd S len λA outer s H vs Q E hr hsp=>?_;obtain ⟨t,h,q⟩:=hbody cdv A outer s H vs Q E hr hsp;exact ⟨t,λpins s1 σ H1 D I hw=>uo1 (h pins s1 σ H1 D (I.wish _) hw) (λ_ _ q=>q.unwish) λ_ _ z=>z.leaves,q⟩
theorem FnOk.calm {k:Nat}{f:Addr}{fd:FuncData}{ps:List Str}{sp sp':Sp}(F:FnOk P w K mg base (CX1 qx P w) k f fd ps sp)(h:∀vs H Q E,sp' vs H Q E->sp vs H Q E0):FnOk P w K mg base CX0 k f fd ps sp':=by
 refine ⟨λvs H Q E q=>F.len vs H Q E0 (h _ _ _ _ q),λA outer s H args us vs Q E hr he hb hv hs=>codeAny_mono (F.run A outer s H args us vs Q E0 hr he hb hv (h _ _ _ _ hs)) λr s' q=>?_⟩
 cases r with
 | error e=>obtain ⟨_,_,_,_,_,_,_,_,_,_,_,_,_,_,_,_,_,z⟩:=q;exact z.elim
 | ok fl=>cases fl <;> exact q
end
section
variable {X:Cx}{CX:CXT}{k:Nat}{f:Addr}{fd:FuncData}{ps:List Str}{sp:Sp}{E:St->XK}{x:Str}{p pos:Pos}{e:Expr}{es:List Expr}{t:TA}
def RL (sp:Sp)(E:St->XK)(t:TA):TE:=λσ H Q=>t σ H λvs H1=>sp vs H1 Q (E σ)
theorem Tx (F:FnOk X.prog X.w X.K X.mg X.base CX k f fd ps sp)(hr:Room k X.A)(hg:Gl X x)(hm:X.mg x=some (.ref f))(hk:PySem.W.keepIn X.K (.ref f)=true)(hb:Binds X.K fd ps [])(hx:Cj CX X E)
 (ha:PA X (e :: es) t) (hdb:(x == ("__debug__" : Str))=false:=by decide) (he:starEach (e :: es) X.env=(false,eval e X.env) :: starEach es X.env:=by rfl) (hpl:(backTo pos (starEach es X.env)).any (·.1)=false:=by rfl) :
 PE X (.Call (.Name x p) (e :: es) [] pos) (RL sp E t):=by
 intro pins s σ H Q I h;refine wpAny_Call_Name_kw (CF I hg hm ?_ hdb);refine uf2 (h₀:=X.base) I.ok.mod.kin hk (thn (ha pos pins s σ H _ I h) λus s1 z9=>?_) he hpl;obtain ⟨vs,H1,I1,r,q⟩:=z9;refine ⟨I1.kIn,?_⟩;have hl:(us++[]).length=ps.length:=by rw [uj2,<-r.length];exact F.len _ _ _ _ q
 refine wpAny_call (codeAny_mono (F.run X.A X.stack s1 H1 ⟨us,[]⟩ us vs Q (E σ) hr I1.env0 (by have:=hb s1 us I1.kIn hl;rwa [uj2] at this) r q) λr s' hq=>?_)
 cases r with
 | error e=>exact hx pins σ H1 s1 e s' I1 hq
 | ok fl=>
   cases fl with
   | ret u=>exact I1.after hq
   | next=>exact False.elim hq
   | brk=>exact False.elim hq
   | cont=>exact False.elim hq
end
end L2
namespace L2
open PySem PySem.Spec PyProof.Rows PySem.W
variable {qx:Bool}
def PM (qx:Bool)(X:Cx)(e:Expr)(C:Addr)(t:St->Hp->(Addr->Option Addr->Hp->Prop)->Prop):Prop:=
 ∀(pins:List (Addr×Obj)) (s:Shared) (σ:St) (H:Hp) (Q:Addr->Option Addr->Hp->Prop),Inv X pins σ H s->t σ H Q->
  wpAny (model X.prog X.w) X.A (eval e X.env) (λv s1=>∃x dx H1,v = .ref x/\Inv X pins σ H1 s1/\H1 x=some (.ext (F2.XIs qx x C dx))/\X.s₀.heap.objs.size<=x/\XRec true s1.heap x C dx .none/\Q x dx H1) X.xe s
def FY (qx:Bool)(X:Cx)(E:St->XK):Prop:=∀(pins:List (Addr×Obj)) (σ:St) (H:Hp) (s:Shared) (x C:Addr) (dx:Option Addr),Inv X pins σ H s->XOn qx X pins H s x C dx none .none->E σ (.ref x) dx H->X.xe (.ref x) s
theorem XE.raises {X:Cx}{E:St->XK}:FY qx (X.wish (XE qx X E)) E:=λpins σ H s x C dx I o q=>⟨pins,σ,H,x,C,dx,none,.none,rfl,I.unwish,⟨o.hx,o.nx,o.rc,o.tb,o.fo⟩,q⟩
theorem Nj {X:Cx}{e:Expr}{C:Addr}{bm:List Value}{t:St->Hp->(Addr->Option Addr->Hp->Prop)->Prop}{E:St->XK}{pos:Pos}(hc:X.calm=true)(c:XCl X.K C bm)(hx:FY qx X E)(h:PM qx X e C t)
 (ho:evalOpt (some e) X.env=some (eval e X.env):=by rfl):PS X (.Raise (some e) none pos) (λ_ σ H=>t σ H λx dx H1=>E σ (.ref x) dx H1):=by
 intro pins s σ H D I q;rw [arm_exec_Raise,ho];refine un9 (wpAny_standAt ?_);refine TV (qx:=true) c (I.ok.hd hc) ?_;refine un9 (uo1 (h pins s σ H _ I q) (λv s1 z9=>?_) λ_ _ z=>z);obtain ⟨x,dx,H1,e1,I1,hx1,nx,r,q1⟩:=z9;subst e1;refine un9 (wpAny_standAt (uo0 ⟨x,dx,rfl,I1.kIn,r,hx pins σ H1 s1 x C dx I1 ⟨hx1,nx,r.to,(λa e=>by cases e),.inl rfl⟩ q1⟩))
theorem Pd {K:PySem.W.Frag}{h:Heap}{N:Addr}{m:Str->Option Value}{n:Str}(X:K.In h)(G:h.Ns N m)(e:nsIn K N n=some none):m n=none:=by
 obtain ⟨o,es,ep,ho,hd,_,hf⟩:=G;unfold nsIn at e
 split at e
 ·next c d es' n' sl q=>
  have z:=X _ _ q;rw [ho] at z
  cases z
  cases hd
  split at e
  ·cases e
  ·next he=>rw [<-hf];unfold nsFind findBy;rw [<-uf1,he];rfl
 ·cases e
section
variable {prog:Program}{w:World}{A:Around}{E:Value->Shared->Prop}{h:Heap}{g:Array GenState}{d:Drawn}{t:Nat}{os:OsState}{Q:Value->Shared->Prop}
variable {nm q:Str}{C N:Addr}{bs bm bmB:List Value}{hdct:Bool}{sn:List Str}{sub:List Value}{ab:Bool}{col:Option Bool}{dd:Option Addr}{k0 k1 k2 k3 k5:Option Value}{B newId initId:String}{mN:Str->Option Value}
theorem QW (F:ExcBaseFacts B newId initId bmB)(T:OwnTail h bmB bm){us:List Value}(hC:h.get? C=some (excClassObj nm q C N bs bm hdct sn sub ab col dd k0 k1 k2 k3 k5 newId))(hn:h.Ns N mN)(hni:mN "__init__" = none)(hus:us.length<=sizeLine)
 (hq:∀h' tp,(∀b o,h.get? b=some o->h'.get? b=some o)->h'.get? (h.objs.size + 1)=some (excObj C tp)->Q (.ref (h.objs.size + 1)) ⟨h',g,d,t,os⟩) :
 wpAny (model prog w) A (call (.ref C) us) Q E ⟨h,g,d,t,os⟩:=by
 have c1:=tc_lookup;have c2:=tc_bind (.ref C);have ty:(⟨h,g,d,t,os⟩:Shared).TypeIs (.ref C) "type":=⟨_,hC,rfl⟩;refine wpAny_call (codeAny_of_tree ?_);show wpAny _ _ (callAny (.ref C) _) _ _ _
 repeat (any_goals (first
  | assumption
  | with_reducible refine wpAny_loadPart_at hC ?_
  | wp_step))
 refine ⟨rfl,codeAny_call_builtin_at (Code.quiet_builtin _ (by decide +kernel)) entry_typeCall (wpAny_check_type_call_sub hC ?_)⟩
 repeat (first
  | with_reducible refine wpAny_loadPart_at hC ?_
  | with_reducible refine wpAny_madeBy_exc hC ?_
  | wp_step)
 refine codeAny_call_builtin_code (Code.quiet_builtin _ F.quiet) (wpAny_check_new_subT F T hC (codeAny_exc_new_subT F T hC ?_ hus))
 change wpAny _ _ _ _ _ (Shared.mk (DJ h C us) g d t os)
 have kp:∀b o,h.get? b=some o->(DJ h C us).get? b=some o:=λb o e=>uc1 _ (uc1 _ e);have he:(DJ h C us).get? (h.objs.size + 1)=some { cls:=.ref C,data:=.fields #[.ref h.objs.size,.none,.none,.none,.bool false,.none] }:=by heap_get
 have n1:(DJ h C us).Ns N mN:=hn.keeps kp;have cC:(Value.ref C :: bm).contains (.ref C)=true:=by simp
 unfold isInstance
 repeat (first
  | with_reducible refine wpAny_loadPart_at he ?_
  | (with_reducible refine wpAny_isSubtype_exc (kp _ _ hC) ?_;rw [cC])
  | wp_step)
 show wpAny _ _ (typeLookup (.ref C) _) _ _ _;refine wpAny_typeLookup_tail (kp _ _ hC) n1 (T.keeps kp) F.mroIs F.init.lookup ?_;rw [hni];refine um1 (un9 (wpAny_of_eq (F.init.bind _) (un9 (wpAny_call (codeAny_call_builtin F.init.plain F.initEntry (wpAny_check_init_subT F (T.keeps kp) (kp _ _ hC) he rfl ?_))))))
 wp_walk
 refine hq _ ((DJ h C us).objs.size) (λb o hb=>?_) ?_
 ·rw [uc3 _ _ (um6 (Nat.lt_succ_of_lt (um2 hb)))];exact uc1 _ (kp b o hb)
 ·rw [ud3 _ (uc1 _ he) rfl];rfl
end
section
variable {X:Cx}{k:Nat}{f C P:Addr}{fd:FuncData}{a:Str}{ps:List Str}{n:Str}{p pos:Pos}{e:Expr}{es:List Expr}
theorem V8 {t:TA}{bm:List Value}{cd:ClassData}(c:XCl X.K C bm)(hk:keepIn X.K (.ref C)=true)(hcd:clsIn X.K C=some cd)(hni:nsIn X.K cd.ns "__init__" = some none)(hg:Gl X n)(hm:X.mg n=some (.ref C))(ha:PA X (e :: es) t)
 (hdb:(n == ("__debug__" : Str))=false:=by decide) (h1:starEach (e :: es) X.env=(false,eval e X.env) :: starEach es X.env:=by rfl) (hpl:(backTo pos (starEach es X.env)).any (·.1)=false:=by rfl) :
 PM qx X (.Call (.Name n p) (e :: es) [] pos) C (λσ H Q=>t σ H λvs H1=>vs.length<=1000/\∀x,H1 x=none->Q x none (upd H1 x (.ext (F2.XIs qx x C none)))):=by
 intro pins s σ H Q I h;refine wpAny_Call_Name_kw (CF I hg hm ?_ hdb);refine uf2 (h₀:=X.base) I.ok.mod.kin hk (thn (ha pos pins s σ H _ I h) λus s1 z9=>?_) h1 hpl;obtain ⟨vs,H1,I1,r,hl,q⟩:=z9;refine ⟨I1.kIn,?_⟩;obtain ⟨nm,q',N,bs,sn,sub,ab,col,dd,k0,k1,k2,k3,k5,hC,hN⟩:=c.obj I1.kIn;have hni':s1.heap.nsMap N "__init__" = none:=by
  unfold clsIn at hcd
  split at hcd
  ·next l=>
   cases hcd
   have z:=I1.kIn _ _ l;rw [hC] at z
   cases z
   exact Pd I1.kIn hN hni
  ·cases hcd
 obtain ⟨hh,g,d,tk,os⟩:=s1;refine QW ua9 (c.tail I1.kIn) hC hN hni' (by show us.length<=sizeLine;rw [<-r.length];exact um4 hl (by decide)) λh' tp kp ht=>?_;have xr:XRec true h' (hh.objs.size + 1) C none .none:=⟨_,_,ht,rfl,rfl,rfl,rfl,λ_=>⟨rfl,by show 4 < 6;decide⟩⟩;exact ⟨_,none,_,rfl,I1.laid (h':=h') (t':=tk) kp (un7 _) (Jp xr.to.is),Ar,um4 I1.sz (un7 _),xr,q _ (I1.hok.fresh (un7 _))⟩
end
end L2
namespace L2
open PySem PySem.Spec PyProof.Rows PySem.W
variable {qx:Bool}
abbrev Cx.mark (X:Cx)(x:Addr):Cx:={ X with A:=X.A.mark (some (.ref x)),calm:=false,xe:=λ_ _=>False }
section
variable {X:Cx}{pins:List (Addr×Obj)}{σ:St}{H:Hp}{s:Shared}{D:Ends}
theorem Inv.mark (I:Inv X pins σ H s)(x:Addr):Inv (X.mark x) pins σ H s:=
 ⟨⟨I.ok.mod,I.ok.kind,I.ok.glob,I.ok.blt,I.ok.above,I.ok.inj,I.ok.has,I.ok.cab,(λz=>by cases z),I.ok.frames,I.ok.stk,I.ok.exf,I.ok.bs,I.ok.bsz,I.ok.noex,I.ok.exfs,I.ok.funs,I.ok.frf⟩,I.os,I.bare,I.base,I.loc,I.cell,I.free,I.freeC,I.pin,I.hok,I.len⟩
theorem Inv.unmark {x:Addr}(J:X.Ok)(I:Inv (X.mark x) pins σ H s):Inv X pins σ H s:=⟨J,I.os,I.bare,I.base,I.loc,I.cell,I.free,I.freeC,I.pin,I.hok,I.len⟩
theorem Inv.repin {pn' pins':List (Addr×Obj)}{xe:Value->Shared->Prop}(I:Inv X pins σ H s)(h:∀p∈pn'++pins',p∈X.pn++pins):Inv { X with pn:=pn',xe:=xe } pins' σ H s:=
 ⟨⟨I.ok.mod,I.ok.kind,I.ok.glob,I.ok.blt,I.ok.above,I.ok.inj,I.ok.has,I.ok.cab,I.ok.hd,I.ok.frames,I.ok.stk,I.ok.exf,I.ok.bs,I.ok.bsz,I.ok.noex,I.ok.exfs,I.ok.funs,I.ok.frf⟩,I.os,I.bare,I.base,I.loc,I.cell,I.free,I.freeC,λp hp=>I.pin p (h p hp),I.hok,I.len⟩
theorem SP.unmark {x:Addr}(J:X.Ok){f:Flow}(h:SP (X.mark x) pins D f s):SP X pins D f s:=by
 cases f with
 | next=>obtain ⟨σ',H',I,q⟩:=h;exact ⟨σ',H',I.unmark J,q⟩
 | brk=>obtain ⟨σ',H',I,q⟩:=h;exact ⟨σ',H',I.unmark J,q⟩
 | cont=>obtain ⟨σ',H',I,q⟩:=h;exact ⟨σ',H',I.unmark J,q⟩
 | ret u=>obtain ⟨v,σ',H',I,r,q⟩:=h;exact ⟨v,σ',H',I.unmark J,r,q⟩
end
def PH (qx:Bool)(X:Cx)(hs:List ExceptHandler)(th:Addr->Addr->Option Addr->TS):Prop:=∀(pins:List (Addr×Obj)) (s:Shared) (σ:St) (H:Hp) (x C:Addr) (dx:Option Addr) (T:Addr) (D:Ends),Inv X pins σ H s->XOn qx X pins H s x C dx (some T) .none->th x C dx D σ H->
 wpAny (model X.prog X.w) X.A (handleBy (.ref x) X.env hs) (SP X pins D) X.xe s
section
variable {X:Cx}{n v:Str}{C':Addr}{bm':List Value}{p pos:Pos}{b₀:Stmt}{suite:List Stmt}{rest:List ExceptHandler}{ts:Addr->TS}{tr:Addr->Addr->Option Addr->TS}{i:Nat}
def bJ (K:PySem.W.Frag)(C':Addr)(ts:TS)(tr:Addr->Addr->Option Addr->TS):Addr->Addr->Option Addr->TS:=λx C dx D σ H=>∃bm,XCl K C bm/\
 if (Value.ref C :: bm).contains (.ref C')=true then ts D σ H else tr x C dx D σ H
theorem ZU {ts:TS}(hg:Gl X n)(hm:X.mg n=some (.ref C'))(c':XCl X.K C' bm')(hb:∀x,PSs (X.mark x) (b₀ :: suite) ts)(hr:PH qx X rest tr)
 (hdb:(n == ("__debug__" : Str))=false:=by decide):PH qx X (.ExceptHandler (some (.Name n p)) none (b₀ :: suite) pos :: rest) (bJ X.K C' ts tr):=by
 intro pins s σ H x C dx T D I o ⟨bm,c,q⟩;have Im:=I.mark x;refine wpAny_handleBy_cons (codeAny_handlers_test (CF Im hg hm ?_ hdb)) (by intro z;cases z)
 refine M1 c c' I.kIn o.rc ?_
 cases hc:(Value.ref C :: bm).contains (.ref C') with
 | false=>
   rw [hc,if_neg (by decide)] at q;exact hr pins s σ H x C dx T D I o q
 | true=>
   rw [hc,if_pos rfl] at q;refine codeAny_handlers_suite ?_;refine ED none I o (.inl rfl) λh1 I1 o1=>?_;exact uo1 (hb x pins _ _ H _ (I1.mark x) q) (λf s3 z=>z.unmark I.ok) λ_ _ z=>z.elim
theorem YG {body:List Stmt}{h₀:ExceptHandler}{hs:List ExceptHandler}{tb:(St->XK)->TS}{th:Addr->Addr->Option Addr->TS}(h1:X.stack=X.env :: X.outer)(h2:X.env.frame=some X.env.locals)
 (hb:∀(pn:List (Addr×Obj)) (E:St->XK),PSs { X with pn:=pn,xe:=XE qx { X with pn:=pn } E } body (tb E)) (hh:PH qx X (h₀ :: hs) th) :
 PS X (.Try body (h₀ :: hs) [] [] pos) (λD σ H=>tb (λσ' v dx H'=>∀x C,v = .ref x->H' x=some (.ext (F2.XIs qx x C dx))->(∃h,F2.XIs qx x C dx h)->th x C dx D σ' H') D σ H):=by
 intro pins s σ H D I q;refine wpAny_Try_except ?_;refine uo1 (hb (X.pn++pins) _ [] s σ H D (I.repin λp hp=>by simpa using hp) q) (λf s1 z=>?_) λe s1 z=>?_
 ·have back:∀{σ':St} {H':Hp},Inv { X with pn:=X.pn++pins,xe:=XE qx { X with pn:=X.pn++pins } (λσ' v dx H'=>∀x C,v = .ref x->H' x=some (.ext (F2.XIs qx x C dx))->(∃h,F2.XIs qx x C dx h)->th x C dx D σ' H') } [] σ' H' s1->Inv X pins σ' H' s1:=λJ=>J.repin (X:={ X with pn:=X.pn++pins,xe:=_ }) (pn':=X.pn) (pins':=pins) (xe:=X.xe) λp hp=>by simpa using hp
  cases f with
  | next=>obtain ⟨σ',H',J,q'⟩:=z;exact wpAny_execs_nil ⟨σ',H',back J,q'⟩
  | brk=>obtain ⟨σ',H',J,q'⟩:=z;exact ⟨σ',H',back J,q'⟩
  | cont=>obtain ⟨σ',H',J,q'⟩:=z;exact ⟨σ',H',back J,q'⟩
  | ret u=>obtain ⟨w,σ',H',J,r,q'⟩:=z;exact ⟨w,σ',H',back J,r,q'⟩
 ·obtain ⟨pins',σ',H',x,C,dx,T,fl,rfl,J,o,q'⟩:=z;have J1:Inv X pins σ' H' s1:=J.repin (X:={ X with pn:=X.pn++pins }) (pn':=X.pn) (pins':=pins) (xe:=X.xe) λp hp=>by
   simp only [ui8] at hp ⊢;exact .inl hp
  have o1:XOn qx X pins H' s1 x C dx T fl:=⟨o.hx,o.nx,o.rc,λa e=>by
   obtain ⟨z1,z2,z3,⟨y1,y2,y3⟩,z5⟩:=o.tb a e;exact ⟨z1,z2,z3,⟨y1,y2,λp hp=>y3 p (by simp only [ui8] at hp ⊢;exact .inl hp)⟩,z5⟩,o.fo⟩
  refine Fs J1.ok.frames J1 h1 h2 o1 λh' a I' o'=>ED none I' o' (.inl rfl) λh'' I'' o''=>?_;exact hh pins _ σ' H' x C dx a D I'' o'' (q' x C rfl o.hx ⟨_,o.rc.is⟩)
end
end L2
namespace F2
open PySem L2 PySem.Spec
variable {qx:Bool}
noncomputable def A9:D->Bool
 | .exc _ _=>true
 | _=>false
def exE (E:XK)(v:V)(H:Hp):Prop:=∀x dx,v = .ref x->E (.ref x) dx H
section
variable (K:PySem.W.Frag)
inductive RX (E:L2.St->XK)(f:M D)(σ:L2.St)(H:Hp)(Q:VK):Prop where
 | mk (Oo:Addr->Prop) (c:Cf) (t:T) (fi:FInv K Oo c t σ H) (r:D) (t':T) (e:f t=some (r,t')) (k:∀v H' c',FInv K Oo c' t' σ H'->Stp Oo c H c' H'->Rep K c' H' v r->if A9 r=true then exE (E σ) v H' else Q v H'):RX E f σ H Q
def μX (E:XK):Cf->Hp->D->(V->Hp->Prop)->Prop:=λc H r rt=>∀v,Rep K c H v r->if A9 r=true then exE E v H else rt v H
inductive RSX (E:L2.St->XK)(f:M Out)(D:Ends)(σ:L2.St)(H:Hp):Prop where
 | mk (Oo:Addr->Prop) (c:Cf) (t:T) (fi:FInv K Oo c t σ H) (o:Out) (t':T) (e:f t=some (o,t')) (k:∀σ' H' c',FInv K Oo c' t' σ' H'->Stp Oo c H c' H'->
 match (generalizing:=false) o with
 | .next=>D.nx σ' H'
 | .brk=>D.bk σ' H'
 | .cont=>D.ct σ' H'
 | .ret r=>∀v,Rep K c' H' v r->if A9 r=true then exE (E σ') v H' else D.rt v H'):RSX E f D σ H
inductive spX (f:Fn)(vs:List V)(H:Hp)(Q:VK)(E:XK):Prop where
 | mk (c:Cf) (ds:List D) (S:List Ob) (si:SInv K c S H) (rs:Reps K c H vs ds) (r:D) (S':List Ob) (e:f ds S=some (r,S')) (k:∀v H' c',SInv K c' S' H'->Stp c.O c H c' H'->(∀b,c'.O b↔c.O b)->Rep K c' H' v r->if A9 r=true then exE E v H' else Q v H'):spX f vs H Q E
end
def Ez (g:Fn):Fn:=λds S=>match g ds S with
 | some (r,S')=>if A9 r=true then none else some (r,S')
 | none=>none
variable {g:Fn}{r:D}
theorem Q6 {ds:List D}{S S':List Ob}(h:Ez g ds S=some (r,S')):g ds S=some (r,S')/\A9 r=false:=by
 unfold Ez at h
 split at h
 ·next r' S1 e=>
  by_cases hx:A9 r'=true
  ·rw [if_pos hx] at h;cases h
  ·rw [if_neg hx] at h;cases h;exact ⟨e,by simpa using hx⟩
 ·cases h
variable {fa:Addr}{fd:FuncData}{x:Str}
section
variable {P:Program}{w:World}{K:PySem.W.Frag}{mg:Str->Option Value}{base:Heap}
theorem Uv {k:Nat}{ps:List Str}(F:FnOk P w K mg base (CX1 qx P w) k fa fd ps (spX K g)):FnOk P w K mg base CX0 k fa fd ps (spF K (Ez g)):=
 F.calm λvs H Q E z9=>by
  obtain ⟨c,ds,S,si,rs,r,S',e,kk⟩:=z9;obtain ⟨e1,e2⟩:=Q6 e;exact ⟨c,ds,S,si,rs,r,S',e1,λv H' c' a1 a2 a3 a4=>by rw [if_neg (by rw [e2];decide)];exact kk v H' c' a1 a2 a3 a4⟩
theorem N0 {qual:Str}{st:Stmt}{N ps:List Str}{k n m:Nat}{g:M Out}(e1:ps.length=n)(e2:N.length=m)(F:Fun K x qual st fa fd)(S:FnScope N ps (As st))
 (hb:∀(cdv:Value) (A:Around) (outer:List Env) (s:Shared) (H:Hp) (E:XK),Room k (A.deeper (PyProof.Rows.envOfC qual (As st) s.heap.objs.size fa cdv))->
   Cj (CX1 qx P w) (cxX qx P w K mg base N qual (As st) fa cdv A outer s H E) (λ_=>E)->FY qx (cxX qx P w K mg base N qual (As st) fa cdv A outer s H E) (λ_=>E)->
   PassesOwn (model P w) (cxX qx P w K mg base N qual (As st) fa cdv A outer s H E).A (cxX qx P w K mg base N qual (As st) fa cdv A outer s H E).env (cxX qx P w K mg base N qual (As st) fa cdv A outer s H E).xe->
   PSs (cxX qx P w K mg base N qual (As st) fa cdv A outer s H E) (Bt st) (RSg K (μX K E) g)):FnOk P w K mg base (CX1 qx P w) (k + 1) fa fd ps (spX K (fnOf n m g)):=by
 subst e1 e2;have hlen:∀{ds:List D} {S:List Ob} {z:D×List Ob},fnOf ps.length N.length g ds S=some z->ds.length=ps.length:=λ{ds S z} h=>by
  unfold fnOf at h
  split at h
  ·next h1=>exact h1
  ·cases h
 refine F.okX S (λvs H Q E h=>?_) (λcdv A outer s H vs Q E hr h=>?_)
 ·obtain ⟨c,ds,S,si,rs,r,S',e,_⟩:=h;rw [rs.length];exact hlen e
 obtain ⟨c,ds,S0,si,rs,r,S',e,kk⟩:=h;refine ⟨RSg K (μX K E) g,hb cdv A outer s H E hr XE.pass XE.raises (XE.own rfl rfl),?_⟩;have hl:=hlen e;unfold fnOf at e;rw [if_pos hl] at e
 cases eg:g ⟨env0 N.length ds,S0⟩ with
 | none=>rw [eg] at e;cases e
 | some p=>
   obtain ⟨o,t⟩:=p;rw [eg] at e;refine ⟨c.O,c,_,Gj si rs,o,t,eg,λσ' H' c' f' s'=>?_⟩;obtain ⟨si',ext'⟩:=f'.leave;have st':Stp c.O c H ⟨c'.ι,c.O⟩ H':=⟨s'.ext.trans ext',s'.oo⟩
   cases o with
   | next=>cases e;exact kk .non H' _ si' st' (λ_=>Iff.rfl) .non
   | ret d=>cases e;exact λv rv=>kk v H' _ si' st' (λ_=>Iff.rfl) (rv.mono ext')
   | brk=>cases e
   | cont=>cases e
theorem Oq {ps:List Str}{k:Nat}{f:Fn}(e:f=g)(h:FnOk P w K mg base (CX1 qx P w) k fa fd ps (spX K g)):FnOk P w K mg base (CX1 qx P w) k fa fd ps (spX K f):=by rw [e];exact h
end
variable {f:M D}
section
variable {X:Cx}{e a b:Expr}{es:List Expr}{pos:Pos}{E:L2.St->XK}{st:Stmt}
theorem HX {E:XK}{f:M Out}(h:PS X st (RSX X.K (λ_=>E) f)):PS X st (RSg X.K (μX X.K E) f):=Bn h λD σ H z9=>by
 obtain ⟨Oo,c,t,fi,o,t',eq,k⟩:=z9;refine ⟨Oo,c,t,fi,o,t',eq,λσ' H' c' f' s'=>?_⟩;have q:=k σ' H' c' f' s'
 cases o <;> exact q
theorem N6 {k:Nat}{ps:List Str}{f:M (List D)}{p:Pos}(F:FnOk X.prog X.w X.K X.mg X.base (CX1 qx X.prog X.w) k fa fd ps (spX X.K g))(hr:Room k X.A)(hg:Gl X x)(hm:X.mg x=some (.ref fa))(hk:PySem.W.keepIn X.K (.ref fa)=true)(hb:Binds X.K fd ps [])
 (hx:Cj (CX1 qx X.prog X.w) X E) (ha:PA X (e :: es) (RA X.K f)) (hdb:(x == ("__debug__" : Str))=false:=by decide) (h1:AZ e=false:=by rfl) (h2:AY es=true:=by rfl) :
 PE X (.Call (.Name x p) (e :: es) [] pos) (RX X.K E (Aj g f)):=
 AK (Tx F hr hg hm hk hb hx ha hdb (A7 h1) (AW h2).1) λσ H Q z9=>by
  obtain ⟨Oo,c,t,fi,r,t',eq,kk⟩:=z9;obtain ⟨ds,t1,e1,eq⟩:=Ae eq;obtain ⟨S',e2,rfl⟩:=EL eq;refine ⟨Oo,c,t,fi,ds,t1,e1,λvs H1 c1 f1 s1 rvs=>?_⟩;refine ⟨c1,ds,t1.S,f1.s,rvs,r,S',e2,λv H' c' si st ho rv=>?_⟩;obtain ⟨f2,s2⟩:=f1.after si st ho;exact kk v H' c' f2 (s1.trans s2) rv
def nxD (f:M D):M D:=bnd f λd=>if A9 d=true then fail else ret d
theorem M9 {t t':T}(h:nxD f t=some (r,t')):f t=some (r,t')/\A9 r=false:=by
 obtain ⟨d,t1,e1,h⟩:=Ae h
 by_cases hx:A9 d=true
 ·rw [if_pos hx] at h;cases h
 ·rw [if_neg hx] at h;cases h;exact ⟨e1,by simpa using hx⟩
theorem QI {A B:Prop}(h:A9 r=false)(q:if A9 r=true then A else B):B:=by rw [if_neg (by rw [h];decide)] at q;exact q
def Ka (g:M D)(h:D->M D):M D:=bnd g λy=>if A9 y=true then ret y else nxD (h y)
theorem RX.bind {K:PySem.W.Frag}{g:M D}{h:D->M D}{σ:L2.St}{H:Hp}{Q:VK}{Oo:Addr->Prop}{c:Cf}{t t':T}(fi:FInv K Oo c t σ H)(eq:Ka g h t=some (r,t'))
 (k:∀v H' c',FInv K Oo c' t' σ H'->Stp Oo c H c' H'->Rep K c' H' v r->if A9 r=true then exE (E σ) v H' else Q v H') {R:V->Hp->Prop}
 (s:∀y dy t1 H1 c1,FInv K Oo c1 t1 σ H1->Stp Oo c H c1 H1->Rep K c1 H1 y dy->h dy t1=some (r,t')->(∀v H' c',FInv K Oo c' t' σ H'->Stp Oo c1 H1 c' H'->Rep K c' H' v r->Q v H')->R y H1):RX K E g σ H R:=by
 obtain ⟨dy,t1,e1,eq⟩:=Ae eq;refine ⟨Oo,c,t,fi,dy,t1,e1,λy H1 c1 f1 s1 ry=>?_⟩
 by_cases hx:A9 dy=true
 ·rw [if_pos hx] at eq ⊢
  cases eq
  have:=k y H1 c1 f1 s1 ry;rw [if_pos hx] at this;exact this
 ·rw [if_neg hx] at eq ⊢;obtain ⟨e2,e3⟩:=M9 eq;exact s y dy t1 H1 c1 f1 s1 ry e2 λv H' c' f' s' rv=>QI e3 (k v H' c' f' (s1.trans s') rv)
def HA (f g:M D)(h:D->D->M D):M D:=bnd f λx=>Ka g λy=>h x y
theorem RX.two {K:PySem.W.Frag}{g:M D}{h:D->D->M D}{R:R2}(s:Bi K R h){σ:L2.St}{H:Hp}{Q:VK}(q:RX K E (HA f g h) σ H Q):tOp R (RE K f) (RX K E g) σ H Q:=by
 obtain ⟨Oo,c,t,fi,r,t',eq,k⟩:=q;obtain ⟨dx,t1,e1,eq⟩:=Ae eq;refine ⟨Oo,c,t,fi,dx,t1,e1,λx H1 c1 f1 s1 rx=>?_⟩;exact RX.bind f1 eq (λv H' c' f' s' rv=>k v H' c' f' (s1.trans s') rv) λy dy t2 H2 c2 f2 s2 ry e2 kk=>s f2 (rx.mono s2.ext) ry e2 kk
theorem ZH {op:Operator}{R:R2}{g:M D}{h:D->D->M D}(ho:OpR X (binaryOp op) R)(s:Bi X.K R h)(ha:PE X a (RE X.K f))(hb:PE X b (RX X.K E g)):PE X (.BinOp a op b pos) (RX X.K E (HA f g h)):=
 AK (Pi ho ha hb) λ_ _ _ q=>RX.two s q
def dI (f g:M D)(h:D->D->M D):M D:=Ka f λx=>bnd g λy=>h x y
def dk (g:Fn)(f:M D):M D:=Ka f λd t=>match g [d] t.S with
 | some (r,S')=>some (r,{ t with S:=S' })
 | none=>none
theorem N4 (h:PE X e (RX X.K E f)):PS X (.Return (some e) pos) (RSX X.K E (Av f)):=
 Bn (Hk h) λD σ H z9=>by
  obtain ⟨Oo,c,t,fi,o,t',eq,k⟩:=z9;obtain ⟨d,t1,e1,eq⟩:=Ae eq
  cases eq
  exact ⟨Oo,c,t,fi,d,_,e1,λv H1 c1 f1 s1 rv=>k σ H1 c1 f1 s1 v rv⟩
def De (i:Nat)(f:M D):M Out:=bnd f λd=>if A9 d=true then ret (.ret d) else bnd (AQ i d) λ_=>ret .next
theorem N5 {i:Nat}{pos':Pos}(hN:X.N.Nodup)(hi:X.N[i]?=some x)(hx:Loc X.env.scope x)(he:PE X e (RX X.K E f))(hs:swapsWith e (some (.Name x pos')) pos.line X.env=pure false:=by rfl)(hf:X.fn x=true\/X.env.scope.names.lookup x=some .local:=by walk_at "h") :
 PS X (.Assign [.Name x pos'] e pos) (RSX X.K E (De i f)):=Bn (Nk hN hi hx he hs hf) λD σ H z9=>by
 obtain ⟨Oo,c,t,fi,o,t',eq,k⟩:=z9;obtain ⟨d,t1,e1,eq⟩:=Ae eq;refine ⟨Oo,c,t,fi,d,t1,e1,λv H1 c1 f1 s1 rv=>?_⟩
 by_cases hx:A9 d=true
 ·rw [if_pos hx] at eq ⊢
  cases eq
  have:=k σ H1 c1 f1 s1 v rv;rw [if_pos hx] at this;exact this
 ·rw [if_neg hx] at eq ⊢
  cases eq
  exact k _ H1 c1 (f1.set rv) s1
def dH (f:M D):M Out:=bnd f λd=>if A9 d=true then ret (.ret d) else ret .next
def dO (f:M D)(g:D->M Unit):M Out:=bnd f λd=>if A9 d=true then ret (.ret d) else bnd (g d) λ_=>ret .next
theorem SQ {f:M Out}(h:PS X st (RSX X.K E f)):PSs X [st] (RSX X.K E f):=HU h
end
end F2
namespace L2
open PySem PySem.Spec PyProof.Rows PySem.W PySem.Builtin PySem.Builtin.ObjectAttr
structure XGet (K:PySem.W.Frag)(C:Addr):Prop where
 ga:findIn K (.ref C) "__getattribute__" = some (some (.builtin "BaseException.__getattribute__"))
 gt:findIn K (.ref C) "__getattr__" = some none
 mb:mroIn K C (.type "BaseException")=some true
 mo:mroIn K C (.type "object")=some true
 hd:hasDictIn K C=true
section
variable {prog:Program}{w:World}{A:Around}{E:Value->Shared->Prop}{s:Shared}{K:PySem.W.Frag}{x C:Addr}{ox:Obj}{od:Option Obj}{name:Str}{tk:Tok}{Q:Value->Shared->Prop}{R:Result->Shared->Prop}
theorem Qg {fill expr:Bool}(X:K.In s.heap)(I:InstAt s.heap x ox C od)(g:XGet K C)
 (h:codeAny (model prog w) A (.call (.builtin "BaseException.__getattribute__") ⟨[.ref x,.str name tk],[]⟩) (λr s'=>match r with | .ok (.ret v)=>wpAny (model prog w) A (handedOut v) Q E s' | _=>False) s) :
 wpAny (model prog w) A (getAttrBy (.ref x) (.str name tk) fill expr) Q E s:=by
 have L0:=I.type (M:=model prog w);have L1:=looks_findIn (M:=model prog w) X g.ga;have L2:=looks_findIn (M:=model prog w) X g.gt;have ne:(onTheHeap (Value.ref C) && Value.builtin "BaseException.__getattribute__" == Value.builtin "object.__getattribute__")=false:=by
  rw [show (Value.builtin "BaseException.__getattribute__" == Value.builtin "object.__getattribute__")=false from by decide +kernel];rfl
 unfold getAttrBy;refine um1 (un9 (L0.here (un9 (L1.here ?_))));show wpAny _ _ (if (onTheHeap (Value.ref C) && Value.builtin "BaseException.__getattribute__" == Value.builtin "object.__getattribute__")=true then _ else _) _ _ _;rw [if_neg (by rw [ne];decide)];unfold getAttrByItsOwn hookBefore;rw [if_pos (show onTheHeap (Value.ref C)=true from rfl)];refine un9 (L2.here (un9 (wpAny_attempt (um1 ?_))));unfold callGetattribute;rw [if_neg (show ¬((expr && onTheHeap (Value.builtin "BaseException.__getattribute__"))=true) from by cases expr <;> decide)];unfold boundAndCalled;refine un9 (wpAny_of_eq (PySem.F.excAttr_ValueError.ga.bind _) (wpAny_call (codeAny_mono h λr s' z=>?_)))
 cases r with
 | error e=>exact z.elim
 | ok f=>cases f <;> first | exact z | exact z.elim
theorem SR (X:K.In s.heap)(I:InstAt s.heap x ox C od)(g:XGet K C)
 (h:wpAny (model prog w) A.in1 («object.__getattribute__» ⟨[.ref x,.str name tk],[]⟩) (λfin s'=>match fin with | .done f=>R (.ok f) s' | .again c'=>c'.quiet=true/\codeAny (model prog w) A c' R s') (λe s'=>R (.error e) s') s) :
 codeAny (model prog w) A (.call (.builtin "BaseException.__getattribute__") ⟨[.ref x,.str name tk],[]⟩) R s:=by
 have ob:Looks (model prog w) s.heap (isInstance (.ref x) (.type "BaseException")) true:=I.type.andThen (looks_mroIn X g.mb);refine codeAny_call_builtin PySem.F.excAttr_ValueError.ga.plain PySem.F.entry_bexc_ga (@check_slot (model prog w) _ _ s "BaseException.__getattribute__" "BaseException" "__getattribute__" (.ref x) [.str name tk] [] _ (by decide +kernel) (by decide +kernel) ob (PySem.F.args_bexc_ga (.ref x) (.str name tk)) h)
theorem SS {v:Value}(X:K.In s.heap)(I:InstAt s.heap x ox C od)(g:XGet K C)(hf:findObj K C od name=some (.value v))(h:R (.ok (.ret v)) s) :
 codeAny (model prog w) A (.call (.builtin "BaseException.__getattribute__") ⟨[.ref x,.str name tk],[]⟩) R s:=by
 refine SR X I g ?_;have L0:=I.type (M:=model prog w);have L1:=looks_find (M:=model prog w) X I hf;refine un9 (uo0 (un9 (uo0 (un9 (L0.here (un9 (L1.here ?_)))))));exact uo0 h
end
end L2
namespace L2
open PySem PySem.Spec PyProof.Rows PySem.W
end L2
namespace F2
open PySem L2 PySem.Spec PySem.W
variable {qx:Bool}
abbrev Bu:List Str:=["NoValue", "Short", "Broken"]
structure XM (K:PySem.W.Frag)(mg:Str->Option Value)(P:Addr)(ca:Str->Addr):Prop where
 pm:mg "ParleyError" = some (.ref P)
 pc:XCl K P VE
 ns:∀n∈Bu,nsIn K mainGlobals n=some (some (.ref (ca n)))
 ms:∀n∈Bu,mg n=some (.ref (ca n))
 cl:∀n∈Bu,XCl K (ca n) (.ref P :: VE)
 inj:∀n∈Bu,∀m∈Bu,ca n=ca m->n=m
 np:∀n∈Bu,ca n≠P
 kp:∀n∈Bu,keepIn K (.ref (ca n))=true
 gt:∀n∈Bu,XGet K (ca n)
 gc:∀n∈Bu,findIn K (.ref (ca n)) "__class__" = some (some (.builtin "object.__class__"))
 na:∀n∈Bu,findIn K (.ref (ca n)) "at" = some none
 nd:∀n∈Bu,findIn K (.ref (ca n)) "side" = some none
noncomputable def E1 (n m:Str):Bool:=m == "ParleyError" || m == "ValueError" || n == m
theorem GO {a b:Addr}{r:List Value}:(Value.ref a :: r).contains (.ref b)=(a == b || r.contains (.ref b)):=by
 rw [List.contains_cons]
 congr 1
 by_cases h:a=b
 ·subst h;simp
 ·rw [beq_eq_false_iff_ne.mpr h,beq_eq_false_iff_ne.mpr (λz:Value.ref b=Value.ref a=>h (Value.ref.inj z).symm)]
theorem Xf {b:Addr}:VE.contains (.ref b)=false:=rfl
section
variable {K:PySem.W.Frag}{mg:Str->Option Value}{P:Addr}{ca:Str->Addr}
theorem XM.subE (x:XM K mg P ca){n m:Str}(hn:n∈Bu)(hm:m∈Bu):(Value.ref (ca n) :: .ref P :: VE).contains (.ref (ca m))=E1 n m:=by
 rw [GO,GO,Xf,beq_eq_false_iff_ne.mpr (Ne.symm (x.np m hm)),ul5,ul5];have h1:(m == ("ParleyError" : Str))=false/\(m == ("ValueError" : Str))=false:=by
  simp only [Bu,ul3,ui1,or_false] at hm;rcases hm with rfl | rfl | rfl <;> exact ⟨by decide,by decide⟩
 unfold E1;rw [h1.1,h1.2,Bool.false_or,Bool.false_or]
 by_cases h:n=m
 ·subst h;rw [ui6,ui6]
 ·rw [beq_eq_false_iff_ne.mpr h,beq_eq_false_iff_ne.mpr λz=>h (x.inj n hn m hm z)]
theorem XM.of (x:XM K mg P ca){n:Str}{C:Addr}(hn:n∈Bu)(h:nsIn K mainGlobals n=some (some (.ref C))):C=ca n:=by
 rw [x.ns n hn] at h;injection h with h;injection h with h;injection h with h
 exact h.symm
end
theorem W4 {q1 q2:Bool}{x C C':Addr}{dx dx':Option Addr}(h:XIs q1 x C dx=XIs q2 x C' dx')(e:∃h,XIs q1 x C dx h):C=C'/\dx=dx':=by
 obtain ⟨hh,o,vs,e1,e2,e3,e4⟩:=e;have q:XIs q2 x C' dx' hh:=by rw [<-h];exact ⟨o,vs,e1,e2,e3,e4⟩
 obtain ⟨o',vs',q1,q2,q3,q4⟩:=q;rw [e1] at q1;cases q1
 rw [e2] at q2;cases q2
 exact ⟨rfl,e3.symm.trans q3⟩
section
variable {X:Cx}{e:Expr}{es:List Expr}{pos p pos2:Pos}{E:L2.St->XK}{P:Addr}{ca:Str->Addr}
def dA (n:Str)(f:M (List D)):M Out:=bnd f λds=>match ds with
 | [d]=>ret (.ret (.exc n [d]))
 | _=>fail
def XN0 (K:PySem.W.Frag)(C:Addr):Prop:=∃cd,clsIn K C=some cd/\nsIn K cd.ns "__init__" = some none
def Fw (n:Str)(f:M (List D)):M Out:=bnd f λds=>if ds.length<=1000 then ret (.ret (.exc n [])) else fail
theorem KS {n:Str}{f:M (List D)}(x:XM X.K X.mg P ca)(hn:n∈Bu)(hf:IF n=[])(xn:XN0 X.K (ca n))(hc:X.calm=true)(hx:FY qx X E)(hg:Gl X n)(ha:PA X (e :: es) (RA X.K f))
 (hdb:(n == ("__debug__" : Str))=false:=by decide) (h1:AZ e=false:=by rfl) (h2:AY es=true:=by rfl):PS X (.Raise (some (.Call (.Name n p) (e :: es) [] pos)) none pos2) (RSX X.K E (Fw n f)):=by
 obtain ⟨cd,hcd,hni⟩:=xn;refine Bn (Nj hc (x.cl n hn) hx (V8 (x.cl n hn) (x.kp n hn) hcd hni hg (x.ms _ hn) ha hdb (A7 h1) (AW h2).1)) λD σ H z9=>?_;obtain ⟨Oo,c,t,fi,o,t',eq,k⟩:=z9;obtain ⟨ds,t1,e1,eq⟩:=Ae eq;refine ⟨Oo,c,t,fi,ds,t1,e1,λvs H1 c1 f1 s1 rvs=>?_⟩
 split at eq
 ·next hl=>
  cases eq
  refine ⟨by rw [rvs.length];exact hl,λy hy=>?_⟩;have f3:=f1.laid (o:=.ext (XIs qx y (ca n) none)) hy;exact k σ _ c1 f3 (s1.trans (f1.stp_laid hy)) (.ref y) (.exc (x.ns _ hn) Ar (f1.s.free hy) (vs:=[]) rfl .nil) y none rfl
 ·cases eq
end
section
variable {X:Cx}{pos p:Pos}{P:Addr}{ca:Str->Addr}{μ:Cf->Hp->D->(V->Hp->Prop)->Prop}
inductive RH (K:PySem.W.Frag)(ca:Str->Addr)(μ:Cf->Hp->D->(V->Hp->Prop)->Prop)(h:D->M Out)(x C:Addr)(dx:Option Addr)(E:Ends)(σ:L2.St)(H:Hp):Prop where
 | mk (Oo:Addr->Prop) (c:Cf) (t:T) (n:Str) (ds:List D) (fi:FInv K Oo c t σ H) (hn:n∈Bu) (hC:C=ca n) (rp:Rep K c H (.ref x) (.exc n ds)) (o:Out) (t':T) (e:h (.exc n ds) t=some (o,t')) (k:∀σ' H' c',FInv K Oo c' t' σ' H'->Stp Oo c H c' H'->
   match (generalizing:=false) o with
   | .next=>E.nx σ' H'
   | .brk=>E.bk σ' H'
   | .cont=>E.ct σ' H'
   | .ret r=>μ c' H' r E.rt):RH K ca μ h x C dx E σ H
noncomputable def unE (i:Nat)(t:T):T:={ t with env:=t.env.set i none }
theorem FInv.unset {K:PySem.W.Frag}{Oo:Addr->Prop}{c:Cf}{t:T}{σ:L2.St}{H:Hp}(f:FInv K Oo c t σ H)(i:Nat):FInv K Oo c (unE i t) (σ.set i none) H:=by
 have neq:∀{j:Nat} {x:Sl},(t.env.set i none)[j]?=some (some x)->j≠i/\t.env[j]?=some (some x):=λ{j x} q=>by
  by_cases h:j=i
  ·subst h;rw [ug6] at q
   split at q
   ·split at q
    ·injection q with q;cases q
    ·cases q
   ·next h1=>exact absurd rfl h1
  ·rw [ud7 (Ne.symm h)] at q;exact ⟨h,q⟩
 refine ⟨f.s,by simp [unE,f.len],f.sub,λj e q=>?_,λj ds q=>?_,λj k ds es a q1 q2 q3 q4=>?_⟩
 ·obtain ⟨h,q⟩:=neq q;obtain ⟨u,h1,h2⟩:=f.val j e q;exact ⟨u,by rw [ud7 (Ne.symm h)];exact h1,h2⟩
 ·obtain ⟨h,q⟩:=neq q;obtain ⟨a,vs,h1,h2⟩:=f.own j ds q;exact ⟨a,vs,by rw [ud7 (Ne.symm h)];exact h1,h2⟩
 ·obtain ⟨h,q1⟩:=neq q1;obtain ⟨h',q2⟩:=neq q2;rw [ud7 (Ne.symm h)] at q3;rw [ud7 (Ne.symm h')] at q4;exact f.inj j k ds es a q1 q2 q3 q4
def hAs (n':Str)(i:Nat)(s:M Out)(r:D->M Out):D->M Out:=λe t=>match e with
 | .exc n ds=>if E1 n n'=true then (match s { t with env:=t.env.set i (some (.val (.exc n ds))) } with
   | some (o,t2)=>some (o,unE i t2)
   | none=>none) else r (.exc n ds) t
 | _=>none
def hNo (n':Str)(s:M Out)(r:D->M Out):D->M Out:=λe t=>match e with
 | .exc n ds=>if E1 n n'=true then s t else r (.exc n ds) t
 | _=>none
noncomputable def XZ:D->M Out:=λ_ _=>none
theorem XL:PH qx X [] (RH X.K ca μ XZ):=by
 rintro _ _ _ _ _ _ _ _ _ _ _ ⟨_,_,_,_,_,_,_,_,_,_,_,e,_⟩
 cases e
theorem ZB {n':Str}{C':Addr}{bm':List Value}{b₀:Stmt}{suite:List Stmt}{rest:List ExceptHandler}{s:M Out}{r:D->M Out}(x:XM X.K X.mg P ca)(hg:Gl X n')(hm:X.mg n'=some (.ref C'))(c':XCl X.K C' bm')(hs:∀n∈Bu,(Value.ref (ca n) :: .ref P :: VE).contains (.ref C')=E1 n n')
 (hb:∀x,PSs (X.mark x) (b₀ :: suite) (RSg X.K μ s)) (hr:PH qx X rest (RH X.K ca μ r)) (hdb:(n' == ("__debug__" : Str))=false:=by decide) :
 PH qx X (.ExceptHandler (some (.Name n' p)) none (b₀ :: suite) pos :: rest) (RH X.K ca μ (hNo n' s r)):=by
 intro pins s0 σ H y C dx T D I o q;refine ZU hg hm c' hb hr hdb pins s0 σ H y C dx T D I o ?_;obtain ⟨Oo,c,t,n,ds,fi,hn,rfl,rv,o1,t',eq,k⟩:=q;refine ⟨_,x.cl n hn,?_⟩;rw [hs n hn];unfold hNo at eq;dsimp only at eq
 by_cases hb':E1 n n'=true
 ·rw [if_pos hb'] at eq ⊢;exact ⟨Oo,c,t,fi,o1,t',eq,λσ' H' c2 f2 s2=>by
   have:=k _ H' c2 f2 s2
   cases o1 <;> exact this⟩
 ·rw [if_neg hb'] at eq ⊢;exact ⟨Oo,c,t,n,ds,fi,hn,rfl,rv,o1,t',eq,k⟩
noncomputable def FB (b:M Out)(h:D->M Out):M Out:=λt=>match b t with
 | some (.ret (.exc n ds),t1)=>if n∈Bu then h (.exc n ds) t1 else none
 | z=>z
theorem XU {body:List Stmt}{h₀:ExceptHandler}{hs:List ExceptHandler}{b:M Out}{h:D->M Out}(x:XM X.K X.mg P ca)(hμ:∀c H r rt,A9 r=false->(∀v,Rep X.K c H v r->rt v H)=μ c H r rt)(h1:X.stack=X.env :: X.outer)(h2:X.env.frame=some X.env.locals)
 (hb:∀(pn:List (Addr×Obj)) (E:L2.St->XK),Cj (CX1 qx X.prog X.w) { X with pn:=pn,xe:=XE qx { X with pn:=pn } E } E->PSs { X with pn:=pn,xe:=XE qx { X with pn:=pn } E } body (RSX X.K E b)) (hh:PH qx X (h₀ :: hs) (RH X.K ca μ h)):PS X (.Try body (h₀ :: hs) [] [] pos) (RSg X.K μ (FB b h)):=
 Bn (YG h1 h2 (λpn E=>hb pn E (XE.pass (X:={ X with pn:=pn }))) hh) λD σ H z9=>by
  obtain ⟨Oo,c,t,fi,o,t',eq,k⟩:=z9;unfold FB at eq
  cases e1:b t with
  | none=>rw [e1] at eq;cases eq
  | some z=>
    obtain ⟨o1,t1⟩:=z;rw [e1] at eq;refine ⟨Oo,c,t,fi,o1,t1,e1,λσ1 H1 c1 f1 s1=>?_⟩
    cases o1 with
    | next=>cases eq;exact k σ1 H1 c1 f1 s1
    | brk=>cases eq;exact k σ1 H1 c1 f1 s1
    | cont=>cases eq;exact k σ1 H1 c1 f1 s1
    | ret r=>
      intro v rv
      cases hx:A9 r with
      | false=>
        rw [if_neg (by decide)];have eq':some (Out.ret r,t1)=some (o,t'):=by cases r <;> first | exact eq | cases hx
        cases eq'
        have q:=k σ1 H1 c1 f1 s1;have q:μ c1 H1 r D.rt:=q;rw [<-hμ _ _ _ _ hx] at q;exact q v rv
      | true=>
        rw [if_pos rfl];intro y dx hv y' C hy' hC hex
        cases rv with
        | @exc q0 x0 C0 dx0 n vs ds g hx0 hA fl rs=>
          cases hv
          cases hy'
          dsimp only at eq
          split at eq
          ·next hn=>
           rw [hx0] at hC;injection hC with hC;injection hC with hC
           obtain ⟨e2,e3⟩:=W4 hC.symm hex;have:=x.of hn g;exact ⟨Oo,c1,t1,n,ds,f1,hn,e2.trans this,.exc g hx0 hA fl rs,o,t',eq,λσ' H' c' f' s'=>k σ' H' c' f' (s1.trans s')⟩
          ·cases eq
        | _=>cases hx
end
end F2
namespace F2
open PySem L2 PySem.Spec PySem.W
variable {qx:Bool}
def dQ (n:Str):D->M D
 | .exc m _=>if m∈Bu then ret (.bl (E1 m n)) else fail
 | .non=>ret (.bl false)
 | .bl _=>ret (.bl false)
 | .int _=>ret (.bl false)
 | .str _=>ret (.bl false)
 | .lst _=>ret (.bl false)
 | .tup _=>ret (.bl false)
 | .dic=>ret (.bl false)
 | _=>fail
section
variable {X:Cx}{P:Addr}{ca:Str->Addr}{a:Expr}{f:M D}{p pos q:Pos}
def J2 (nm:Str):D->M D
 | .exc n ds=>if n∈Bu then (match ((IF n).zip ds).lookup nm with
   | some d=>ret d
   | none=>fail) else fail
 | _=>fail
theorem Ip {K:PySem.W.Frag}{c:Cf}{H:Hp}{nm:Str}{d:D}:∀{ns:List Str} {vs:List V} {ds:List D},Reps K c H vs ds->(ns.zip ds).lookup nm=some d->∃v,(ns.zip vs).lookup nm=some v/\Rep K c H v d
 | [],_,_,_,e=>by cases e
 | _ :: _,_,_,.nil,e=>by cases e
 | n :: ns,_,_,.cons (v:=v0) (d:=d0) r rs,e=>by
   by_cases h:nm=n
   ·subst h;simp only [List.zip_cons_cons,List.lookup,ui6,ug7] at e ⊢;subst e;exact ⟨v0,rfl,r⟩
   ·have hb:(nm == n)=false:=beq_eq_false_iff_ne.mpr h;simp only [List.zip_cons_cons,List.lookup,hb] at e ⊢;exact Ip rs e
theorem Xy {nm:Str}(x:XM X.K X.mg P ca)(hno:∀n∈Bu,findIn X.K (.ref (ca n)) nm=some none)(ha:PE X a (RE X.K f))(hb:attributeBase a nm X.env (eval a X.env)=eval a X.env):PE X (.Attribute a nm pos) (RE X.K (bnd f (J2 nm))):=by
 intro pins s σ H Q I h;obtain ⟨Oo,c0,t,fi,r,t',eq,k⟩:=h;obtain ⟨d,t1,e1,eq⟩:=Ae eq;refine NS hb (thn (ha pins s σ H (λv H1=>∃c1,FInv X.K Oo c1 t1 σ H1/\Stp Oo c0 H c1 H1/\Rep X.K c1 H1 v d) I ⟨Oo,c0,t,fi,d,t1,e1,λv H1 c1 f1 s1 rv=>⟨c1,f1,s1,rv⟩⟩) λu s1 z9=>?_);obtain ⟨v,H1,I1,rx,c1,f1,st1,rv⟩:=z9
 cases rv with
 | @exc q0 x0 C0 dx0 m vs ds g hx0 hA fl rs=>
   cases (show u=Value.ref x0 from rx)
   unfold J2 at eq;dsimp only at eq
   split at eq
   ·next hm=>
    have hc:=x.of hm g;subst hc
    cases el:((IF m).zip ds).lookup nm with
    | none=>rw [el] at eq;cases eq
    | some d'=>
      rw [el] at eq
      cases eq
      obtain ⟨v',l1,r1⟩:=Ip rs el
      cases dx0 with
      | none=>
        have fl:vs=[]:=fl;subst fl;simp at l1
      | some dd=>
        have hdd:H1 dd=some (.xd ((IF m).zip vs)):=fl.1;obtain ⟨o,vs0,q1,q2,q3,q4,_⟩:=(I1.hok x0 _ hx0).1;have nc:notCls o=true:=by unfold notCls;rw [q4]
        obtain ⟨mA,nA,rA⟩:=(show ObjOk X.prog X.w H1 s1.heap dd (.xd ((IF m).zip vs)) from I1.hok dd _ hdd);obtain ⟨od,ho,hl⟩:=Hb nA;obtain ⟨u',hu,ru⟩:=RelO.some_of (v:=v') (o:=mA nm) (by rw [<-l1];exact rA nm);have IA:InstAt s1.heap x0 o (ca m) (some od):=⟨q1,q2,nc,by rw [q3];exact ho⟩;unfold getAttr;refine un9 (wpAny_mkText ?_);refine Qg (s:={ s1 with toks:=s1.toks + 1 }) I1.kIn IA (x.gt m hm) (SS I1.kIn IA (x.gt m hm) (findObj_own (x.gt m hm).hd (hno m hm) rfl (by rw [hl,hu])) ?_);exact handed_on (KU ru) ⟨v',H1,I1.tok _,ru,k v' H1 c1 f1 st1 r1⟩
   ·cases eq
 | _=>cases eq
end
end F2
namespace F2
open PySem L2 PySem.Spec PySem.W
variable {qx:Bool}
def PR (K:PySem.W.Frag)(P c:Addr):Bool:=LJ K c (.ref P :: VE) && keepIn K (.ref c) && findIn K (.ref c) "__getattribute__" == some (some (.builtin "BaseException.__getattribute__")) && findIn K (.ref c) "__getattr__" == some none && mroIn K c (.type "BaseException") == some true
 && mroIn K c (.type "object") == some true && hasDictIn K c && findIn K (.ref c) "__class__" == some (some (.builtin "object.__class__")) && findIn K (.ref c) "at" == some none && findIn K (.ref c) "side" == some none
structure XOne (K:PySem.W.Frag)(P c:Addr):Prop where
 cl:XCl K c (.ref P :: VE)
 kp:keepIn K (.ref c)=true
 gt:XGet K c
 gc:findIn K (.ref c) "__class__" = some (some (.builtin "object.__class__"))
 na:findIn K (.ref c) "at" = some none
 nd:findIn K (.ref c) "side" = some none
variable {K:PySem.W.Frag}
theorem KG {P c:Addr}(h:PR K P c=true):XOne K P c:=by
 unfold PR at h;simp only [uh6,beq_iff_eq] at h;obtain ⟨⟨⟨⟨⟨⟨⟨⟨⟨h1,h2⟩,h3⟩,h4⟩,h5⟩,h6⟩,h7⟩,h8⟩,h9⟩,h10⟩:=h;exact ⟨.of_in h1,h2,⟨h3,h4,h5,h6,h7⟩,h8,h9,h10⟩
noncomputable def Kh (c1 c2 c3:Addr):Str->Addr:=λn=>if n = "NoValue" then c1 else if n = "Short" then c2 else c3
theorem CA {Q:Str->Prop}(h1:Q "NoValue")(h2:Q "Short")(h3:Q "Broken"):∀n∈Bu,Q n:=by
 intro n hn;simp only [Bu,ul3,ui1,or_false] at hn;rcases hn with rfl | rfl | rfl <;> assumption
def PQ (K:PySem.W.Frag)(P:Addr)(cs:List Addr):Bool:=LJ K P VE && cs.all (PR K P)
theorem aP {h:Heap}{mg:Str->Option Value}{P c1 c2 c3:Addr}(X:K.In h)(G:h.Ns mainGlobals mg)(p:nsIn K mainGlobals "ParleyError" = some (some (.ref P)))(a1:nsIn K mainGlobals "NoValue" = some (some (.ref c1)))(a2:nsIn K mainGlobals "Short" = some (some (.ref c2)))(a3:nsIn K mainGlobals "Broken" = some (some (.ref c3)))(q:PQ K P [c1,c2,c3]=true)(nd:[P,c1,c2,c3].Nodup):XM K mg P (Kh c1 c2 c3):=by
 unfold PQ at q;simp only [ul6,List.all_nil,Bool.and_true,uh6] at q;obtain ⟨q0,q1,q2,q3⟩:=q;have o1:=KG q1;have o2:=KG q2;have o3:=KG q3;have inj:∀n∈Bu,∀m∈Bu,Kh c1 c2 c3 n=Kh c1 c2 c3 m->n=m:=by
  simp only [uj3,ul3,ui1,or_false,not_or,List.nodup_nil,and_true] at nd;obtain ⟨⟨n1,n2,n3⟩,⟨m12,m13⟩,m23,_⟩:=nd;have h1:Kh c1 c2 c3 "NoValue" = c1:=rfl;have h2:Kh c1 c2 c3 "Short" = c2:=rfl;have h3:Kh c1 c2 c3 "Broken" = c3:=rfl;refine CA ?_ ?_ ?_ <;> refine CA ?_ ?_ ?_ <;> intro e <;> first | rfl | (exfalso;rw [h1] at e) | (exfalso;rw [h2] at e) | (exfalso;rw [h3] at e)
  all_goals (first | rw [h1] at e | rw [h2] at e | rw [h3] at e)
  all_goals (first | contradiction | (have e:=e.symm;contradiction))
 refine ⟨mg_of X G p,.of_in q0,CA a1 a2 a3,CA (mg_of X G a1) (mg_of X G a2) (mg_of X G a3),CA o1.cl o2.cl o3.cl,inj,?_,
  CA o1.kp o2.kp o3.kp,CA o1.gt o2.gt o3.gt,CA o1.gc o2.gc o3.gc,CA o1.na o2.na o3.na,CA o1.nd o2.nd o3.nd⟩
 simp only [uj3,ul3,ui1,or_false,not_or] at nd;obtain ⟨⟨n1,n2,n3⟩,_⟩:=nd;exact CA (Ne.symm n1) (Ne.symm n2) (Ne.symm n3)
noncomputable def B8 (s:Stmt)(k:Nat):Stmt:=match s with
 | .ClassDef _ _ _ body _ _ _ _ _ _ _=>body.getD k (.Pass ⟨0,0,0,0⟩)
 | _=>.Pass ⟨0,0,0,0⟩
noncomputable def MH (K:PySem.W.Frag)(C f:Addr):Bool:=match clsIn K C with
 | some cd=>nsIn K cd.ns "__init__" == some (some (.ref f))
 | none=>false
noncomputable def JE (K:PySem.W.Frag)(C:Addr):Bool:=match clsIn K C with
 | some cd=>nsIn K cd.ns "__init__" == some none
 | none=>false
theorem Sa {C:Addr}(h:JE K C=true):XN0 K C:=by
 unfold JE at h
 split at h
 ·next cd e=>exact ⟨cd,e,beq_iff_eq.mp h⟩
 ·cases h
end F2
namespace F2
open PySem L2 PySem.Spec PySem.W
inductive Kd where
 | pl | fr | ex | er
abbrev okK (k:Kd)(P:Program)(w:World)(K:PySem.W.Frag)(mg:Str->Option Value)(base:Heap)(n:Nat)(fa:Addr)(fd:FuncData)(ps:List Str)(f:Fn):Prop:=match k with
 | .pl=>FnOk P w K mg base CX0 n fa fd ps (spF K f)
 | .fr=>FnOk P w K mg base CX0 n fa fd ps (spFF K f)
 | .ex=>FnOk P w K mg base (CX1 true P w) n fa fd ps (spX K f)
 | .er=>FnOk P w K mg base (CX1 false P w) n fa fd ps (spX K f)
section
variable {X:Cx}{e a b:Expr}{pos:Pos}{f g:M D}
theorem N3 {E:XK}(h:PE X e (RE X.K f)):PS X (.Return (some e) pos) (RSg X.K (μX X.K E) (Av (nxD f))):=
 Bn (Hk h) λD σ H z9=>by
  obtain ⟨Oo,c,t,fi,o,t',eq,k⟩:=z9;obtain ⟨d,t1,e1,eq⟩:=Ae eq
  cases eq
  obtain ⟨e2,e3⟩:=M9 e1;exact ⟨Oo,c,t,fi,d,_,e2,λv H1 c1 f1 s1 rv=>QI e3 (k σ H1 c1 f1 s1 v rv)⟩
end
theorem Yd {K:PySem.W.Frag}{E:XK}:∀(c:Cf) (H:Hp) (r:D) (rt:V->Hp->Prop),A9 r=false->(∀v,Rep K c H v r->rt v H)=μX K E c H r rt:=λc H r rt h=>by
 unfold μX;rw [h];rfl
variable {qx:Bool}
section
variable {X:Cx}{P:Addr}{ca:Str->Addr}{a:Expr}{es:List Expr}{f:M D}{p pos q:Pos}{i:Nat}{ns:List Str}
end
end F2
namespace F2
open PySem L2 PySem.Spec SeqAt
end F2
namespace L2
open PySem PySem.Spec PyProof.Rows PySem.W PySem.Builtin PySem.Builtin.ObjectAttr
variable {qx:Bool}
section
variable {prog:Program}{w:World}{A:Around}{s:Shared}{K:PySem.W.Frag}{x C P dx:Addr}{ox:Obj}{od:Option Obj}{R:Result->Shared->Prop}{name:Str}{v:Value}{tk:Tok}{cd:ClassData}
theorem Tr (X:K.In s.heap)(I:InstAt s.heap x ox C od)(hc:clsIn K C=some cd)(hmr:cd.mro=FE C P)(ha:findIn K (.ref C) name=some none)
 (h:wpAny (model prog w) A.in1 (storeInOwnDict (.ref x) (.ref C) (.str name tk) name v false) (λfin s'=>match fin with | .done f=>R (.ok f) s' | .again c'=>c'.quiet=true/\codeAny (model prog w) A c' R s') (λe s'=>R (.error e) s') s) :
 codeAny (model prog w) A (.call (.builtin "object.__setattr__") ⟨[.ref x,.str name tk,v],[]⟩) R s:=by
 have SF:=PySem.F.store_object;have ob:Looks (model prog w) s.heap (isInstance (.ref x) (.type "object")) true:=I.type.andThen (looks_mroIn X (by unfold mroIn;rw [hc,Option.bind_some,hmr];rfl));refine codeAny_call_builtin SF.slot.plain SF.entry (@check_slot (model prog w) _ _ s "object.__setattr__" "object" "__setattr__" (.ref x) [.str name tk,v] [] _ SF.kind SF.split ob (SF.args (.ref x) (.str name tk) v) ?_);have mr:Looks (model prog w) s.heap (mroOf (.ref C)) (FE C P):=by rw [<-hmr];exact (looks_clsIn X hc).andThen .now
 rw [osa_eq,refuse_eq];refine un9 (un9 (I.type.here (un9 (mr.here ?_))));rw [JH];refine uo0 (un9 (I.type.here (un9 ((looks_findIn X ha).here ?_))));exact un9 (uo0 h)
theorem T7 {E:Value->Shared->Prop}{Q:Unit->Shared->Prop}{m:Str->Option Value}{a:Str}{oD:Obj}(X:K.In s.heap)(hx:s.heap.get? x=some ox)(hcl:ox.cls = .ref C)(hno:notCls ox=true)(hod:ox.dict=some dx)(hdx:s.heap.get? dx=some oD)(n1:s.heap.Ns1 dx m)(hm:PySem.Within m [a])(hs:findIn K (.ref C) "__setattr__" = some (some (.builtin "object.__setattr__")))(hc:clsIn K C=some cd)(hmr:cd.mro=FE C P)(hd:cd.hasDict=true)(ha:findIn K (.ref C) name=some none)
 (h:∀h',(∀b o,b≠dx->s.heap.get? b=some o->h'.get? b=some o)->h'.Ns1 dx (λy=>if y=name then some v else m y)->Q () { s with heap:=h',toks:=s.toks + 2 }) :
 wpAny (model prog w) A (setAttr (.ref x) name v) Q E s:=by
 have I:InstAt s.heap x ox C (some oD):=⟨hx,hcl,hno,by rw [hod];exact hdx⟩;refine set_plain X I hs (Tr (s:={ s with toks:=s.toks + 1 }) X I hc hmr ha ?_);refine un9 (uo0 (un9 (un9 (wpAny_loadPart (s:={ s with toks:=s.toks + 1 }) hx ?_))));rw [hod,hcl];refine un9 (Looks.here (s:={ s with toks:=s.toks + 1 }) (looks_clsIn X hc) ?_);rw [hd,if_neg (by decide)];refine uo0 ?_;refine un9 (uo0 (un9 ?_));refine wpAny_nsSet1 n1 λh' n2 sb=>?_;obtain ⟨oD,esD,epD,hoD,hdD,hcD⟩:=n2.count (PySem.Within.cons name v hm);refine un9 (wpAny_lookBehind hoD (by rw [hdD];exact pastItsLine_dict (um4 hcD (by show 2<=_;decide))) ?_);exact uo0 (h h' (λb o hb e=>(sb.2 b hb).trans e) n2)
end
def bE (K:PySem.W.Frag)(P:Addr)(ta tv:TE)(f1 f:Str):TS:=λD σ H=>tv σ H λy H1=>ta σ H1 λx H2=>∃a C tp dx y1,x = .ref a/\H2 a=some (FL a C tp dx)/\H2 dx=some (.xd [(f1,y1)])/\dx≠a/\XAt K C P f/\D.nx σ (upd H2 dx (.xd [(f1,y1),(f,y)]))
theorem Rl {X:Cx}{P:Addr}{o value:Expr}{ta tv:TE}{f1 f:Str}{pos' pos:Pos}(hf:f1≠f)(ha:PE X o ta)(hv:PE X value tv)(hs:swapsWith value (some (.Attribute o f pos')) pos.line X.env=pure false):PS X (.Assign [.Attribute o f pos'] value pos) (bE X.K P ta tv f1 f):=by
 intro pins s σ H D I h;refine plainObj_wpAny_Assign_Attribute (thn (hv pins s σ H _ I h) λu s1 ⟨y,H1,I1,ry,q⟩=>thn (ha pins s1 σ H1 _ I1 q) λov s2 z9=>?_) hs;obtain ⟨x,H2,I2,rx,a,C,tp,dx,y1,ex,ea,ed,ne,c,q2⟩:=z9;subst ex;obtain rfl:ov=Value.ref a:=rx;obtain ⟨cd,c1,c2,c3⟩:=c.cl.cls;have hx:s2.heap.get? a=some { excObj C tp with dict:=some dx }:=(I2.hok a _ ea).1;obtain ⟨m,n1,rm⟩:=(show ObjOk X.prog X.w H2 s2.heap dx (.xd [(f1,y1)]) from I2.hok dx _ ed);obtain ⟨oD,ho,_⟩:=Hb n1;have hw:PySem.Within m [f1]:=λg hg=>by
  by_cases e:g=f1
  ·simp [e]
  ·exfalso;have z:=rm g;have hgb:(g == f1)=false:=beq_eq_false_iff_ne.mpr e;simp only [List.lookup,hgb] at z
   cases hm:m g with
   | none=>exact hg hm
   | some u=>rw [hm] at z;exact z
 refine T7 I2.kIn hx rfl rfl rfl ho n1 hw c.set c1 c2 c3 c.no λh' k n=>?_;have na:∀b u,s2.heap.get? b=some u->H2 b=none->b≠dx:=λb u _ z w'=>by rw [w',ed] at z;cases z
 refine ⟨σ,_,I2.un (h':=h') (t':=s2.toks + 2) ⟨λb u e1 e2 _ _=>k b u (na b u e1 e2) e1,λb u e1 e2 _ _=>⟨u.slots,k b u (na b u e1 e2) e1⟩,λb u e1 e2 _=>?_,λb u e1 _=>?_,λb xs e1=>?_,λb o' u e1=>?_,λb ps e1=>⟨#[],?_⟩⟩ λb u e1=>?_,q2⟩
 ·rw [Ai (na b u e1 e2)];exact e2
 ·by_cases hb:b=dx
  ·subst hb;obtain ⟨od',es,ep,e,_⟩:=n;exact ⟨_,e⟩
  ·exact ⟨_,k b u hb e1⟩
 ·rw [Ai (λz=>by rw [z,ed] at e1;cases e1)];exact e1
 ·rw [Ai (λz=>by rw [z,ed] at e1;cases e1)];exact e1
 ·rw [Ai (λz=>by rw [z,ed] at e1;cases e1),e1];simp
 ·by_cases hb:b=dx
  ·subst hb;rw [Ar] at e1;cases e1
   refine ⟨_,n,λg=>?_⟩
   by_cases hg:g=f
   ·subst hg;have hgb:(g == f1)=false:=beq_eq_false_iff_ne.mpr (Ne.symm hf);simp only [List.lookup,hgb,ui6,if_true];exact ry
   ·have hgb:(g == f)=false:=beq_eq_false_iff_ne.mpr hg;have z:=rm g
    by_cases hg1:g=f1
    ·subst hg1;simp only [List.lookup,ui6] at z;simp only [List.lookup,ui6,if_neg hg];exact z
    ·have hgb1:(g == f1)=false:=beq_eq_false_iff_ne.mpr hg1;simp only [List.lookup,hgb1] at z;simp only [List.lookup,hgb,hgb1,if_neg hg];exact z
  ·rw [Ai hb] at e1;refine (I2.hok b u e1).stay (λz v hz q=>k z v ?_ q) (λz q=>?_) λz xs q=>?_
   ·rcases hz with rfl | hz
    ·exact hb
    ·intro w';rw [w',ed] at hz;cases hz
   ·rw [Ai (λz=>by rw [z,ed] at q;cases q)];exact q
   ·rw [Ai (λz=>by rw [z,ed] at q;cases q)];exact q
def Hm (K:PySem.W.Frag)(P:Addr)(a b:Str):Sp:=λvs H Q _=>∃x C tp v u,vs=[.ref x,v,u]/\H x=some (exO x C tp)/\XAt K C P a/\XAt K C P b/\∀dx,H dx=none->dx≠x->Q .non (upd (upd H dx (.xd [(a,v),(b,u)])) x (FL x C tp dx))
section
variable {X:Cx}{k:Nat}{f C P:Addr}{fd:FuncData}{pins:List (Addr×Obj)}{σ:St}{H:Hp}{s:Shared}{Q:Value->Shared->Prop}{us:List Value}{vs:List V}{a b:Str}{ps:List Str}{v v2:V}{u u2:Value}
theorem Pu (M:XMk X.K C P f)(ha:XAt X.K C P a)(hab:XAt X.K C P b)(F:FnOk X.prog X.w X.K X.mg X.base CX0 k f fd ps (Hm X.K P a b))(hr:Room (k + 1) X.A)(hb:Binds X.K fd ps [])(I:Inv X pins σ H s)(r:RelV v u)(rr:RelV v2 u2)
 (h:∀s' x dx,Inv X pins σ (upd (upd H dx (.xd [(a,v),(b,v2)])) x (.ext (F2.XIs qx x C (some dx)))) s'->H x=none->H dx=none->dx≠x->s.heap.objs.size<=x->XRec true s'.heap x C (some dx) .none->Q (.ref x) s'):wpAny (model X.prog X.w) X.A (call (.ref C) [u,u2]) Q X.xe s:=by
 obtain ⟨nm,q,N,bs,sn,sub,ab,col,dd,k0,k1,k2,k3,k5,hC,hN⟩:=M.cl.obj I.kIn;have hni:s.heap.nsMap N "__init__" = some (.ref f):=by
  obtain ⟨cd,c1,c2⟩:=M.init;refine JF I.kIn hN ?_;unfold clsIn at c1
  split at c1
  ·next l=>
   cases c1
   have z:=I.kIn _ _ l;rw [hC] at z
   cases z
   exact c2
  ·cases c1
 have I1:Inv X pins σ (upd H (s.heap.objs.size + 1) (exO (s.heap.objs.size + 1) C s.heap.objs.size)) { s with heap:=DJ s.heap C [u,u2] }:=by
  refine I.laid (t':=s.toks) (λb o e=>uc1 _ (uc1 _ e)) (un7 _) (Qf ?_);show ((s.heap.push _).push _).get? _=_
  heap_get
 have hx0:=I.hok.fresh (un7 s.heap.objs.size);have r2:Vals [V.ref (s.heap.objs.size + 1),v,v2] [Value.ref (s.heap.objs.size + 1),u,u2]:=.cons rfl (.cons r (.cons rr .nil));have hsp:Hm X.K P a b [V.ref (s.heap.objs.size + 1),v,v2] (upd H (s.heap.objs.size + 1) (exO (s.heap.objs.size + 1) C s.heap.objs.size))
  (λw' H'=>w' = .non/\∃dx,H dx=none/\dx≠s.heap.objs.size + 1/\H'=upd (upd H dx (.xd [(a,v),(b,v2)])) (s.heap.objs.size + 1) (FL (s.heap.objs.size + 1) C s.heap.objs.size dx)) E0:=by
  refine ⟨_,C,s.heap.objs.size,v,v2,rfl,Ar,ha,hab,λdx h1 h2=>⟨rfl,dx,by rw [Ai h2] at h1;exact h1,h2,?_⟩⟩
  funext b
  by_cases e1:b=s.heap.objs.size + 1
  ·subst e1;rw [Ar,Ar]
  ·by_cases e2:b=dx
   ·subst e2;rw [Ai e1,Ai e1,Ar,Ar]
   ·rw [Ai e1,Ai e1,Ai e2,Ai e2,Ai e1]
 have hl:([Value.ref (s.heap.objs.size + 1),u,u2]++[]).length=ps.length:=by
  have e:=F.len _ _ _ _ hsp;simpa using e
 obtain ⟨hh,g,d,t,os⟩:=s;refine wpAny_call (M0 ua9 (M.cl.tail I.kIn) hC hN hni ((bind_fn I.kIn _ (beq_iff_eq.mp M.fn))) (by show 2<=sizeLine;decide) ?_);refine codeAny_mono (F.run _ X.stack _ _ ⟨[Value.ref (hh.objs.size + 1),u,u2],[]⟩ [Value.ref (hh.objs.size + 1),u,u2] _ _ E0 (hr.make C [u,u2] []) (I1.env0.make C [u,u2] []) (by have:=hb _ [Value.ref (hh.objs.size + 1),u,u2] I1.kIn hl;simpa using this) r2 hsp) λr s' hq'=>?_
 cases r with
 | error e=>exact hq'.elim
 | ok fl=>
   cases fl with
   | ret w'=>
     obtain ⟨v',H',I3,rv,rfl,dx,d1,d2,rfl⟩:=I1.after hq';refine ⟨rv,?_⟩;have hx:=(I3.hok (hh.objs.size + 1) _ Ar).1;have hx:s'.heap.get? (hh.objs.size + 1)=some { excObj C hh.objs.size with dict:=some dx }:=hx;have xr:XRec true s'.heap (hh.objs.size + 1) C (some dx) .none:=⟨_,_,hx,rfl,rfl,rfl,rfl,λ_=>⟨rfl,by show 4 < 6;decide⟩⟩;have I4:=I3.write (x:=hh.objs.size + 1) (e:=hh.objs.size + 1) (o:=.ext (F2.XIs qx (hh.objs.size + 1) C (some dx))) (h':=s'.heap) (t':=s'.toks) (by rw [Ar];trivial) (.inl rfl) (λ_ _ _ z=>z) ⟨_,hx⟩ (Jp xr.to.is);rw [OB] at I4;exact h s' (hh.objs.size + 1) dx I4 hx0 d1 d2 (un7 _) xr
   | next=>exact False.elim hq'
   | brk=>exact False.elim hq'
   | cont=>exact False.elim hq'
end
section
variable {X:Cx}{k:Nat}{f C P:Addr}{fd:FuncData}{a b:Str}{ps:List Str}{n:Str}{p pos:Pos}{e e':Expr}
theorem YD {t:TA}(M:XMk X.K C P f)(ha:XAt X.K C P a)(hab:XAt X.K C P b)(F:FnOk X.prog X.w X.K X.mg X.base CX0 k f fd ps (Hm X.K P a b))(hr:Room (k + 1) X.A)(hb:Binds X.K fd ps [])(hg:Gl X n)(hm:X.mg n=some (.ref C))(hA:PA X [e,e'] t)
 (hdb:(n == ("__debug__" : Str))=false:=by decide) (h1:starEach [e,e'] X.env=(false,eval e X.env) :: starEach [e'] X.env:=by rfl) (hpl:(backTo pos (starEach [e'] X.env)).any (·.1)=false:=by rfl) :
 PM qx X (.Call (.Name n p) [e,e'] [] pos) C (λσ H Q=>t σ H λvs H1=>∃v u,vs=[v,u]/\∀x dx,H1 x=none->H1 dx=none->dx≠x->Q x (some dx) (upd (upd H1 dx (.xd [(a,v),(b,u)])) x (.ext (F2.XIs qx x C (some dx))))):=by
 intro pins s σ H Q I h;refine wpAny_Call_Name_kw (CF I hg hm ?_ hdb);refine uf2 (h₀:=X.base) I.ok.mod.kin M.kp (thn (hA pos pins s σ H _ I h) λus s1 z9=>?_) h1 hpl;obtain ⟨vs,H1,I1,r,v,u,ev,q⟩:=z9;refine ⟨I1.kIn,?_⟩;subst ev
 cases r with
 | cons r0 rs=>
   cases rs with
   | cons r1 rs=>
     cases rs
     exact Pu M ha hab F hr hb I1 r0 r1 λs' x dx I' hx hdx ne nx rc=>⟨x,some dx,_,rfl,I',Ar,um4 I1.sz nx,rc,q x dx hx hdx ne⟩
end
end L2
namespace F2
open PySem L2 PySem.Spec PySem.W
variable {qx:Bool}
section
variable {X:Cx}{e e':Expr}{pos p pos2:Pos}{E:L2.St->XK}{P:Addr}{ca:Str->Addr}
def XN2 (prog:Program)(w:World)(K:PySem.W.Frag)(mg:Str->Option Value)(base:Heap)(C P:Addr):Prop:=
 ∃(f:Addr) (fd:FuncData) (ps:List Str),XMk K C P f/\XAt K C P "at"/\XAt K C P "side"/\Binds K fd ps []/\FnOk prog w K mg base CX0 1 f fd ps (Hm K P "at" "side")
def Dp (n:Str)(f:M (List D)):M Out:=bnd f λds=>match ds with
 | [d,d']=>ret (.ret (.exc n [d,d']))
 | _=>fail
theorem Qx {f:M (List D)}(x:XM X.K X.mg P ca)(xn:XN2 X.prog X.w X.K X.mg X.base (ca "Broken") P)(hr:L2.Room 2 X.A)(hc:X.calm=true)(hx:FY qx X E)(hg:Gl X "Broken")(ha:PA X [e,e'] (RA X.K f))
 (h1:AZ e=false:=by rfl) (h2:AY [e']=true:=by rfl):PS X (.Raise (some (.Call (.Name "Broken" p) [e,e'] [] pos)) none pos2) (RSX X.K E (Dp "Broken" f)):=by
 obtain ⟨fa,fd,ps,M,A,A2,B,F⟩:=xn;have hn:("Broken" : Str)∈Bu:=by decide
 refine Bn (Nj hc M.cl hx (YD M A A2 F hr B hg (x.ms _ hn) ha (by decide) (A7 h1) (AW h2).1)) λD σ H z9=>?_;obtain ⟨Oo,c,t,fi,o,t',eq,k⟩:=z9;obtain ⟨ds,t1,e1,eq⟩:=Ae eq;refine ⟨Oo,c,t,fi,ds,t1,e1,λvs H1 c1 f1 s1 rvs=>?_⟩;rcases ds with _ | ⟨d,_ | ⟨d',_ | ⟨_,_⟩⟩⟩
 ·cases eq
 ·cases eq
 ·cases rvs with
  | @cons v0 _ _ _ rv r=>
  cases r with
  | @cons v1 _ _ _ rv1 r=>
  cases r
  cases eq
  refine ⟨_,_,rfl,λy dx hy hdx ne=>?_⟩;have f2:=f1.laid (o:=.xd [("at",v0),("side",v1)]) hdx;have hy2:upd H1 dx (.xd [("at",v0),("side",v1)]) y=none:=by rw [Ai (Ne.symm ne)];exact hy
  have f3:=f2.laid (o:=.ext (XIs qx y (ca "Broken") (some dx))) hy2;have ex:=(f1.stp_laid (o:=.xd [("at",v0),("side",v1)]) hdx).ext.trans (f2.stp_laid (o:=.ext (XIs qx y (ca "Broken") (some dx))) hy2).ext;have s3:=s1.trans ((f1.stp_laid (o:=.xd [("at",v0),("side",v1)]) hdx).trans (f2.stp_laid (o:=.ext (XIs qx y (ca "Broken") (some dx))) hy2));refine k σ _ c1 f3 s3 (.ref y) (.exc (x.ns _ hn) Ar (f2.s.free hy2) ?_ (.cons (rv.mono ex) (.cons (rv1.mono ex) .nil))) y (some dx) rfl;exact ⟨by rw [Ai ne,Ar];rfl,f1.s.free hdx⟩
 ·cases eq
end
def XF2 (K:PySem.W.Frag)(C P:Addr)(qual:Str)(st:Stmt):Prop:=∃(f:Addr) (fd:FuncData),XMk K C P f/\XAt K C P "at"/\XAt K C P "side"/\Binds K fd ["self", "at", "side"] []/\Fun K "__init__" qual st f fd
theorem Zt {K:PySem.W.Frag}{C P f:Addr}{qual:Str}{st:Stmt}{od an:Option Addr}{sl:Array (Option Value)}{oc kV dc pm cd ct:Value}(o:XOne K P C)(i:MH K C f=true)(hf:isFn K (.ref f)=true)(hs:findIn K (.ref C) "__setattr__" = some (some (.builtin "object.__setattr__")))
 (l:K.lookup f=some ⟨oc,od,.func (PySem.W.fnOf "__init__" qual (DX st) (Bt st) (As st) .none kV dc pm an cd ct),sl⟩) (c:codeIn K cd qual=true) (k:keepIn K (.ref f)=true)
 (hb:∀(kV doc pm:Value) (an:Option Addr) (cdv ct:Value) (us:List Value),us.length=3->bindArgs (PySem.W.fnOf "__init__" qual (DX st) (Bt st) (As st) .none kV doc pm an cdv ct) ⟨us,[]⟩=pure ((["self", "at", "side"]:List Str).zip us)):XF2 K C P qual st:=by
 refine ⟨f,_,⟨o.cl,?_,hf,o.kp⟩,⟨o.cl,hs,o.na⟩,⟨o.cl,hs,o.nd⟩,(F1 (st:=st) l c k).binds (ps:=["self", "at", "side"]) hb,F1 (st:=st) l c k⟩;unfold MH at i
 split at i
 ·next cd' e=>exact ⟨cd',e,beq_iff_eq.mp i⟩
 ·cases i
theorem SY {prog:Program}{w:World}{K:PySem.W.Frag}{mg:Str->Option Value}{base:Heap}{C P:Addr}{qual:Str}{st:Stmt}{p1 p2 p3 p4 p5 p6 p7 p8:Pos}(hbd:Bt st=[.Assign [.Attribute (.Name "self" p1) "at" p2] (.Name "at" p3) p4,.Assign [.Attribute (.Name "self" p5) "side" p6] (.Name "side" p7) p8])(S:FnScope ["self", "at", "side"] ["self", "at", "side"] (As st))
 (s1:(As st).names.lookup ("self" : Str)=some NameKind.local) (s2:(As st).names.lookup ("at" : Str)=some NameKind.local) (s3:(As st).names.lookup ("side" : Str)=some NameKind.local) (x:XF2 K C P qual st):XN2 prog w K mg base C P:=by
 obtain ⟨f,fd,M,A,A2,B,F⟩:=x;refine ⟨f,fd,_,M,A,A2,B,F.ok (k:=0) S (λvs H Q E h=>?_) λcdv A' outer s H vs Q E hr h=>?_⟩
 ·obtain ⟨y,C',tp,v,u,rfl,_⟩:=h;rfl
 ·rw [hbd];refine ⟨_,IM (UE (P:=P) (C7 (i:=0) rfl (.inl s1) (by decide) (by decide)) (C7 (i:=1) rfl (.inl s2) (by decide) (by decide)) rfl) (HU (Rl (P:=P) (f1:="at") (by decide) (C7 (i:=0) rfl (.inl s1) (by decide) (by decide)) (C7 (i:=2) rfl (.inl s3) (by decide) (by decide)) rfl)),?_⟩;obtain ⟨y,C',tp,v,u,rfl,hy,ha,ha2,k⟩:=h;refine ⟨v,rfl,.ref y,rfl,y,C',tp,rfl,hy,ha,λdx h1 h2=>⟨u,rfl,.ref y,rfl,y,C',tp,dx,v,rfl,Ar,by rw [Ai h2,Ar],h2,ha2,?_⟩⟩;have z:=k dx h1 h2;have e:upd (upd (upd H dx (.xd [("at",v)])) y (FL y C' tp dx)) dx (.xd [("at",v),("side",u)])=upd (upd H dx (.xd [("at",v),("side",u)])) y (FL y C' tp dx):=by
   funext b
   by_cases e1:b=dx
   ·subst e1;rw [Ar,Ai h2,Ar]
   ·by_cases e2:b=y
    ·subst e2;rw [Ai e1,Ar,Ar]
    ·rw [Ai e1,Ai e2,Ai e1,Ai e2,Ai e1]
  rw [e];exact z
end F2
namespace L2
open PySem PySem.Spec PyProof.Rows PySem.W
end L2
namespace F2
open PySem L2 PySem.Spec
section
variable {X:Cx}{a b:Expr}{pos:Pos}
end
end F2
namespace L2
open PySem PySem.Spec PyProof.Rows PySem.W
theorem Lc:entryFor table "proto.unchain" = some Builtin.«proto.unchain»:=entryFor_of_tree (by kernel_rfl)
section
variable {prog:Program}{w:World}{A:Around}{E:Value->Shared->Prop}{env:Env}{K:PySem.W.Frag}{C:Addr}{bm:List Value}{s:Shared}
theorem Pz {x y:Addr}{ox:Obj}{vx:Array Value}{Q:Value->Shared->Prop}(gx:s.heap.get? x=some ox)(dx:ox.data = .fields vx)(x2:vx[2]?=some .none)(h:Q .none s) :
 wpAny (model prog w) A (runValue (.builtin "proto.unchain" ⟨[.ref y,.ref x,.ref x,.bool false],[]⟩)) Q E s:=by
 refine runValue_entry Lc ?_;unfold Builtin.«proto.unchain»;refine un9 (un8 gx dx x2 ?_);rw [if_pos (by decide)];refine un9 (uo0 (uo0 ⟨_,rfl,h⟩))
theorem TW {t c0:Sem Value}{x:Addr}{Q:Flow->Shared->Prop}(c:XCl K C bm)(hh:A.handled=some (.ref x))
 (hc0:∀(s:Shared) (Q:Value->Shared->Prop) (E:Value->Shared->Prop),Q Value.none s->wpAny (model prog w) A c0 Q E s)
 (h:wpAny (model prog w) A t (λv s1=>∃y dy ox vx,v = .ref y/\y≠x/\K.In s1.heap/\XRec true s1.heap y C dy .none/\s1.heap.get? x=some ox/\ox.data = .fields vx/\vx[2]?=some .none/\
   ∀h',XRec false h' y C dy .none->(∀b,b≠y->h'.get? b=s1.heap.get? b)->E v { s1 with heap:=h' }) E s):wpAny (model prog w) A (raiseStmt env (some t) (some c0)) Q E s:=by
 unfold raiseStmt;refine un9 (uo1 h (λv s1 q=>?_) λ_ _ z=>z);obtain ⟨y,dy,ox,vx,rfl,ne,X,⟨o,vs,hx,hc,hd,hdt,h1,h2⟩,gx,dx,x2,hE⟩:=q;obtain ⟨h2,h4⟩:=h2 rfl;obtain ⟨nm,q,N,bs,sn,sub,ab,col,dd,k0,k1,k2,k3,k5,hC,_⟩:=c.obj X;have hb:=c.has X;obtain ⟨hp,g,d,tk,os⟩:=s1;refine un9 (um1 (hc0 _ _ _ (un9 (uo0 ?_))))
 repeat (first
  | (with_reducible refine wpAny_loadPart_at hx ?_;rw [hc])
  | with_reducible refine wpAny_loadPart_at hC ?_
  | (with_reducible refine wpAny_isSubtype_exc hC ?_;rw [hb])
  | with_reducible refine un8 hx hdt h1 ?_
  | wp_step)
 have nC:C≠y:=by
  rintro rfl;rw [hC] at hx
  cases hx
  cases hdt
 rw [hdt];show wpAny _ _ (if 3 < vs.size then _ else _) _ _ _;rw [if_pos (Nat.lt_of_succ_lt h4)];refine wpAny_update hx ?_;obtain ⟨m1,m2,m3⟩:=Fp hdt (·.setIfInBounds 3 Value.none);have hx1:=ud3 (Obj.mapFields (·.setIfInBounds 3 Value.none)) hx (Obj.isFreed_of_fields m1);refine un9 (wpAny_setField hx1 m1 (by rw [ub6];exact h4) ?_);obtain ⟨n1,n2,n3⟩:=Fp m1 (·.setIfInBounds 4 (Value.bool true));have hx2:=ud3 (Obj.mapFields (·.setIfInBounds 4 (Value.bool true))) hx1 (Obj.isFreed_of_fields n1);have oth:∀b,b≠y->((hp.update y (Obj.mapFields (·.setIfInBounds 3 Value.none))).update y (Obj.mapFields (·.setIfInBounds 4 (Value.bool true)))).get? b=hp.get? b:=λb z=>by
  rw [uc3 _ _ (Ne.symm z),uc3 _ _ (Ne.symm z)]
 have hC2:=(oth C nC).trans hC;have gx2:=(oth x (Ne.symm ne)).trans gx;have hc2:=n2.trans (m2.trans hc);have hd2:=n3.trans (m3.trans hd);have t1:((vs.setIfInBounds 3 Value.none).setIfInBounds 4 (Value.bool true))[1]?=some .none:=by
  rw [ua1 (by decide),ua1 (by decide)];exact h1
 have t4:2 < ((vs.setIfInBounds 3 Value.none).setIfInBounds 4 (Value.bool true)).size:=by
  rw [ub6,ub6];lia
 show wpAny (model prog w) A _ Q E ⟨(hp.update y (Obj.mapFields (·.setIfInBounds 3 Value.none))).update y (Obj.mapFields (·.setIfInBounds 4 (Value.bool true))),g,d,tk,os⟩;generalize (hp.update y (Obj.mapFields (·.setIfInBounds 3 Value.none))).update y (Obj.mapFields (·.setIfInBounds 4 (Value.bool true)))=h3 at hx2 oth hC2 gx2;generalize ((o.mapFields (·.setIfInBounds 3 Value.none)).mapFields (·.setIfInBounds 4 (Value.bool true)))=o2 at hx2 hc2 hd2 n1;generalize ((vs.setIfInBounds 3 Value.none).setIfInBounds 4 (Value.bool true))=vs2 at n1 t1 t4;clear hx1 m1 m2 m3 n2 n3
 repeat (first
  | (with_reducible refine wpAny_loadPart_at hx2 ?_;rw [hc2])
  | with_reducible refine wpAny_loadPart_at hC2 ?_
  | (with_reducible refine wpAny_isSubtype_exc hC2 ?_;rw [hb])
  | with_reducible refine un8 hx2 n1 t1 ?_
  | wp_step)
 unfold raiseNew;refine un9 (wpAny_handled ?_);rw [hh];dsimp only;rw [if_pos (by simpa using Ne.symm ne)];refine un9 (um1 (Pz gx2 dx x2 (un9 ?_)));obtain ⟨z1,z2,z3⟩:=Fp n1 (·.setIfInBounds 2 (Value.ref x));refine wpAny_setField hx2 n1 t4 ?_;have hx3:=ud3 (Obj.mapFields (·.setIfInBounds 2 (Value.ref x))) hx2 (Obj.isFreed_of_fields z1);refine wpAny_throw (hE _ ⟨_,_,hx3,z2.trans hc2,z3.trans hd2,z1,?_,λz=>by cases z⟩ λb hb'=>?_)
 ·rw [ua1 (by decide)];exact t1
 ·rw [uc3 _ _ (Ne.symm hb')];exact oth b hb'
end
section
variable {X:Cx}{pins:List (Addr×Obj)}{σ:St}{H:Hp}{s s':Shared}{qx:Bool}{x C:Addr}{dx T:Option Addr}{fl:Value}
theorem XOn.keep (I:Inv X pins σ H s)(o:XOn qx X pins H s x C dx T fl)(k:∀b,b≠X.env.locals->(∀z c,X.env.cells.lookup z=some c->c≠b)->s'.heap.get? b=s.heap.get? b):XOn qx X pins H s' x C dx T fl:=by
 obtain ⟨ox,vs,gx,cx,dxe,dtx,tbx,xc⟩:=id o.rc;have nl:x≠X.env.locals:=λz=>by have:=o.hx;rw [z,I.free] at this;cases this
 have nc:∀z c,X.env.cells.lookup z=some c->c≠x:=λz c e w=>by
  have:=o.hx;rw [<-w,I.freeC z c e] at this
  cases this
 refine ⟨o.hx,o.nx,⟨ox,vs,(k x nl nc).trans gx,cx,dxe,dtx,tbx,xc⟩,λa e=>?_,o.fo⟩;obtain ⟨z1,z2,z3,⟨y1,y2,y3⟩,ot,ts,gT,dT,t3⟩:=o.tb a e;exact ⟨z1,z2,z3,⟨y1,y2,y3⟩,ot,ts,(k a y1 y2).trans gT,dT,t3⟩
theorem RY {M:Model}{A:Around}{E:Value->Shared->Prop}{i:Nat}{n:Str}{pos:Pos}{Q:Unit->Shared->Prop}(I:Inv X pins σ H s)(hN:X.N.Nodup)(hi:X.N[i]?=some n)(hk:X.env.scope.names.lookup n=some .local)
 (h:∀s',Inv X pins (σ.set i none) H s'->(∀b,b≠X.env.locals->(∀z c,X.env.cells.lookup z=some c->c≠b)->s'.heap.get? b=s.heap.get? b)->Q () s'):wpAny M A (do bindName X.env n .none;unbindBehindTheSuite X.env n pos) Q E s:=by
 refine un9 (wpAny_bindName (Hq (v:=.non) I hN hi (.inl hk) rfl (λs1 I1 sb1=>?_) (.inr hk)));obtain ⟨a1,sb1,ha1⟩:=sb1;unfold unbindBehindTheSuite;have hiσ:i < σ.length:=by rw [I.len];exact (ub1.mp hi).1
 obtain ⟨m,hn,hl⟩:=id I1.loc;have hcls:(X.env.scope.kind == .class || (X.env.scope.kind == .module && X.env.locals != X.env.globals))=false:=by rw [I.ok.kind];rfl
 obtain ⟨u0,_,lk⟩:=hl i n .non hi (by rw [uc0 hiσ]) (.inl hk);have hv:m n=some u0:=by
  rcases lk with ⟨_,e⟩ | ⟨k,_⟩
  ·exact e
  ·have k:X.env.scope.names.lookup n=some .cell\/X.env.scope.names.lookup n=some .free:=k;rw [hk] at k;rcases k with k | k <;> cases k
 refine wpAny_onRaise (wpAny_unbindName_local hk hn hv hcls λh' u hn' hs=>?_);have cne:=I1.cne;have tracked:HOk X.prog X.w H h':=λb ob e=>by
  refine (I1.hok b ob e).stay (λc w' hc q=>(hs.2 c ?_).trans q) (λ_ q=>q) λ_ _ q=>q;rintro rfl;rcases hc with rfl | hc
  ·rw [I1.free] at e;cases e
  ·rw [I1.free] at hc;cases hc
 have far:∀b o,X.s₀.heap.get? b=some o->b≠X.env.locals:=λb o e=>um3 (ue8 (um2 e) I1.ok.above);refine h _ ⟨I1.ok,I1.os,I1.bare,⟨λb o e n hb hx=>?_,λb o e n hb hx=>?_,I1.base.free,λb o e hx=>?_,I1.base.tups,I1.base.frzs,I1.base.tbls⟩,⟨_,hn',λj y v' e1 e2 e3=>?_⟩,λy c e=>?_,I1.free,I1.freeC,λp hp=>?_,tracked,by simpa using I.len⟩ λb hb hc=>?_
 ·exact (hs.2 b (far b o e)).trans (I1.base.keep b o e n hb hx)
 ·obtain ⟨sl,e1⟩:=I1.base.slot b o e n hb hx;exact ⟨sl,(hs.2 b (far b o e)).trans e1⟩
 ·obtain ⟨o',e1⟩:=I1.base.there b o e hx;exact ⟨o',(hs.2 b (far b o e)).trans e1⟩
 ·by_cases hj:j=i
  ·subst hj;rw [uc0 hiσ] at e2
   cases e2
  ·rw [ud7 (Ne.symm hj)] at e2;obtain ⟨u',r',q⟩:=hl j y v' e1 (by rw [ud7 (Ne.symm hj)];exact e2) e3;refine ⟨u',r',?_⟩;rcases q with ⟨k,e⟩ | ⟨k,c,e,z⟩
   ·refine .inl ⟨k,?_⟩;have:y≠n:=λe=>hj (IJ hN e1 (e ▸ hi));simp [this,e]
   ·exact .inr ⟨k,c,e,z.sameBut hs (cne y c e)⟩
 ·obtain ⟨w',z⟩:=I1.cell y c e;exact ⟨w',z.sameBut hs (cne y c e)⟩
 ·obtain ⟨e,n,ne,nf,d⟩:=I1.pin p hp;exact ⟨(hs.2 p.1 ne).trans e,n,ne,nf,d⟩
 ·rw [hs.2 b hb];refine sb1.2 b ?_;rintro rfl;rcases ha1 with z | z
  ·exact hb z
  ·exact hc _ _ z rfl
end
def Hw (X:Cx)(E:St->XK):Prop:=∀(pins:List (Addr×Obj)) (σ:St) (H:Hp) (s:Shared) (x C:Addr) (dx T:Option Addr) (fl:Value),Inv X pins σ H s->XOn false X pins H s x C dx T fl->E σ (.ref x) dx H->X.xe (.ref x) s
theorem XE.raisesT {X:Cx}{E:St->XK}:Hw (X.wish (XE false X E)) E:=λpins σ H s x C dx T fl I o q=>⟨pins,σ,H,x,C,dx,T,fl,rfl,I.unwish,⟨o.hx,o.nx,o.rc,o.tb,o.fo⟩,q⟩
section
variable {X:Cx}{n v:Str}{C' C2:Addr}{bm' bm2:List Value}{p pos p2:Pos}{e cN:Expr}{rest:List ExceptHandler}{t:St->Hp->(Addr->Option Addr->Hp->Prop)->Prop}{tr:Addr->Addr->Option Addr->TS}{i:Nat}{E:St->XK}
def bK (K:PySem.W.Frag)(C':Addr)(i:Nat)(t:St->Hp->(Addr->Option Addr->Hp->Prop)->Prop)(E:St->XK)(tr:Addr->Addr->Option Addr->TS):Addr->Addr->Option Addr->TS:=λx C dx D σ H=>∃bm,XCl K C bm/\
 if (Value.ref C :: bm).contains (.ref C')=true then t (σ.set i (some (.ref x))) H (λy dy H1=>y≠x/\H1 x=some (.ext (F2.XIs true x C dx))/\E ((σ.set i (some (.ref x))).set i none) (.ref y) dy H1) else tr x C dx D σ H
theorem ZV (h1:X.stack=X.env :: X.outer)(h2:X.env.frame=some X.env.locals)(hg:Gl X n)(hm:X.mg n=some (.ref C'))(c':XCl X.K C' bm')(hN:X.N.Nodup)(hi:X.N[i]?=some v)(hl:X.env.scope.names.lookup v=some .local)
 (c2:XCl X.K C2 bm2) (hp:∀x,PM false (X.mark x) e C2 t) (hx:Hw X E)
 (hz:∀(A:Around) (s:Shared) (Q:Value->Shared->Prop) (E:Value->Shared->Prop),Q Value.none s->wpAny (model X.prog X.w) A (eval cN X.env) Q E s)
 (hr:PH true X rest tr) (hdb:(n == ("__debug__" : Str))=false:=by decide):PH true X (.ExceptHandler (some (.Name n p)) (some v) [.Raise (some e) (some cN) p2] pos :: rest) (bK X.K C' i t E tr):=by
 intro pins s σ H x C dx T D I o ⟨bm,c,q⟩;have Im:=I.mark x;refine wpAny_handleBy_cons (codeAny_handlers_test (CF Im hg hm ?_ hdb)) (by intro z;cases z)
 refine M1 c c' I.kIn o.rc ?_
 cases hc:(Value.ref C :: bm).contains (.ref C') with
 | false=>
   rw [hc,if_neg (by decide)] at q;exact hr pins s σ H x C dx T D I o q
 | true=>
   rw [hc,if_pos rfl] at q;refine codeAny_handlers_suite_as ?_;refine ED none I o (.inl rfl) λh1' I1 o1=>?_;refine IS (v:=.ref x) I1 hN hi (.inl hl) rfl (λs2 I2=>?_) (.inr hl);refine wpAny_execs_cons ?_;rw [arm_exec_Raise];refine un9 (wpAny_standAt ?_);refine TW (x:=x) c2 rfl (λs Q E h=>un9 (hz _ _ _ _ (un9 (wpAny_standAt (uo0 h))))) ?_;refine un9 (uo1 (hp x pins s2 _ H _ (I2.mark x) q) (λw' s3 z9=>?_) λ_ _ z=>z.elim);obtain ⟨y,dy,H1,e1,I3,hy,ny,r,ne,hxx,q1⟩:=z9;subst e1;have J3:=I3.unmark I.ok;obtain ⟨ox,vx,gx,_,_,dtx,xc⟩:=(I3.hok x _ hxx).1;refine un9 (wpAny_standAt (uo0 ⟨y,dy,ox,vx,rfl,ne,I3.kIn,r,gx,dtx,(xc rfl).1,λh' r' kp=>?_⟩));obtain ⟨o1',o2',o3'⟩:=J3.newT (un5 _);have J4:=J3.left hy (J3.hok.fresh (un5 _)) ny (um4 J3.sz (un5 _)) (ch:=[y]) (h':=h') ⟨λb u hb _ e=>(kp b (by simpa using hb)).trans e,λb u hb e=>⟨u.slots,(kp b (by simpa using hb)).trans e⟩⟩ (λb hb=>.inl (by simpa using hb)) r'.is o2' o1' o3';have o4:XOn false X pins H1 { s3 with heap:=h' } y C2 dy none .none:=⟨hy,ny,r',(λa e=>by cases e),.inl rfl⟩;refine Fs I3.ok.frames J4 h1 h2 o4 λh5 a J5 o5=>?_;refine RY J5 hN hi hl λs6 J6 k6=>?_;have o6:=o5.keep J5 k6;obtain ⟨oy,vy,gy,_,_,dty,tby,_⟩:=id o6.rc;unfold PySem.passOn;refine un9 (un8 gy dty tby ?_);rw [if_neg (show ¬((Value.ref a == Value.none)=true) from by intro z;cases z)]
   rw [h2];refine un9 (ED (some X.env.locals) J6 o6 (.inr rfl) λh7 J7 o7=>wpAny_throw ?_);refine Fs I3.ok.frames J7 h1 h2 o7 λh8 a8 J8 o8=>?_;obtain ⟨oz,vz,gz,_,_,dtz,tbz,_⟩:=id o8.rc;show cameBackBy _ _ _ _ _ _;unfold cameBackBy;refine un9 (un8 gz dtz tbz ?_);rw [if_neg (show ¬((Value.ref a8 == Value.none)=true) from by intro z;cases z)]
   rw [h2];exact ED (some X.env.locals) J8 o8 (.inr rfl) λh9 J9 o9=>hx pins _ H1 _ y C2 dy _ _ J9 o9 q1
end
structure FnOkH (P:Program)(w:World)(K:PySem.W.Frag)(mg:Str->Option Value)(base:Heap)(CX:CXT)(k:Nat)(f:Addr)(fd:FuncData)(ps:List Str)(sp:Sp):Prop where
 len:∀vs H Q E,sp vs H Q E->vs.length=ps.length
 run:∀(z:Addr) (A:Around) (outer:List Env) (s:Shared) (H:Hp) (args:Args) (us:List Value) (vs:List V) (Q:VK) (E:XK),Room k A->Env0 P w K mg base A outer s H->BindsTo s fd args (ps.zip us)->Vals vs us->sp vs H Q E->
  codeAny (model P w) (A.mark (some (.ref z))) (.call (.ref f) args) (CR CX outer P w H s Q E) s
theorem XO {CX:CXT}{P:Program}{w:World}{K:PySem.W.Frag}{mg:Str->Option Value}{base:Heap}{k:Nat}{f:Addr}{name qual:Str}{params:Arguments}{body:List Stmt}{scope:Scope}{dV kV doc pm cdv ct oc:Value}{an od:Option Addr}
 {osl:Array (Option Value)} {N ps:List Str} {sp:Sp} (lk:K.lookup f=some ⟨oc,od,.func (PySem.W.fnOf name qual params body scope dV kV doc pm an cdv ct),osl⟩) (hcd:PySem.W.codeIn K cdv qual=true) (S:FnScope N ps scope)
 (len:∀vs H Q E,sp vs H Q E->vs.length=ps.length)
 (hbody:∀(z:Addr) (A:Around) (outer:List Env) (s:Shared) (H:Hp) (vs:List V) (Q:VK) (E:XK),Room k (A.deeper (envOfC qual scope s.heap.objs.size f cdv))->sp vs H Q E->
   ∃t,PSs ((Dh CX P w K mg base N qual scope f cdv A outer s H E).mark z) body t/\t { nx:=λ_ H'=>Q .non H',rt:=Q } (start N vs) H) :
 FnOkH P w K mg base CX (k + 1) f (PySem.W.fnOf name qual params body scope dV kV doc pm an cdv ct) ps sp:=by
 refine ⟨len,λz A outer s H args us vs Q E hr e0 hb r hsp=>?_⟩;have hl:=len _ _ _ _ hsp;have KX:K.In s.heap:=e0.mod.kin.keeps λb o e=>(e0.bs b o e).1;have lim:s.heap.NoLimit:=e0.mod.nolimit.keeps λb o e=>(e0.bs b o e).1;have hkind:∀y∈ps.zip us,scope.names.lookup y.1=some .local\/(scope.names.lookup y.1=some .cell/\((cellsFrom (s.heap.objs.size + 1) scope.names []).lookup y.1).isSome=true):=λz9 hy=>by
  obtain ⟨n,v⟩:=z9;rcases S.par n (uj4 hy).1 with q | q
  ·exact .inl q
  ·exact .inr ⟨q,uc2 _ _ _ (.inl q)⟩
 refine codeAny_call_function (A:=A.mark (some (.ref z))) hr.depth (KX _ _ lk) rfl S.co S.gen rfl (PySem.W.codeRec_of KX hcd) (hb _ _ _ _ ?_);refine wpAny_newFunctionEnv_cells S.kind hkind λenv he s1 x=>?_;subst he;refine ⟨lim.keeps x.toInCall.keep,codeAny_func ?_⟩;obtain ⟨t,ht,hq⟩:=hbody z A outer s H vs Q E (hr.deeper _) hsp;have I:Inv (Dh CX P w K mg base N qual scope f cdv A outer s H E) [] (start N vs) H s1:=KW S hr.hd e0 hl r x;refine uo1 (ht [] s1 (start N vs) H _ (I.mark z) hq) (λfl s' hs=>?_) λe s' hs=>hs.elim;have fin:∀{σ':St} {H':Hp} {v:V} {u:Value},Inv ((Dh CX P w K mg base N qual scope f cdv A outer s H E).mark z) [] σ' H' s'->RelV v u->Q v H'->CE outer P w H s Q u s':=
  λ{σ' H' v u} J rv q=>⟨v,H',J.os,J.bare,J.base,J.hok,rv,q⟩
 cases fl with
 | ret u=>
   obtain ⟨v,σ',H',J,rv,q⟩:=hs;exact fin J rv q
 | next=>
   obtain ⟨σ',H',J,q⟩:=hs;exact fin (v:=V.non) (u:=Value.none) J rfl q
 | brk=>
   obtain ⟨_,_,_,q⟩:=hs;exact False.elim q
 | cont=>
   obtain ⟨_,_,_,q⟩:=hs;exact False.elim q
theorem Fun.okH {P:Program}{w:World}{K:PySem.W.Frag}{mg:Str->Option Value}{base:Heap}{x qual:Str}{st:Stmt}{f:Addr}{fd:FuncData}{N ps:List Str}{k:Nat}{sp:Sp}(F:Fun K x qual st f fd)(S:FnScope N ps (As st))(len:∀vs H Q E,sp vs H Q E->vs.length=ps.length)
 (hbody:∀(cdv:Value) (z:Addr) (A:Around) (outer:List Env) (s:Shared) (H:Hp) (vs:List V) (Q:VK) (E:XK),Room k (A.deeper (envOfC qual (As st) s.heap.objs.size f cdv))->sp vs H Q E->
   ∃t,PSs ((Dh CX0 P w K mg base N qual (As st) f cdv A outer s H E).mark z) (Bt st) t/\t { nx:=λ_ H'=>Q .non H',rt:=Q } (start N vs) H):FnOkH P w K mg base CX0 (k + 1) f fd ps sp:=by
 obtain ⟨oc,od,kV,doc,pm,an,cdv,ct,osl,rfl,lk,hcd⟩:=F.ex;exact XO lk hcd S len λz A outer s H vs Q E hr hsp=>hbody cdv z A outer s H vs Q E hr hsp
section
variable {qx:Bool}{X:Cx}{k:Nat}{f C P:Addr}{fd:FuncData}{pins:List (Addr×Obj)}{σ:St}{H:Hp}{s:Shared}{Q:Value->Shared->Prop}{us:List Value}{vs:List V}{a b:Str}{ps:List Str}{v v2:V}{u u2:Value}{n:Str}{p pos:Pos}{e e':Expr}
theorem NL {z:Addr}(M:XMk X.K C P f)(ha:XAt X.K C P a)(hab:XAt X.K C P b)(F:FnOkH X.prog X.w X.K X.mg X.base CX0 k f fd ps (Hm X.K P a b))(hr:Room (k + 1) X.A)(hb:Binds X.K fd ps [])(I:Inv (X.mark z) pins σ H s)(r:RelV v u)(rr:RelV v2 u2)
 (h:∀s' x dx,Inv (X.mark z) pins σ (upd (upd H dx (.xd [(a,v),(b,v2)])) x (.ext (F2.XIs qx x C (some dx)))) s'->H x=none->H dx=none->dx≠x->s.heap.objs.size<=x->XRec true s'.heap x C (some dx) .none->Q (.ref x) s'):wpAny (model X.prog X.w) (X.mark z).A (call (.ref C) [u,u2]) Q (X.mark z).xe s:=by
 obtain ⟨nm,q,N,bs,sn,sub,ab,col,dd,k0,k1,k2,k3,k5,hC,hN⟩:=M.cl.obj I.kIn;have hni:s.heap.nsMap N "__init__" = some (.ref f):=by
  obtain ⟨cd,c1,c2⟩:=M.init;refine JF I.kIn hN ?_;unfold clsIn at c1
  split at c1
  ·next l=>
   cases c1
   have z:=I.kIn _ _ l;rw [hC] at z
   cases z
   exact c2
  ·cases c1
 have I1:Inv (X.mark z) pins σ (upd H (s.heap.objs.size + 1) (exO (s.heap.objs.size + 1) C s.heap.objs.size)) { s with heap:=DJ s.heap C [u,u2] }:=by
  refine I.laid (t':=s.toks) (λb o e=>uc1 _ (uc1 _ e)) (un7 _) (Qf ?_);show ((s.heap.push _).push _).get? _=_
  heap_get
 have hx0:=I.hok.fresh (un7 s.heap.objs.size);have r2:Vals [V.ref (s.heap.objs.size + 1),v,v2] [Value.ref (s.heap.objs.size + 1),u,u2]:=.cons rfl (.cons r (.cons rr .nil));have hsp:Hm X.K P a b [V.ref (s.heap.objs.size + 1),v,v2] (upd H (s.heap.objs.size + 1) (exO (s.heap.objs.size + 1) C s.heap.objs.size))
  (λw' H'=>w' = .non/\∃dx,H dx=none/\dx≠s.heap.objs.size + 1/\H'=upd (upd H dx (.xd [(a,v),(b,v2)])) (s.heap.objs.size + 1) (FL (s.heap.objs.size + 1) C s.heap.objs.size dx)) E0:=by
  refine ⟨_,C,s.heap.objs.size,v,v2,rfl,Ar,ha,hab,λdx h1 h2=>⟨rfl,dx,by rw [Ai h2] at h1;exact h1,h2,?_⟩⟩
  funext b
  by_cases e1:b=s.heap.objs.size + 1
  ·subst e1;rw [Ar,Ar]
  ·by_cases e2:b=dx
   ·subst e2;rw [Ai e1,Ai e1,Ar,Ar]
   ·rw [Ai e1,Ai e1,Ai e2,Ai e2,Ai e1]
 have hl:([Value.ref (s.heap.objs.size + 1),u,u2]++[]).length=ps.length:=by
  have e:=F.len _ _ _ _ hsp;simpa using e
 obtain ⟨hh,g,d,t,os⟩:=s;refine wpAny_call (M0 ua9 (M.cl.tail I.kIn) hC hN hni ((bind_fn I.kIn _ (beq_iff_eq.mp M.fn))) (by show 2<=sizeLine;decide) ?_);refine codeAny_mono (F.run z _ X.stack _ _ ⟨[Value.ref (hh.objs.size + 1),u,u2],[]⟩ [Value.ref (hh.objs.size + 1),u,u2] _ _ E0 (hr.make C [u,u2] []) (Env0.make (A:=X.A) ⟨I1.env0.frames,I1.env0.mod,I1.env0.bs,I1.env0.bsz,I1.env0.funs,I1.env0.frf,I1.env0.hok,I1.env0.bare⟩ C [u,u2] []) (by have:=hb _ [Value.ref (hh.objs.size + 1),u,u2] I1.kIn hl;simpa using this) r2 hsp) λr s' hq'=>?_
 cases r with
 | error e=>exact hq'.elim
 | ok fl=>
   cases fl with
   | ret w'=>
     obtain ⟨v',H',I3,rv,rfl,dx,d1,d2,rfl⟩:=I1.after hq';refine ⟨rv,?_⟩;have hx:=(I3.hok (hh.objs.size + 1) _ Ar).1;have hx:s'.heap.get? (hh.objs.size + 1)=some { excObj C hh.objs.size with dict:=some dx }:=hx;have xr:XRec true s'.heap (hh.objs.size + 1) C (some dx) .none:=⟨_,_,hx,rfl,rfl,rfl,rfl,λ_=>⟨rfl,by show 4 < 6;decide⟩⟩;have I4:=I3.write (x:=hh.objs.size + 1) (e:=hh.objs.size + 1) (o:=.ext (F2.XIs qx (hh.objs.size + 1) C (some dx))) (h':=s'.heap) (t':=s'.toks) (by rw [Ar];trivial) (.inl rfl) (λ_ _ _ z=>z) ⟨_,hx⟩ (Jp xr.to.is);rw [OB] at I4;exact h s' (hh.objs.size + 1) dx I4 hx0 d1 d2 (un7 _) xr
   | next=>exact False.elim hq'
   | brk=>exact False.elim hq'
   | cont=>exact False.elim hq'
theorem V9 {z:Addr}{t:TA}(M:XMk X.K C P f)(ha:XAt X.K C P a)(hab:XAt X.K C P b)(F:FnOkH X.prog X.w X.K X.mg X.base CX0 k f fd ps (Hm X.K P a b))(hr:Room (k + 1) X.A)(hb:Binds X.K fd ps [])(hg:Gl (X.mark z) n)(hm:X.mg n=some (.ref C))(hA:PA (X.mark z) [e,e'] t)
 (hdb:(n == ("__debug__" : Str))=false:=by decide) (h1:starEach [e,e'] X.env=(false,eval e X.env) :: starEach [e'] X.env:=by rfl) (hpl:(backTo pos (starEach [e'] X.env)).any (·.1)=false:=by rfl) :
 PM qx (X.mark z) (.Call (.Name n p) [e,e'] [] pos) C (λσ H Q=>t σ H λvs H1=>∃v u,vs=[v,u]/\∀x dx,H1 x=none->H1 dx=none->dx≠x->Q x (some dx) (upd (upd H1 dx (.xd [(a,v),(b,u)])) x (.ext (F2.XIs qx x C (some dx))))):=by
 intro pins s σ H Q I h;refine wpAny_Call_Name_kw (CF I hg hm ?_ hdb);refine uf2 (h₀:=X.base) I.ok.mod.kin M.kp (thn (hA pos pins s σ H _ I h) λus s1 z9=>?_) h1 hpl;obtain ⟨vs,H1,I1,r,v,u,ev,q⟩:=z9;refine ⟨I1.kIn,?_⟩;subst ev
 cases r with
 | cons r0 rs=>
   cases rs with
   | cons r1 rs=>
     cases rs
     exact NL (X:=X) (z:=z) M ha hab F hr hb I1 r0 r1 λs' x dx I' hx hdx ne nx rc=>⟨x,some dx,_,rfl,I',Ar,um4 I1.sz nx,rc,q x dx hx hdx ne⟩
end
end L2
namespace F2
open PySem L2 PySem.Spec PySem.W
section
variable {X:Cx}{pos p p2 p3 p4:Pos}{P:Addr}{ca:Str->Addr}{E:XK}{e e' cN:Expr}
def Se (prog:Program)(w:World)(K:PySem.W.Frag)(mg:Str->Option Value)(base:Heap)(C P:Addr):Prop:=
 ∃(f:Addr) (fd:FuncData) (ps:List Str),XMk K C P f/\XAt K C P "at"/\XAt K C P "side"/\Binds K fd ps []/\FnOkH prog w K mg base CX0 1 f fd ps (Hm K P "at" "side")
theorem ZC {n' v:Str}{C':Addr}{bm':List Value}{i:Nat}{rest:List ExceptHandler}{f:M (List D)}{r:D->M Out}(x:XM X.K X.mg P ca)(xn:Se X.prog X.w X.K X.mg X.base (ca "Broken") P)(h1:X.stack=X.env :: X.outer)(h2:X.env.frame=some X.env.locals)(hr:L2.Room 2 X.A)
 (hg:Gl X n') (hm:X.mg n'=some (.ref C')) (c':XCl X.K C' bm') (hs:∀n∈Bu,(Value.ref (ca n) :: .ref P :: VE).contains (.ref C')=E1 n n')
 (hN:X.N.Nodup) (hi:X.N[i]?=some v) (hl:X.env.scope.names.lookup v=some .local) (hx:Hw X (λ_=>E)) (hgB:Gl X "Broken") (ha:∀x,PA (X.mark x) [e,e'] (RA X.K f))
 (hz:∀(A:Around) (s:Shared) (Q:Value->Shared->Prop) (E:Value->Shared->Prop),Q Value.none s->wpAny (model X.prog X.w) A (eval cN X.env) Q E s)
 (hrest:PH true X rest (RH X.K ca (μX X.K E) r)) (hdb:(n' == ("__debug__" : Str))=false:=by decide) (hs1:AZ e=false:=by rfl) (hs2:AY [e']=true:=by rfl) :
 PH true X (.ExceptHandler (some (.Name n' p)) (some v) [.Raise (some (.Call (.Name "Broken" p3) [e,e'] [] p4)) (some cN) p2] pos :: rest) (RH X.K ca (μX X.K E) (hAs n' i (Dp "Broken" f) r)):=by
 obtain ⟨fa,fd,ps,M,A,A2,B,F⟩:=xn;have hnB:("Broken" : Str)∈Bu:=by decide
 intro pins s0 σ H y C dx T D I o q;refine ZV h1 h2 hg hm c' hN hi hl M.cl (λz=>V9 M A A2 F hr B hgB (x.ms _ hnB) (ha z) (by decide) (A7 hs1) (AW hs2).1) hx hz hrest hdb pins s0 σ H y C dx T D I o ?_;obtain ⟨Oo,c,t,n,ds,fi,hn,rfl,rv,o1,t',eq,k⟩:=q;refine ⟨_,x.cl n hn,?_⟩;rw [hs n hn];unfold hAs at eq;dsimp only at eq
 by_cases hb':E1 n n'=true
 ·rw [if_pos hb'] at eq ⊢
  cases e1:Dp "Broken" f { t with env:=t.env.set i (some (.val (.exc n ds))) } with
  | none=>rw [e1] at eq;cases eq
  | some z=>
    obtain ⟨o2,t2⟩:=z;rw [e1] at eq
    cases eq
    obtain ⟨es,t1,e2,e1⟩:=Ae e1;have hny:¬c.A y:=by cases rv with | exc _ _ hA _ _=>exact hA
    refine ⟨Oo,c,_,fi.set rv,es,t1,e2,λvs H1 c1 f1 s1 rvs=>?_⟩;rcases es with _ | ⟨d,_ | ⟨d',_ | ⟨_,_⟩⟩⟩
    ·cases e1
    ·cases e1
    ·cases rvs with
     | @cons v0 _ _ _ r0 rs=>
     cases rs with
     | @cons v1 _ _ _ r1 rs=>
     cases rs
     cases e1
     refine ⟨_,_,rfl,λu du hu hdu ne=>?_⟩;have hy1:H1 y=some (.ext (XIs true y (ca n) dx)):=s1.ext.keep _ _ o.hx hny;have nyu:y≠u:=λz=>by rw [z,hu] at hy1;cases hy1
     have nyd:y≠du:=λz=>by rw [z,hdu] at hy1;cases hy1
     have f2:=f1.laid (o:=.xd [("at",v0),("side",v1)]) hdu;have hu2:upd H1 du (.xd [("at",v0),("side",v1)]) u=none:=by rw [Ai (Ne.symm ne)];exact hu
     have f3:=f2.laid (o:=.ext (XIs false u (ca "Broken") (some du))) hu2;have ex:=(f1.stp_laid (o:=.xd [("at",v0),("side",v1)]) hdu).ext.trans (f2.stp_laid (o:=.ext (XIs false u (ca "Broken") (some du))) hu2).ext;have s3:=s1.trans ((f1.stp_laid (o:=.xd [("at",v0),("side",v1)]) hdu).trans (f2.stp_laid (o:=.ext (XIs false u (ca "Broken") (some du))) hu2));refine ⟨Ne.symm nyu,by rw [Ai nyu,Ai nyd];exact hy1,?_⟩;refine k _ _ c1 (f3.unset i) s3 (.ref u) (.exc (x.ns _ hnB) Ar (f2.s.free hu2) ?_ (.cons (r0.mono ex) (.cons (r1.mono ex) .nil))) u (some du) rfl;exact ⟨by rw [Ai ne,Ar];rfl,f1.s.free hdu⟩
    ·cases e1
 ·rw [if_neg hb'] at eq ⊢;exact ⟨Oo,c,t,n,ds,fi,hn,rfl,rv,o1,t',eq,k⟩
end
theorem QJ {prog:Program}{w:World}{K:PySem.W.Frag}{mg:Str->Option Value}{base:Heap}{C P:Addr}{qual:Str}{st:Stmt}{p1 p2 p3 p4 p5 p6 p7 p8:Pos}(hbd:Bt st=[.Assign [.Attribute (.Name "self" p1) "at" p2] (.Name "at" p3) p4,.Assign [.Attribute (.Name "self" p5) "side" p6] (.Name "side" p7) p8])(S:FnScope ["self", "at", "side"] ["self", "at", "side"] (As st))
 (s1:(As st).names.lookup ("self" : Str)=some NameKind.local) (s2:(As st).names.lookup ("at" : Str)=some NameKind.local) (s3:(As st).names.lookup ("side" : Str)=some NameKind.local) (x:XF2 K C P qual st):Se prog w K mg base C P:=by
 obtain ⟨f,fd,M,A,A2,B,F⟩:=x;refine ⟨f,fd,_,M,A,A2,B,F.okH (k:=0) S (λvs H Q E h=>?_) λcdv z A' outer s H vs Q E hr h=>?_⟩
 ·obtain ⟨y,C',tp,v,u,rfl,_⟩:=h;rfl
 ·rw [hbd];refine ⟨_,IM (UE (P:=P) (C7 (i:=0) rfl (.inl s1) (by decide) (by decide)) (C7 (i:=1) rfl (.inl s2) (by decide) (by decide)) rfl) (HU (Rl (P:=P) (f1:="at") (by decide) (C7 (i:=0) rfl (.inl s1) (by decide) (by decide)) (C7 (i:=2) rfl (.inl s3) (by decide) (by decide)) rfl)),?_⟩;obtain ⟨y,C',tp,v,u,rfl,hy,ha,ha2,k⟩:=h;refine ⟨v,rfl,.ref y,rfl,y,C',tp,rfl,hy,ha,λdx h1 h2=>⟨u,rfl,.ref y,rfl,y,C',tp,dx,v,rfl,Ar,by rw [Ai h2,Ar],h2,ha2,?_⟩⟩;have z:=k dx h1 h2;have e:upd (upd (upd H dx (.xd [("at",v)])) y (FL y C' tp dx)) dx (.xd [("at",v),("side",u)])=upd (upd H dx (.xd [("at",v),("side",u)])) y (FL y C' tp dx):=by
   funext b
   by_cases e1:b=dx
   ·subst e1;rw [Ar,Ai h2,Ar]
   ·by_cases e2:b=y
    ·subst e2;rw [Ai e1,Ar,Ar]
    ·rw [Ai e1,Ai e2,Ai e1,Ai e2,Ai e1]
  rw [e];exact z
end F2
namespace L2
open PySem PySem.Spec PyProof.Rows
section
variable {prog:Program}{w:World}{A:Around}{E:Value->Shared->Prop}{s:Shared}
variable {I:Addr}{fp wr:List Addr}{G:Array GenState->Array GenState->Prop}{n:Nat}{P:Nat->Value->Prop}{St:Nat->Shared->Prop}
def df (prog:Program)(w:World)(h:Heap)(no:List Addr)(k:Key)(x v:Value):Prop:=∃(p:Addr) (o:Obj) (kv:Value) (q:Nat),v = .ref p/\p∉no/\h.get? p=some o/\o.cls = .type "tuple"/\o.data = .seq #[kv,x] q/\(BQ prog w).is k kv=true
end
section
variable {X:Cx}
end
end L2
namespace F2
open PySem L2 PySem.Spec PyProof.Rows
section
variable {X:Cx}{pos:Pos}{e:Expr}
end
end F2
namespace L2
open PySem PySem.Spec PyProof.Rows
def YQ (neg:Bool):R2:=λx y H Q=>∃a kvs k,x = .str k/\y = .ref a/\H a=some (.dK kvs)/\Q (.bl (if neg then !(Dz kvs (Sum.inr k:Key)).isSome else (Dz kvs (Sum.inr k:Key)).isSome)) H
section
variable {X:Cx}
theorem Ym (hu:X.A.units + 64 < cLine):OpR X (compareOp .In) (YQ false):=by
 intro pins s σ H x y v u Q I rx ry h;obtain ⟨a,kvs,k,rfl,rfl,e,q⟩:=h
 cases ry
 exact a9 (by lia) I (DGet.k (k:=(Sum.inr k:Key)) e) rx λs' I'=>⟨.bl _,H,I',rfl,q⟩
theorem OQ:Cm X (.type "dict") (λxs H Q=>∃(p:Addr) (kvs:List (Key×V)),xs=[.ref p]/\H p=some (.dK kvs)/\∀l,H l=none->Q (.ref l) (upd H l (.dK kvs))):=by
 intro pins s σ H xs us0 Q I r h;obtain ⟨p,kvs,rfl,e,q⟩:=h;obtain ⟨u,rfl,rx⟩:=E7 r
 cases rx
 obtain ⟨hz,hp,vs,rel,dd⟩:=LB I.hok e;refine kt_call_dict hp dd (by rw [<-rel.length];exact hz) λh' hD sb=>?_;have nm:(s.heap.objs.size == sysModules)=false:=by
  have:=I.big;rw [beq_eq_false_iff_ne];exact um6 this
 have hk:∀b o,s.heap.get? b=some o->h'.get? b=some o:=λb o eb=>by
  rw [sb.2 b (um3 (um2 eb))];exact uc1 _ eb
 exact ⟨.ref s.heap.objs.size,_,I.laid (t':=s.toks) hk (un5 _) (Mn hz nm rel hD),rfl,q _ (I.hok.fresh (un5 _))⟩
end
end L2
namespace F2
open PySem L2 PySem.Spec PyProof.Rows
def inS (neg:Bool):D->D->M D
 | .str k,.obj n=>λt=>match t.S[n]? with
   | some (.dct kvs)=>some (.bl (if neg then !(A6 kvs (.inr k)).isSome else (A6 kvs (.inr k)).isSome),t)
   | _=>none
 | _,_=>fail
def Hz:List D->M D
 | [.obj n]=>λt=>match t.S[n]? with
   | some (.dct kvs)=>some (.obj t.S.length,{ t with S:=t.S++[.dct kvs] })
   | _=>none
 | _=>fail
section
variable {K:PySem.W.Frag}
theorem Ww {neg:Bool}:Bi K (YQ neg) (inS neg):=λ{Oo c t σ H x y dx dy r t' Q} f rx ry eq k=>by
 unfold inS at eq
 split at eq
 ·next z n=>
  cases rx
  cases ry with
  | @obj a kk hk=>
    split at eq
    ·next kvs es=>
     cases eq
     obtain ⟨us,g1,g2⟩:=f.s.obs _ a _ hk es;refine ⟨a,us,z,rfl,rfl,g1,?_⟩;rw [g2.has];exact k _ H c f .refl (.bl _)
    ·cases eq
 ·cases eq
end
section
variable {X:Cx}{pos:Pos}{e:Expr}
theorem SA {f:M (List D)}{p:Pos}(hg:Gl X "dict")(hm:X.mg "dict" = none)(ha:PA X [e] (RA X.K f))(h1:AZ e=false:=by rfl) :
 PE X (.Call (.Name "dict" p) [e] [] pos) (RE X.K (fB f Hz)):=
 AK (Hg OQ hg hm (by decide +kernel) ha (by decide) (by decide) (A7 h1) rfl) λσ H Q z9=>by
  obtain ⟨Oo,c,t,fi,r,t',eq,k⟩:=z9;obtain ⟨as,t1,e1,eq⟩:=Ae eq;unfold Hz at eq
  split at eq
  ·next n=>
   split at eq
   ·next kvs es=>
    cases eq
    refine ⟨Oo,c,t,fi,_,_,e1,λvs H1 c1 f1 s1 rv=>?_⟩;obtain ⟨v,rfl,rw1⟩:=DK rv
    cases rw1 with
    | @obj a kk hk=>
    obtain ⟨us,g1,g2⟩:=f1.s.obs _ a _ hk es;refine ⟨a,us,rfl,g1,λl hnl=>?_⟩;obtain ⟨c2,f2,s2,eo⟩:=f1.newObj (o:=.dct kvs) (u:=.dK us) hnl λc' H' ex hu=>⟨_,hu,g2.mono ex⟩;exact k _ _ c2 f2 (s1.trans s2) (.obj eo)
   ·cases eq
  ·cases eq
end
end F2
namespace F2
open PySem L2 PySem.Spec PySem.W
theorem Vi {P:Program}{w:World}{K:PySem.W.Frag}{mg:Str->Option Value}{base:Heap}{x qual:Str}{st:Stmt}{fa:Addr}{fd:FuncData}{N ps:List Str}{k n m:Nat}{g:M Out}(e1:ps.length=n)(e2:N.length=m)(F:Fun K x qual st fa fd)(S:FnScope N ps (As st))
 (hb:∀(cdv:Value) (A:Around) (outer:List Env) (s:Shared) (H:Hp) (E:XK),L2.Room k (A.deeper (PyProof.Rows.envOfC qual (As st) s.heap.objs.size fa cdv))->
   Cj (CX1 false P w) (cxX false P w K mg base N qual (As st) fa cdv A outer s H E) (λ_=>E)->FY false (cxX false P w K mg base N qual (As st) fa cdv A outer s H E) (λ_=>E)->
   PassesOwn (model P w) (cxX false P w K mg base N qual (As st) fa cdv A outer s H E).A (cxX false P w K mg base N qual (As st) fa cdv A outer s H E).env (cxX false P w K mg base N qual (As st) fa cdv A outer s H E).xe->
   Hw (cxX false P w K mg base N qual (As st) fa cdv A outer s H E) (λ_=>E)->
   PSs (cxX false P w K mg base N qual (As st) fa cdv A outer s H E) (Bt st) (RSg K (μX K E) g)):FnOk P w K mg base (CX1 false P w) (k + 1) fa fd ps (spX K (fnOf n m g)):=
 N0 e1 e2 F S λcdv A outer s H E hr h1 h2 h3=>hb cdv A outer s H E hr h1 h2 h3 XE.raisesT
theorem Vt {M:Model}{env:Env}{j:Nat}{pos:Pos}:∀(A:Around) (s:Shared) (Q:Value->Shared->Prop) (E:Value->Shared->Prop),Q Value.none s->wpAny M A (eval (.Constant .none j pos) env) Q E s:=λA s Q E h=>uo0 h
section
variable {X:Cx}
end
end F2
namespace F2
open PySem L2 PySem.Spec PyProof.Rows
section
variable {K:PySem.W.Frag}
def dX:D->Option Int->Option Int->M D
 | .obj k,lo,hi=>λt=>match t.S[k]? with
   | some (.lst ds)=>some (.lst (B5 ds lo hi),t)
   | _=>none
 | x,lo,hi=>Fz x lo hi
end
abbrev Gd:=Option (Nat×List D)
def Gon (g:Gd)(S:List Ob):Prop:=∀k xs,g=some (k,xs)->S[k]?=some (.lst xs)
def chk (g:Gd):M Unit:=λt=>@ite _ (Gon g t.S) (Classical.propDecidable _) (some ((),t)) none
variable {g:Gd}
theorem Mh {t t':T}{u:Unit}(h:chk g t=some (u,t')):Gon g t.S/\t'=t:=by
 unfold chk at h
 split at h
 ·next q=>cases h;exact ⟨q,rfl⟩
 ·cases h
theorem Qa {t:T}(h:Gon g t.S):chk g t=some ((),t):=by unfold chk;rw [if_pos h]
def compG (g:Gd)(st:D->M Unit)(tst:M Bool)(elt:M D):List D->M (List D)
 | []=>bnd (chk g) λ_=>ret []
 | d :: r=>bnd (chk g) λ_=>bnd (st d) λ_=>bnd tst λk=>if k=true then bnd elt λx=>bnd (compG g st tst elt r) λxs=>ret (x :: xs) else compG g st tst elt r
def Fh (n:Nat)(fr:List Nat)(f:M (Gd×List D))(st:D->M Unit)(tst:M Bool)(elt:M D):M (List D):=bnd f λp t=>match compG p.1 st tst elt p.2 ⟨cenv n fr t.env,t.S⟩ with
 | some (xs,t')=>if xs.length<=LIM then some (xs,{ t with S:=t'.S }) else none
 | none=>none
structure ItOk3 (K:PySem.W.Frag)(J:It)(g:Gd)(c:Cf)(H:Hp)(ds:List D):Prop where
 go:∀c' H' S' (i:Nat),Ext c H c' H'->SInv K c' S' H'->Gon g S'->i < ds.length->J.go i H'
 yld:∀c' H' S' (i:Nat) x H'' d,Ext c H c' H'->SInv K c' S' H'->Gon g S'->ds[i]?=some d->J.yld i H' x H''->∃p vs es,x = .ref p/\H' p=none/\H''=upd H' p (.tup vs)/\d = .tup es/\Reps K c' H' vs es
 stop:∀c' H' S',Ext c H c' H'->SInv K c' S' H'->Gon g S'->J.stop ds.length H'
inductive RI3 (K:PySem.W.Frag)(f:M (Gd×List D))(σ:L2.St)(H:Hp)(R:It->Hp->Prop):Prop where
 | mk (Oo:Addr->Prop) (c:Cf) (t:T) (fi:FInv K Oo c t σ H) (p:Gd×List D) (t':T) (e:f t=some (p,t')) (k:∀J H' c',FInv K Oo c' t' σ H'->Stp Oo c H c' H'->ItOk3 K J p.1 c' H' p.2->R J H'):RI3 K f σ H R
section
variable {X:Cx}{e a b tg iter elt:Expr}{ifs:List Expr}{pos:Pos}{scope:Scope}{N':List Str}{n:Nat}{fr:List Nat}{st:D->M Unit}{tst:M Bool}{el:M D}
end
structure ItOkG (K:PySem.W.Frag)(J:It)(g:Gd)(c:Cf)(H:Hp)(ds:List D):Prop where
 go:∀c' H' S' (i:Nat),Ext c H c' H'->SInv K c' S' H'->Gon g S'->i < ds.length->J.go i H'
 yld:∀c' H' S' (i:Nat) x H'' d,Ext c H c' H'->SInv K c' S' H'->Gon g S'->ds[i]?=some d->J.yld i H' x H''->H''=H'/\Rep K c' H' x d
 stop:∀c' H' S',Ext c H c' H'->SInv K c' S' H'->Gon g S'->J.stop ds.length H'
variable {K:PySem.W.Frag}{H:Hp}
theorem ItOk.toG {J:It}{c:Cf}{ds:List D}(h:ItOk K J c H ds):ItOkG K J g c H ds:=
 ⟨λc' H' _ i e _ _=>h.go c' H' i e,λc' H' _ i x H'' d e _ _=>h.yld c' H' i x H'' d e,λc' H' _ e _ _=>h.stop c' H' e⟩
def RIG (K:PySem.W.Frag)(f:M (Gd×List D)):TI:=λσ H R=>∃Oo c t,FInv K Oo c t σ H/\∃p t',f t=some (p,t')/\∀J H' c',FInv K Oo c' t' σ H'->Stp Oo c H c' H'->ItOkG K J p.1 c' H' p.2->R J H'
theorem RF.compG {K:PySem.W.Frag}{n:Nat}{fr:List Nat}{f:M (Gd×List D)}{st:D->M Unit}{tst:M Bool}{elt:M D}{σ:L2.St}{H:Hp}{Q:VK}(q:RF K (Fh n fr f st tst elt) σ H Q):LF (RIG K f) (RG K st) (RT K tst) (RE K elt) (Fg n fr) σ H Q:=by
 obtain ⟨Oo,c,t,fi,xs,t',eq,k⟩:=q;obtain ⟨pg,t1,e1,eq⟩:=Ae eq;refine ⟨Oo,c,t,fi,pg,t1,e1,λJ H1 c1 f1 s1 it=>?_⟩;obtain ⟨g,ds⟩:=pg;dsimp only at eq it
 cases e3:F2.compG g st tst elt ds ⟨cenv n fr t1.env,t1.S⟩ with
 | none=>rw [e3] at eq;cases eq
 | some p=>
   obtain ⟨ys,t3⟩:=p;rw [e3] at eq;dsimp only at eq
   split at eq
   case isFalse=>cases eq
   next hl=>
   cases eq
   refine ⟨λi m acc σ' H'=>m=ds.length - i/\i<=ds.length/\∃c' t2 zs rest,FInv K c1.O c' t2 σ' H'/\Stp c1.O c1 H1 c' H'/\Reps K c' H' acc zs/\F2.compG g st tst elt (ds.drop i) t2=some (rest,t3)/\xs=zs++rest,
    ⟨_,rfl,un6 _,c1,_,[],xs,Js f1,.refl,.nil,by rw [ul0];exact e3,rfl⟩,?_⟩
   rintro i m acc σ' H' ⟨rfl,hi,c',t2,zs,rest,f2,s2,ra,e2,ez⟩;have hacc:acc.length<=sizeLine:=by
    have:zs.length<=xs.length:=by rw [ez,uf3];exact uh9 _ _
    rw [ra.length];exact um4 this (um4 hl Cz)
   refine ⟨hacc,?_⟩
   by_cases hlt:i < ds.length
   ·rw [ub3 hlt] at e2;unfold F2.compG at e2;obtain ⟨u0,t0,e0,e2⟩:=Ae e2;obtain ⟨hon,ht0⟩:=Mh e0;rw [ht0] at e2;clear e0 ht0;refine .inr ⟨it.go c' H' _ i s2.ext f2.s hon hlt,λx H'' hy=>?_⟩;obtain ⟨rfl,rx⟩:=it.yld c' H' _ i x H'' _ s2.ext f2.s hon (ub5 hlt) hy;obtain ⟨u,t4,e4,e2⟩:=Ae e2;obtain ⟨kb,t5,e5,e2⟩:=Ae e2;refine ⟨c1.O,c',t2,_,f2,rx,t4,e4,λσ3 H3 c3 f3 s3=>⟨c1.O,c3,t4,f3,kb,t5,e5,λH4 c4 f4 s4=>?_⟩⟩
    cases kb with
    | false=>
      rw [if_neg uf0] at e2 ⊢;exact ⟨ds.length - (i + 1),by lia,rfl,hlt,c4,t5,zs,rest,f4,(s2.trans s3).trans s4,ra.mono (s3.trans s4).ext,e2,ez⟩
    | true=>
      rw [if_pos rfl] at e2 ⊢;obtain ⟨x6,t6,e6,e2⟩:=Ae e2;obtain ⟨r7,t7,e7,e2⟩:=Ae e2
      cases e2
      refine ⟨c1.O,c4,t5,f4,x6,t6,e6,λv H5 c5 f5 s5 rv=>?_⟩;exact ⟨ds.length - (i + 1),by lia,rfl,hlt,c5,t6,zs++[x6],r7,f5,((s2.trans s3).trans s4).trans s5,(ra.mono ((s3.trans s4).trans s5).ext).append (.cons rv .nil),e7,by rw [ez,ug4];rfl⟩
   ·have hi':i=ds.length:=by lia
    subst hi';rw [uh8] at e2;unfold F2.compG at e2;obtain ⟨u0,t0,e0,e2⟩:=Ae e2;obtain ⟨hon,ht0⟩:=Mh e0;rw [ht0] at e2;clear e0 ht0
    cases e2
    refine .inl ⟨it.stop c' H' _ s2.ext f2.s hon,λp hp _=>?_⟩;obtain ⟨si,ext⟩:=f2.leave;obtain ⟨f6,s6⟩:=f1.after si ⟨s2.ext.trans ext,s2.oo⟩ (λ_=>Iff.rfl);rw [uj2] at ez;subst ez;exact k p acc H' _ f6 (s1.trans s6) (ra.mono ext) hp
def F3:D->M (Gd×List D)
 | .obj k=>λt=>match t.S[k]? with
   | some (.lst ds)=>some ((some (k,ds),ds),t)
   | _=>none
 | d=>bnd (Dl d) λds=>ret (none,ds)
def Mq (f:M D):M (Gd×List D):=bnd f F3
theorem ItOkG.lst {K:PySem.W.Frag}{g:Gd}{c:Cf}{H:Hp}{p:Addr}{ds:List D}(r:∀c' H' S',Ext c H c' H'->SInv K c' S' H'->Gon g S'->∃vs,SqL K H' p vs/\Reps K c' H' vs ds):ItOkG K (Itl K p) g c H ds:=by
 refine ⟨λc' H' S' i ex si on hi=>?_,λc' H' S' i x H'' d ex si on hd hy=>?_,λc' H' S' ex si on=>?_⟩
 ·obtain ⟨vs,h1,h2⟩:=r c' H' S' ex si on;obtain ⟨v,e,_⟩:=h2.at (ub5 hi);exact ⟨vs,v,h1,e⟩
 ·obtain ⟨vs,h1,h2⟩:=r c' H' S' ex si on;obtain ⟨rfl,hx⟩:=hy;exact ⟨rfl,h2.get (hx vs h1) hd⟩
 ·obtain ⟨vs,h1,h2⟩:=r c' H' S' ex si on;exact ⟨vs,h1,by rw [h2.length];exact un5 _⟩
section
variable {X:Cx}{e a b tg iter elt:Expr}{ifs:List Expr}{pos:Pos}{scope:Scope}{N':List Str}{n:Nat}{fr:List Nat}{st:D->M Unit}{tst:M Bool}{el:M D}
theorem Mu {f:M (Gd×List D)}(O:CmpOk X scope N' (Fg n fr))(hc:X.calm=true)(hi:PI X tg iter (RIG X.K f))
 (hg:∀cl C s2 H2 fp,PG (B2 X N' scope cl C s2 H2 fp) tg (RG X.K st)) (ht:∀cl C s2 H2 fp,PIf (B2 X N' scope cl C s2 H2 fp) ifs (RT X.K tst)) (he:∀cl C s2 H2 fp,PE (B2 X N' scope cl C s2 H2 fp) elt (RE X.K el))
 (hs:∀x,foldedSetIterable iter X.env x=pure x:=by intro _;rfl):PE X (.ListComp elt [⟨tg,iter,ifs,0⟩] scope pos) (RF X.K (Fh n fr f st tst el)):=
 AK (Oh O hc hi hg ht he hs) λ_ _ _ q=>RF.compG q
theorem Vb {f:M D}(h:PE X e (RE X.K f)):PI X tg e (RIG X.K (Mq f)):=
 IY (Rf h) λσ H R z=>by
  obtain ⟨Oo,c,t,fi,ds,t',eq,k⟩:=z;obtain ⟨d,t1,e1,eq⟩:=Ae eq;refine ⟨Oo,c,t,fi,d,t1,e1,λv H1 c1 f1 s1 rv=>?_⟩
  cases rv with
  | @obj a kk hk=>
    unfold F3 at eq;dsimp only at eq
    split at eq
    ·next es hS=>
     cases eq
     obtain ⟨ws,g1,g3⟩:=f1.s.obs kk a _ hk hS;refine .inl ⟨a,rfl,⟨ws,SqL.of g1⟩,k _ H1 c1 f1 s1 (ItOkG.lst λc' H' S' ex si on=>?_)⟩;obtain ⟨us,q1,q2⟩:=si.obs kk a _ (ex.io _ _ hk) (on kk es rfl);exact ⟨us,SqL.of q1,q2⟩
    ·cases eq
  | @lst p vs ds' h1 h2 h3=>
    cases eq
    exact .inl ⟨p,rfl,⟨vs,SqL.of h1⟩,k _ H1 c1 f1 s1 (ItOk.toG (ItOk.lst λc' H' ex=>⟨vs,SqL.of (ex.keep _ _ h1 h2),h3.mono ex⟩))⟩
  | @scr p ns h1=>
    cases eq
    exact .inl ⟨p,rfl,⟨_,h1.sq⟩,k _ H1 c1 f1 s1 (ItOk.toG (ItOk.lst λc' H' ex=>⟨_,(h1.mono ex).sq,Reps.ints ns⟩))⟩
  | @tup p vs ds' h1 h2 h3=>
    cases eq
    exact .inr (.inl ⟨p,rfl,⟨vs,SqT.of h1⟩,k _ H1 c1 f1 s1 (ItOk.toG (ItOk.tup λc' H' ex=>⟨vs,SqT.of (ex.keep _ _ h1 h2),h3.mono ex⟩))⟩)
  | str x=>
    cases eq
    exact .inr (.inr ⟨x,rfl,k _ H1 c1 f1 s1 (ItOk.toG ItOk.str)⟩)
  | _=>cases eq
def Pf (f:M D):M D:=bnd f λo=>match o with
 | .obj k=>λt=>match t.S[k]? with
   | some (.lst xs)=>match xs[xs.length - 1]? with
     | some y=>some (y,{ t with S:=t.S.set k (.lst xs.dropLast) })
     | none=>none
   | _=>none
 | _=>fail
theorem Lr {c:Cf}{vs:List V}{ds:List D}(h:Reps K c H vs ds):Reps K c H vs.dropLast ds.dropLast:=by
 rw [List.dropLast_eq_take,List.dropLast_eq_take,h.length];exact h.take _
theorem Ql {o:Expr}{f:M D}{apos cpos:Pos}(ho:PE X o (RE X.K f))
 (hbase:attributeBase o "pop" X.env (eval o X.env)=eval o X.env:=by rfl) (hline:(apos.endLine == cpos.line)=true:=by rfl) :
 PE X (.Call (.Attribute o "pop" apos) [] [] cpos) (RE X.K (Pf f)):=
 AK (Rb ub8 PySem.F.slot_list_pop PySem.F.type_list_pop Yc ho hbase hline) λσ H Q z=>by
  obtain ⟨Oo,c,t,fi,r,t',eq,k⟩:=z;obtain ⟨d,t1,e1,eq⟩:=Ae eq;refine ⟨Oo,c,t,fi,d,t1,e1,λv H1 c1 f1 s1 rv=>?_⟩
  cases rv with
  | @obj a kk hk=>
    dsimp only at eq
    split at eq
    ·next xs hS=>
     split at eq
     ·next y hy=>
      cases eq
      obtain ⟨vs,g1,g2⟩:=f1.s.obs kk a _ hk hS;obtain ⟨w,gw,rw'⟩:=g2.at hy;rw [<-g2.length] at gw;refine ⟨.inl ⟨rfl,vs,SqL.of g1⟩,a,vs,w,rfl,rfl,g1,gw,?_⟩;obtain ⟨f2,s2⟩:=f1.wrObj (o:=.lst xs.dropLast) (u:=.lst vs.dropLast) hk λc' H' ext hu=>⟨vs.dropLast,hu,(Lr g2).mono ext⟩;exact k _ _ c1 f2 (s1.trans s2) (rw'.mono s2.ext)
     ·cases eq
    ·cases eq
  | _=>cases eq
end
noncomputable def Ba (S:List Ob):Nat->D->D
 | 0,d=>d
 | n + 1,.obj k=>match S[k]? with
   | some (.lst ds)=>.lst (ds.map (Ba S n))
   | _=>.obj k
 | n + 1,.tup ds=>.tup (ds.map (Ba S n))
 | n + 1,.lst ds=>.lst (ds.map (Ba S n))
 | _ + 1,d=>d
def eqO (g:Bool->Bool)(x y:D):M D:=λt=>if (Bq (Ba t.S 16 x) && Bq (Ba t.S 16 y))=true then (eqN EQD (Ba t.S 16 x) (Ba t.S 16 y)).map λb=>(.bl (g b),t) else none
theorem IN {K:PySem.W.Frag}{c:Cf}{S:List Ob}{H:Hp}(s:SInv K c S H):∀(n:Nat) {v:V} {d:D},Rep K c H v d->Bq (Ba S n d)=true->Rep K c0 H v (Ba S n d)
 | 0,v,d,r,p=>DF r (by simpa only [Ba] using p)
 | n + 1,v,d,r,p=>by
   have row:∀{vs:List V} {ds:List D},Reps K c H vs ds->Gz (ds.map (Ba S n))=true->Reps K c0 H vs (ds.map (Ba S n)):=by
    intro vs ds q
    induction ds generalizing vs with
    | nil=>intro _;cases q;exact .nil
    | cons d ds ih=>
      intro p
      cases q with
      | cons a b=>
        rw [ul4,Gz,uh6] at p;exact .cons (IN s n a p.1) (ih b p.2)
   cases r with
   | @obj a k hk=>
     unfold Ba at p ⊢
     split
     ·next ds e=>
      rw [e] at p;obtain ⟨vs,h1,h2⟩:=s.obs k a _ hk e;exact .lst h1 (GL _) (row h2 (by simpa [Bq] using p))
     ·next h=>
      split at p
      ·next ds e=>exact absurd e (h ds)
      ·simp [Bq] at p
   | tup h m q=>rw [Ba] at p ⊢;exact .tup h (GL _) (row q (by simpa only [Bq] using p))
   | lst h m q=>rw [Ba] at p ⊢;exact .lst h (GL _) (row q (by simpa only [Bq] using p))
   | non=>exact .non
   | bl b=>exact .bl b
   | int b=>exact .int b
   | str b=>exact .str b
   | ty b=>exact .ty b
   | scr h=>exact DF (c:=c) (.scr h) p
   | dic h n=>exact DF (.dic h n) p
   | exc a b n f q=>exact DF (.exc a b n f q) p
theorem Ou {g:Bool->Bool}:Bi K (Po K g) (eqO g):=λ{Oo c t σ H x y dx dy r t' Q} f rx ry eq k=>by
 unfold eqO at eq
 split at eq
 ·next hp=>
  rw [uh6] at hp;obtain ⟨b,e1,e2⟩:=uc4.mp eq
  cases e2
  exact ⟨c0,_,_,b,IN f.s 16 rx hp.1,IN f.s 16 ry hp.2,e1,k _ H c f .refl (.bl (g b))⟩
 ·cases eq
theorem O4 {X:Cx}{pins:List (Addr×Obj)}{σ:L2.St}{s:Shared}{A:Around}{E:Value->Shared->Prop}{Q:Value->Shared->Prop}{b:Bool}{x:V}{u:Value}{T:String}{tp:Addr}{dd:Option Addr}{its:List Value}{n:Nat}{sl:Array (Option Value)}(I:Inv X pins σ H s)(rx:RelV x u)(ty:TyOf X.K H x (.type T))(htp:s.heap.get? tp=some ⟨.type "tuple",dd,.seq its.toArray n,sl⟩)
 (e:PySem.W.kitAny X.K (.type T) its=some b) (h:∀tk,Q (.bool b) { s with toks:=tk }):wpAny (model X.prog X.w) A (call (.builtin "isinstance") [u,.ref tp]) Q E s:=by
 cases ty with
 | non=>cases (show u=Value.none from rx);exact uk0 PySem.W.kitx_none I.kIn True.intro htp e (λz=>nomatch z) h
 | bl y=>cases (show u=Value.bool y from rx);exact uk0 PySem.W.kitx_bool I.kIn True.intro htp e (λz=>nomatch z) h
 | int i=>obtain ⟨t,q⟩:=(show ∃t,u=Value.int i t from rx);cases q;exact uk0 PySem.W.kitx_int I.kIn True.intro htp e (λz=>nomatch z) h
 | str y=>obtain ⟨t,q⟩:=(show ∃t,u=Value.str y t from rx);cases q;exact uk0 PySem.W.kitx_str I.kIn True.intro htp e (λz=>nomatch z) h
 | flt y=>obtain ⟨t,q⟩:=(show ∃t,u=Value.float y t from rx);cases q;exact uk0 PySem.W.kitx_float I.kIn True.intro htp e (λz=>nomatch z) h
 | @lst a xs ea=>
   cases (show u=Value.ref a from rx)
   obtain ⟨_,_,n,_,h1⟩:=(show ObjOk X.prog X.w H s.heap a (.lst xs) from I.hok a _ ea);exact uk0 ug0 I.kIn ⟨_,h1,rfl⟩ htp e (λz=>nomatch z) h
 | @frz a ob xs ea=>
   cases (show u=Value.ref a from rx)
   obtain ⟨_,_,_,n,_,h1⟩:=(show ObjOk X.prog X.w H s.heap a (.frz ob (.lst xs)) from I.hok a _ ea);exact uk0 ug0 I.kIn ⟨_,h1,rfl⟩ htp e (λz=>nomatch z) h
 | @tup a xs ea=>
   cases (show u=Value.ref a from rx)
   obtain ⟨_,_,_,p⟩:=(show ObjOk X.prog X.w H s.heap a (.tup xs) from I.hok a _ ea);obtain ⟨o,h1,h2,_⟩:=p;exact uk0 PySem.W.kitx_tuple I.kIn ⟨o,h1,h2⟩ htp e (λz=>nomatch z) h
 | @dK a kvs ea=>
   cases (show u=Value.ref a from rx)
   obtain ⟨_,_,vs,_,p⟩:=(show ObjOk X.prog X.w H s.heap a (.dK kvs) from I.hok a _ ea);obtain ⟨o,es,ep,h1,h2,_⟩:=p;exact uk0 ug1 I.kIn ⟨o,h1,h2.1⟩ htp e (λz=>nomatch z) h
 | @dT a kvs ea=>
   cases (show u=Value.ref a from rx)
   obtain ⟨_,_,xs,_,o,es,ep,h1,h2,_⟩:=(show ObjOk X.prog X.w H s.heap a (.dT kvs) from I.hok a _ ea);exact uk0 ug1 I.kIn ⟨o,h1,h2.1⟩ htp e (λz=>nomatch z) h
def UG (K:PySem.W.Frag):List V->Hp->VK->Prop:=λxs H Q=>∃x p n1 n2 T b,xs=[x,.ref p]/\H p=some (.tup [.ty n1,.ty n2])/\TyOf K H x (.type T)/\PySem.W.kitAny K (.type T) [.type n1,.type n2]=some b/\Q (.bl b) H
theorem P8 {X:Cx}:Cm X (.builtin "isinstance") (UG X.K):=by
 intro pins s σ H xs us Q I r h;obtain ⟨x,p,n1,n2,T,b,rfl,hp,ty,e,q⟩:=h;obtain ⟨u,w',rfl,rx,rt⟩:=LG r
 cases (show w'=Value.ref p from rt)
 obtain ⟨_,its,rv,hit⟩:=(show ObjOk X.prog X.w H s.heap p (.tup [.ty n1,.ty n2]) from I.hok p _ hp);obtain ⟨u1,u2,rfl,r1,r2⟩:=LG rv
 cases (show u1=Value.type n1 from r1)
 cases (show u2=Value.type n2 from r2)
 obtain ⟨o,h1,h2,n,h3⟩:=hit;obtain ⟨oc,od,oda,osl⟩:=o;dsimp only at h2 h3;subst h2 h3;exact O4 I rx ty h1 e λtk=>⟨.bl b,H,I.tok tk,rfl,q⟩
def GY:List D->M D
 | [d,.tup [.ty m1,.ty m2]]=>λt=>match d with
   | .obj k=>match t.S[k]? with
     | some (.lst _)=>match Dc "list" m1,Dc "list" m2 with
       | some b1,some b2=>some (.bl (b1 || b2),t)
       | _,_=>none
     | _=>none
   | d=>match tyD d with
     | some n=>match Dc n m1,Dc n m2 with
       | some b1,some b2=>some (.bl (b1 || b2),t)
       | _,_=>none
     | none=>none
 | _=>fail
theorem N8 {d:D}{n m1 m2:String}{b1 b2:Bool}(h:tyD d=some n)(h1:Dc n m1=some b1)(h2:Dc n m2=some b2):PySem.W.kitAny K (.type n) [.type m1,.type m2]=some (b1 || b2):=by
 rw [PySem.W.kitAny,HJ h h1]
 cases b1 with
 | true=>rfl
 | false=>rw [PySem.W.kitAny,HJ h h2];cases b2 <;> rfl
theorem T2:En K (UG K) GY:=λ{Oo c t σ H xs ds r t' Q} f rx eq k=>by
 unfold GY at eq
 split at eq
 ·next d m1 m2=>
  obtain ⟨v,u,rfl,rv,ru⟩:=JI rx
  cases ru with
  | @tup p ws _ g1 g2 g3=>
  obtain ⟨w1,w2,rfl,r1,r2⟩:=JI g3
  cases r1
  cases r2
  split at eq
  ·next kk=>
   cases rv with
   | @obj a _ hk=>
   split at eq
   ·next xs hS=>
    obtain ⟨vs,q1,q2⟩:=f.s.obs kk a _ hk hS
    split at eq
    ·next b1 b2 e1 e2=>
     cases eq
     exact ⟨_,p,m1,m2, "list",_,rfl,g1,.lst q1,N8 (d:=.lst xs) rfl e1 e2,k _ H c f .refl (.bl _)⟩
    ·cases eq
   ·cases eq
  ·next nk=>
   split at eq
   ·next n et=>
    split at eq
    ·next b1 b2 e1 e2=>
     cases eq
     refine ⟨v,p,m1,m2,n,_,rfl,g1,?_,N8 et e1 e2,k _ H c f .refl (.bl _)⟩
     cases rv <;> first | (cases et;first | exact .non | exact .bl _ | exact .int _ | exact .str _ | exact .lst ‹_› | exact .tup ‹_› | exact .dK ‹_›) | cases et
    ·cases eq
   ·cases eq
 ·cases eq
end F2
namespace F2
open PySem L2 PySem.Spec PySem.W
def CM (K:PySem.W.Frag):Prop:=∀n∈Ki,∀C,nsIn K mainGlobals n=some (some (.ref C))->Cls K C/\∀f∈atN,NoAttr K C f
noncomputable def Fv (f:Str)(v:D):List (Str×D)->List (Str×D)
 | []=>[(f,v)]
 | (g,x) :: r=>if g=f then (g,v) :: r else (g,x) :: Fv f v r
section
variable {K:PySem.W.Frag}{c:Cf}{H:Hp}
theorem FldR.len:∀{us:List (Str×V)} {fs:List (Str×D)},FldR K c H us fs->us.length=fs.length
 | _,_,.nil=>rfl
 | _,_,.cons _ t=>by rw [uh2,uh2,FldR.len t]
theorem FldR.look {f:Str}{d:D}:∀{us:List (Str×V)} {fs:List (Str×D)},FldR K c H us fs->fs.lookup f=some d->∃v,us.lookup f=some v/\Rep K c H v d
 | _,_,.nil,e=>by cases e
 | (g,x) :: us,(g',y) :: fs,.cons ⟨h1,h2⟩ t,e=>by
   have h1:g=g':=h1;subst h1
   by_cases q:(f == g)=true
   ·simp only [List.lookup,q] at e ⊢
    cases e
    exact ⟨_,rfl,h2⟩
   ·have q:(f == g)=false:=by simpa using q
    simp only [List.lookup,q] at e ⊢;exact FldR.look t e
theorem FldR.none {f:Str}:∀{us:List (Str×V)} {fs:List (Str×D)},FldR K c H us fs->(∀p∈fs,p.1≠f)->us.lookup f=none
 | _,_,.nil,_=>rfl
 | (g,x) :: us,(g',y) :: fs,.cons ⟨h1,h2⟩ t,e=>by
   have h1:g=g':=h1;subst h1;have q:(f == g)=false:=by
    have:=e (g,y) (.head _);simpa using λz:f=g=>this z.symm
   simp only [List.lookup,q];exact FldR.none t λp hp=>e p (.tail _ hp)
theorem FldR.put {f:Str}{v:V}{d:D}(r:Rep K c H v d):∀{us:List (Str×V)} {fs:List (Str×D)},FldR K c H us fs->FldR K c H (CZ f v us) (Fv f d fs)
 | _,_,.nil=>.cons ⟨rfl,r⟩ .nil
 | (g,x) :: us,(g',y) :: fs,.cons ⟨h1,h2⟩ t=>by
   have h1:g=g':=h1;subst h1;show FldR K c H (if g=f then (g,v) :: us else (g,x) :: CZ f v us) (if g=f then (g,d) :: fs else (g,y) :: Fv f d fs)
   by_cases q:g=f
   ·rw [if_pos q,if_pos q];exact .cons ⟨rfl,r⟩ t
   ·rw [if_neg q,if_neg q];exact .cons ⟨rfl,h2⟩ (FldR.put r t)
theorem FldR.mono {c':Cf}{H':Hp}(e:Ext c H c' H'){us:List (Str×V)}{fs:List (Str×D)}(h:FldR K c H us fs):FldR K c' H' us fs:=Paired.mapP h λ_ _ z=>⟨z.1,z.2.mono e⟩
theorem Om {f:Str}{v:D}(hf:f∈atN):∀{fs:List (Str×D)},(∀p∈fs,p.1∈atN)->∀p∈Fv f v fs,p.1∈atN
 | [],_=>λp hp=>by rw [show Fv f v []=[(f,v)] from rfl,uf5] at hp;subst hp;exact hf
 | (g,x) :: r,h=>λp hp=>by
   rw [show Fv f v ((g,x) :: r)=(if g=f then (g,v) :: r else (g,x) :: Fv f v r) from rfl] at hp
   split at hp
   ·rcases ul3.mp hp with e | e
    ·subst e;exact h (g,x) (.head _)
    ·exact h p (.tail _ e)
   ·rcases ul3.mp hp with e | e
    ·subst e;exact h (g,x) (.head _)
    ·exact Om hf (λp hp=>h p (.tail _ hp)) p e
end
noncomputable def Fk {α:Type}(d:D)(h:Nat->Str->List (Str×D)->M α):M α:=λt=>match d with
 | .obj k=>match t.S[k]? with
   | some (.ins n fs)=>h k n fs t
   | _=>none
 | _=>none
theorem GV {α:Type}{d:D}{h:Nat->Str->List (Str×D)->M α}{t:T}{z:α×T}(e:Fk d h t=some z):∃k n fs,d = .obj k/\t.S[k]?=some (.ins n fs)/\h k n fs t=some z:=by
 cases d with
 | obj k=>
   rw [show Fk (.obj k) h t=(match t.S[k]? with | some (.ins n fs)=>h k n fs t | _=>none) from rfl] at e
   cases es:t.S[k]? with
   | none=>rw [es] at e;cases e
   | some o=>
     rw [es] at e
     cases o with
     | ins n fs=>exact ⟨k,n,fs,rfl,es,e⟩
     | _=>cases e
 | _=>cases e
def Ep (f:Str)(a:M D):M D:=bnd a λd=>Fk d λ_ _ fs t=>(fs.lookup f).map λv=>(v,t)
def Ek (f:Str)(gv ga:M D):M Out:=bnd gv λv=>bnd ga λd=>Fk d λk n fs t=>if fs.length < 1000 then some (.next,{ t with S:=t.S.set k (.ins n (Fv f v fs)) }) else none
def Jq (n:Str)(g:Fn)(f:M (List D)):M D:=bnd f λds t=>match g (.obj t.S.length :: ds) (t.S++[.ins n []]) with
 | some (.non,S')=>some (.obj t.S.length,{ t with S:=S' })
 | _=>none
def BZ (n:Str)(g:Fn)(o:M D)(f:M (List D)):M D:=bnd o λd=>Fk d λ_ n' _=>if n'=n then bnd f λds t=>match g (d :: ds) t.S with
 | some (r,S')=>some (r,{ t with S:=S' })
 | none=>none else fail
theorem F6 {K:PySem.W.Frag}{c:Cf}{H:Hp}{v:V}{k:Nat}(h:Rep K c H v (.obj k)):∃a,v = .ref a/\c.ι[k]?=some a:=by
 cases h with
 | obj e=>exact ⟨_,rfl,e⟩
end F2
namespace L2
open PySem PySem.Spec PySem.W PyProof.Rows
section
variable {X:Cx}{CX:CXT}{k:Nat}{f C:Addr}{fd:FuncData}{ps:List Str}{sp:Sp}{E:St->XK}{x m:Str}{p pos apos:Pos}{e o:Expr}{es:List Expr}{ta:TE}{t:TA}
theorem Os {pins:List (Addr×Obj)}{σ:St}{H:Hp}{s:Shared}{Q:VK}{us:List Value}{vs:List V}(F:FnOk X.prog X.w X.K X.mg X.base CX k f fd ps sp)(hr:Room k X.A)(hb:Binds X.K fd ps [])(hx:Cj CX X E)
 (I:Inv X pins σ H s) (r:Vals vs us) (h:sp vs H Q (E σ)):wpAny (model X.prog X.w) X.A (call (.ref f) us) (EP X pins σ Q) X.xe s:=by
 have hl:(us++[]).length=ps.length:=by rw [uj2,<-r.length];exact F.len _ _ _ _ h
 refine wpAny_call (codeAny_mono (F.run X.A X.stack s H ⟨us,[]⟩ us vs Q (E σ) hr I.env0 (by have:=hb s us I.kIn hl;rwa [uj2] at this) r h) λr s' hq=>?_)
 cases r with
 | error e=>exact hx pins σ H s e s' I hq
 | ok fl=>
   cases fl with
   | ret u=>exact I.after hq
   | next=>exact False.elim hq
   | brk=>exact False.elim hq
   | cont=>exact False.elim hq
def Za (C:Addr)(m:Str)(sp:Sp)(E:St->XK)(ta:TE)(t:TA):TE:=λσ H Q=>ta σ H λx H1=>∃a dx fs,x = .ref a/\H1 a=some (.ins C dx fs)/\fs.lookup m=none/\
 t σ H1 λvs H2=>sp (x :: vs) H2 Q (E σ)
abbrev Em (X:Cx)(o:Expr)(m:Str)(es:List Expr)(apos pos:Pos)(pl:Sem Bool):Prop:=eval (.Call (.Attribute o m apos) es [] pos) X.env=(do
 let ov <-eval o X.env
 standAt apos.atName
 let (f,first) <-holding [ov] (getMethod ov m pl)
 callWith pos f first (backTo pos (starEach es X.env)) (backToKw pos (keywordEach [] X.env)))
theorem TD {pl:Sem Bool}(he:PE X o ta)(c:Cls X.K C)(hm:Meth X.K C m f)(F:FnOk X.prog X.w X.K X.mg X.base CX k f fd ps sp)(hr:Room k X.A)(hb:Binds X.K fd ps [])(hx:Cj CX X E)(ha:PA X (e :: es) t)
 (hst:starEach (e :: es) X.env=(false,eval e X.env) :: starEach es X.env) (hpl:(backTo pos (starEach es X.env)).any (·.1)=false) (ht:Em X o m (e :: es) apos pos pl) :
 PE X (.Call (.Attribute o m apos) (e :: es) [] pos) (Za C m sp E ta t):=by
 intro pins s σ H Q I h;refine uc9 (pl:=pl) (thn (he pins s σ H _ I h) λu s1 z9=>?_) ht;obtain ⟨x,H1,I1,rx,a,dx,fs,ex,ea,l,q⟩:=z9;subst ex;obtain rfl:u=Value.ref a:=rx;refine Gn I1 ea c hm l ?_;refine uf2 (first:=[.ref a]) (h₀:=X.base) I.ok.mod.kin hm.kp (thn (ha pos pins s1 σ H1 _ I1 q) λus s2 z9=>?_) hst hpl;obtain ⟨vs,H2,I2,r,q2⟩:=z9;refine ⟨I2.kIn,?_⟩;exact Os (us:=.ref a :: us) (vs:=.ref a :: vs) F hr hb hx I2 (.cons rfl r) q2
structure ByCls (K:PySem.W.Frag)(C:Addr)(m:Str)(f:Addr):Prop where
 ga:specialIn K (.ref C) "__getattribute__" = some (some (.builtin "type.__getattribute__"))
 rd:readsIn K C (.type "type")=true
 at_:(match findCls K (.ref C) (.type "type") m with | some (.val (.ref g))=>g == f | _=>false)=true
 kp:keepIn K (.ref f)=true
theorem ByCls.found {K:PySem.W.Frag}{C f:Addr}{m:Str}(b:ByCls K C m f):findCls K (.ref C) (.type "type") m=some (.val (.ref f)):=by
 have q:=b.at_
 split at q
 ·next e=>rw [e];rw [beq_iff_eq.mp q]
 ·cases q
theorem Tu {pl:Sem Bool}(F:FnOk X.prog X.w X.K X.mg X.base CX k f fd ps sp)(hr:Room k X.A)(hg:Gl X x)(hm:X.mg x=some (.ref C))(bc:ByCls X.K C m f)(hb:Binds X.K fd ps [])(hx:Cj CX X E)(ha:PA X (e :: es) t)
 (hdb:(x == ("__debug__" : Str))=false) (hst:starEach (e :: es) X.env=(false,eval e X.env) :: starEach es X.env) (hpl:(backTo pos (starEach es X.env)).any (·.1)=false) (ht:Em X (.Name x p) m (e :: es) apos pos pl) :
 PE X (.Call (.Attribute (.Name x p) m apos) (e :: es) [] pos) (RL sp E t):=by
 intro pins s σ H Q I h;refine uc9 (pl:=pl) (CF I hg hm ?_ hdb) ht;refine method_cls I.kIn bc.ga (cls_value I.kIn bc.rd bc.found rfl ?_);have I0:=I.tok (s.toks + 1);refine uf2 (first:=[]) (h₀:=X.base) I.ok.mod.kin bc.kp (thn (ha pos pins _ σ H _ I0 h) λus s2 z9=>?_) hst hpl;obtain ⟨vs,H2,I2,r,q2⟩:=z9;refine ⟨I2.kIn,?_⟩;exact Os (us:=us) (vs:=vs) F hr hb hx I2 r q2
end
end L2
namespace F2
open PySem L2 PySem.Spec PySem.W
variable {n:Str}{h:Fn}{pl:Sem Bool}
section
variable {X:Cx}{e o a value:Expr}{es:List Expr}{pos pos' apos p:Pos}{f:Str}{g gv ga:M D}{fl:M (List D)}{C:Addr}
theorem Xz (cm:CM X.K)(hf:f∈atN)(he:PE X e (RE X.K g))(hb:attributeBase e f X.env (eval e X.env)=eval e X.env):PE X (.Attribute e f pos) (RE X.K (Ep f g)):=
 AK (Yu he hb) λσ H Q z9=>by
  obtain ⟨Oo,c,t,fi,r,t',eq,kk⟩:=z9;obtain ⟨d,t1,e1,eq⟩:=Ae eq;obtain ⟨k,n,fs,rfl,es,eq⟩:=GV eq;obtain ⟨y,e2,e3⟩:=uc4.mp eq
  cases e3
  refine ⟨Oo,c,t,fi,.obj k,_,e1,λv H1 c1 f1 s1 rv=>?_⟩;obtain ⟨b,rfl,hk⟩:=F6 rv;obtain ⟨⟨hn,hat⟩,C,dx,us,g1,g2,g3⟩:=f1.s.obs k b _ hk es;obtain ⟨w,l1,l2⟩:=g3.look e2;exact ⟨b,C,dx,us,w,rfl,g2,(cm n hn C g1).1,(cm n hn C g1).2 f hf,l1,kk w H1 c1 f1 s1 l2⟩
theorem XS {μ:Cf->Hp->D->(V->Hp->Prop)->Prop}(cm:CM X.K)(hf:f∈atN)(ha:PE X o (RE X.K ga))(hv:PE X value (RE X.K gv))(hs:swapsWith value (some (.Attribute o f pos')) pos.line X.env=pure false:=by rfl) :
 PS X (.Assign [.Attribute o f pos'] value pos) (RSg X.K μ (Ek f gv ga)):=
 Bn (YE ha hv hs) λD σ H z9=>by
  obtain ⟨Oo,c,t,fi,r,t',eq,kk⟩:=z9;obtain ⟨d,t1,e1,eq⟩:=Ae eq;obtain ⟨d2,t2,e2,eq⟩:=Ae eq;obtain ⟨k,n,fs,rfl,es,eq⟩:=GV eq
  split at eq
  ·next hl=>
   cases eq
   refine ⟨Oo,c,t,fi,d,t1,e1,λv H1 c1 f1 s1 rv=>⟨Oo,c1,t1,f1,.obj k,t2,e2,λx H2 c2 f2 s2 rx=>?_⟩⟩;obtain ⟨b,rfl,hk⟩:=F6 rx;obtain ⟨⟨hn,hat⟩,C,dx,us,g1,g2,g3⟩:=f2.s.obs k b _ hk es;refine ⟨b,C,dx,us,rfl,g2,(cm n hn C g1).1,(cm n hn C g1).2 f hf,by rw [g3.len];exact hl,?_⟩;obtain ⟨f3,s3⟩:=f2.wrObj (o:=.ins n (Fv f d fs)) (u:=.ins C dx (CZ f v us)) hk λc' H' ext hu=>⟨⟨hn,Om hf hat⟩,C,dx,_,g1,hu,(FldR.put (rv.mono s2.ext) g3).mono ext⟩;exact kk σ _ c2 f3 ((s1.trans s2).trans s3)
  ·cases eq
theorem QX {ds:List D}{t:T}{r:D}{t':T}(e:(match h (.obj t.S.length :: ds) (t.S++[.ins n []]) with | some (.non,S')=>some (.obj t.S.length,{ t with S:=S' }) | _=>none:Option (D×T))=some (r,t')) :
 ∃S',h (.obj t.S.length :: ds) (t.S++[.ins n []])=some (.non,S')/\r = .obj t.S.length/\t' = { t with S:=S' }:=by
 split at e
 ·next S' q=>cases e;exact ⟨S',q,rfl,rfl⟩
 ·cases e
theorem U8 {k:Nat}{fa:Addr}{fd:FuncData}{ps:List Str}(hn:n∈Ki)(hC:nsIn X.K mainGlobals n=some (some (.ref C)))(M:Mk X.K C fa)(F:FnOk X.prog X.w X.K X.mg X.base CX0 k fa fd ps (spF X.K h))(hr:Room (k + 1) X.A)(hg:Gl X n)(hm:X.mg n=some (.ref C))(hb:Binds X.K fd ps [])
 (ha:PA X (e :: es) (RA X.K fl)) (hdb:(n == ("__debug__" : Str))=false:=by decide) (h1:AZ e=false:=by rfl) (h2:AY es=true:=by rfl):PE X (.Call (.Name n p) (e :: es) [] pos) (RE X.K (Jq n h fl)):=
 AK (V2 M F hr hg hm hb .nil Gy ha hdb (A7 h1) (AW h2).1) λσ H Q z9=>by
  obtain ⟨Oo,c,t,fi,r,t',eq,kk⟩:=z9;obtain ⟨ds,t1,e1,eq⟩:=Ae eq;obtain ⟨S',e2,rfl,rfl⟩:=QX eq;refine ⟨Oo,c,t,fi,ds,t1,e1,λvs H1 c1 f1 s1 rvs x dx hx hdx ne=>?_⟩;rw [uj2];have f2:=f1.laid (p:=dx) (o:=.own x) hdx;have s2:=f1.stp_laid (p:=dx) (o:=.own x) hdx;have hx2:upd H1 dx (.own x) x=none:=by rw [Ai (Ne.symm ne)];exact hx
  obtain ⟨c3,f3,s3,e3⟩:=f2.newObj (o:=.ins n []) (u:=.ins C dx []) hx2 λc' H' ext hu=>⟨⟨hn,λp hp=>by cases hp⟩,C,dx,[],hC,hu,.nil⟩;refine ⟨c3,.obj t1.S.length :: ds,_,f3.s,.cons (.obj e3) ((rvs.mono s2.ext).mono s3.ext),.non,S',e2,λv H' c' si st ho rv=>?_⟩;obtain ⟨f4,s4⟩:=f3.after si st ho
  cases rv
  exact ⟨rfl,kk _ H' c' f4 ((s1.trans s2).trans (s3.trans s4)) (.obj (st.ext.io _ _ e3))⟩
structure MAt (K:PySem.W.Frag)(n m:Str)(C fa:Addr):Prop where
 cl:n∈Ki
 at_:nsIn K mainGlobals n=some (some (.ref C))
 me:Meth K C m fa
 na:m∉atN
theorem Hf {d:D}{t:T}{r:D}{t':T}(e:Fk d (λ_ n' _=>if n'=n then bnd fl λds t=>match h (d :: ds) t.S with | some (r,S')=>some (r,{ t with S:=S' }) | none=>none else fail) t=some (r,t')) :
 ∃k fs ds t1 S',d = .obj k/\t.S[k]?=some (.ins n fs)/\fl t=some (ds,t1)/\h (d :: ds) t1.S=some (r,S')/\t' = { t1 with S:=S' }:=by
 obtain ⟨k,n',fs,rfl,es,q⟩:=GV e
 by_cases hn:n'=n
 ·subst hn;rw [if_pos rfl] at q;obtain ⟨ds,t1,e1,q⟩:=Ae q;obtain ⟨S',e2,rfl⟩:=EL q;exact ⟨k,fs,ds,t1,S',rfl,es,e1,e2,rfl⟩
 ·rw [if_neg hn] at q;cases q
section
variable {k:Nat}{fa:Addr}{fd:FuncData}{ps:List Str}{h:Fn}{n m:Str}{qx:Bool}{E:L2.St->XK}
theorem NZ (cm:CM X.K)(ma:MAt X.K n m C fa)(F:FnOk X.prog X.w X.K X.mg X.base CX0 k fa fd ps (spF X.K h))(hr:Room k X.A)(hb:Binds X.K fd ps [])(he:PE X o (RE X.K g))(ha:PA X (e :: es) (RA X.K fl))
 (h1:AZ e=false:=by rfl) (h2:AY es=true:=by rfl) (ht:Em X o m (e :: es) apos pos pl:=by rfl):PE X (.Call (.Attribute o m apos) (e :: es) [] pos) (RE X.K (BZ n h g fl)):=
 AK (V3 (pl:=pl) he (cm n ma.cl C ma.at_).1 ma.me F hr hb .nil Gy ha (A7 h1) (AW h2).1 ht) λσ H Q z9=>by
  obtain ⟨Oo,c,t,fi,r,t',eq,kk⟩:=z9;obtain ⟨d,t1,e1,eq⟩:=Ae eq;obtain ⟨j,fs,ds,t2,S',rfl,es,e2,e3,rfl⟩:=Hf eq;refine ⟨Oo,c,t,fi,.obj j,t1,e1,λv H1 c1 f1 s1 rv=>?_⟩;obtain ⟨b,rfl,hk⟩:=F6 rv;obtain ⟨⟨_,hat⟩,C',dx,us,g1,g2,g3⟩:=f1.s.obs j b _ hk es;rw [ma.at_] at g1
  cases g1
  refine ⟨b,dx,us,rfl,g2,g3.none λp hp z=>ma.na (z ▸ hat p hp),Oo,c1,t1,f1,ds,t2,e2,λvs H2 c2 f2 s2 rvs=>?_⟩;show spF X.K h (V.ref b :: (vs++[])) H2 Q E0;rw [uj2];refine ⟨c2,.obj j :: ds,t2.S,f2.s,.cons (.obj (s2.ext.io _ _ hk)) rvs,r,S',e3,λv H' c' si st ho rv=>?_⟩;obtain ⟨f3,s3⟩:=f2.after si st ho;exact kk v H' c' f3 ((s1.trans s2).trans s3) rv
theorem Ms (cm:CM X.K)(ma:MAt X.K n m C fa)(F:FnOk X.prog X.w X.K X.mg X.base CX0 k fa fd ps (spF X.K h))(hr:Room k X.A)(hb:Binds X.K fd ps [])(he:PE X o (RE X.K g))(ht:Em X o m [] apos pos pl:=by rfl) :
 PE X (.Call (.Attribute o m apos) [] [] pos) (RE X.K (BZ n h g (ret []))):=
 AK (TC (pl:=pl) he (cm n ma.cl C ma.at_).1 ma.me F hr hb .nil Gy ht) λσ H Q z9=>by
  obtain ⟨Oo,c,t,fi,r,t',eq,kk⟩:=z9;obtain ⟨d,t1,e1,eq⟩:=Ae eq;obtain ⟨j,fs,ds,t2,S',rfl,es,e2,e3,rfl⟩:=Hf eq
  cases e2
  refine ⟨Oo,c,t,fi,.obj j,t1,e1,λv H1 c1 f1 s1 rv=>?_⟩;obtain ⟨b,rfl,hk⟩:=F6 rv;obtain ⟨⟨_,hat⟩,C',dx,us,g1,g2,g3⟩:=f1.s.obs j b _ hk es;rw [ma.at_] at g1
  cases g1
  refine ⟨b,dx,us,rfl,g2,g3.none λp hp z=>ma.na (z ▸ hat p hp),?_⟩;refine ⟨c1,[.obj j],t1.S,f1.s,.cons (.obj hk) .nil,r,S',e3,λv H' c' si st ho rv=>?_⟩;obtain ⟨f3,s3⟩:=f1.after si st ho;exact kk v H' c' f3 (s1.trans s3) rv
theorem Vp (cm:CM X.K)(ma:MAt X.K n m C fa)(F:FnOk X.prog X.w X.K X.mg X.base (CX1 qx X.prog X.w) k fa fd ps (spX X.K h))(hr:Room k X.A)(hb:Binds X.K fd ps [])(hx:Cj (CX1 qx X.prog X.w) X E)(he:PE X o (RE X.K g))(ha:PA X (e :: es) (RA X.K fl))
 (h1:AZ e=false:=by rfl) (h2:AY es=true:=by rfl) (ht:Em X o m (e :: es) apos pos pl:=by rfl):PE X (.Call (.Attribute o m apos) (e :: es) [] pos) (RX X.K E (BZ n h g fl)):=
 AK (TD (pl:=pl) he (cm n ma.cl C ma.at_).1 ma.me F hr hb hx ha (A7 h1) (AW h2).1 ht) λσ H Q z9=>by
  obtain ⟨Oo,c,t,fi,r,t',eq,kk⟩:=z9;obtain ⟨d,t1,e1,eq⟩:=Ae eq;obtain ⟨j,fs,ds,t2,S',rfl,es,e2,e3,rfl⟩:=Hf eq;refine ⟨Oo,c,t,fi,.obj j,t1,e1,λv H1 c1 f1 s1 rv=>?_⟩;obtain ⟨b,rfl,hk⟩:=F6 rv;obtain ⟨⟨_,hat⟩,C',dx,us,g1,g2,g3⟩:=f1.s.obs j b _ hk es;rw [ma.at_] at g1
  cases g1
  refine ⟨b,dx,us,rfl,g2,g3.none λp hp z=>ma.na (z ▸ hat p hp),Oo,c1,t1,f1,ds,t2,e2,λvs H2 c2 f2 s2 rvs=>?_⟩;refine ⟨c2,.obj j :: ds,t2.S,f2.s,.cons (.obj (s2.ext.io _ _ hk)) rvs,r,S',e3,λv H' c' si st ho rv=>?_⟩;obtain ⟨f3,s3⟩:=f2.after si st ho;exact kk v H' c' f3 ((s1.trans s2).trans s3) rv
theorem Sx {x:Str}(F:FnOk X.prog X.w X.K X.mg X.base CX0 k fa fd ps (spF X.K h))(hr:Room k X.A)(hg:Gl X x)(hm:X.mg x=some (.ref C))(bc:ByCls X.K C m fa)(hb:Binds X.K fd ps [])(ha:PA X (e :: es) (RA X.K fl))
 (hdb:(x == ("__debug__" : Str))=false:=by decide) (h1:AZ e=false:=by rfl) (h2:AY es=true:=by rfl) (ht:Em X (.Name x p) m (e :: es) apos pos pl:=by rfl):PE X (.Call (.Attribute (.Name x p) m apos) (e :: es) [] pos) (RE X.K (Aj h fl)):=
 AK (Tu (pl:=pl) (E:=λ_=>E0) F hr hg hm bc hb (λpins σ H s e s'=>Gy pins σ H s e s') ha hdb (A7 h1) (AW h2).1 ht) λσ H Q z9=>by
  obtain ⟨Oo,c,t,fi,r,t',eq,kk⟩:=z9;obtain ⟨ds,t1,e1,eq⟩:=Ae eq;obtain ⟨S',e2,rfl⟩:=EL eq;refine ⟨Oo,c,t,fi,ds,t1,e1,λvs H1 c1 f1 s1 rvs=>?_⟩;refine ⟨c1,ds,t1.S,f1.s,rvs,r,S',e2,λv H' c' si st ho rv=>?_⟩;obtain ⟨f2,s2⟩:=f1.after si st ho;exact kk v H' c' f2 (s1.trans s2) rv
end
end
variable {K:PySem.W.Frag}
theorem Yi {k:Kd}{P:Program}{w:World}{mg:Str->Option Value}{base:Heap}{n:Nat}{fa:Addr}{fd:FuncData}{ps:List Str}{f:Fn}(h:okK k P w K mg base n fa fd ps f):okK k P w K mg base (n + 1) fa fd ps f:=by
 cases k <;> exact FnOk.mono h (un7 _)
def OR (K:PySem.W.Frag)(C:Addr):Bool:=plainGet K C Str.empty && hasDictIn K C && plainOver K C && findIn K (.ref C) "__setattr__" == some (some (.builtin "object.__setattr__")) && atN.all λf=>findIn K (.ref C) f == some none
variable {C:Addr}
theorem U0 (h:OR K C=true):Cls K C/\∀f∈atN,NoAttr K C f:=by
 unfold OR at h;simp only [uh6,beq_iff_eq,ui0] at h;obtain ⟨⟨⟨⟨a,b⟩,c⟩,d⟩,e⟩:=h;exact ⟨⟨a,b,c,d⟩,λf hf=>e f hf⟩
theorem Zv (h:∀n∈Ki,nsIn K mainGlobals n=some none\/∃C,nsIn K mainGlobals n=some (some (.ref C))/\OR K C=true):CM K:=λn hn C e=>by
 rcases h n hn with q | ⟨C',q,b⟩
 ·rw [e] at q;cases q
 ·rw [e] at q;cases q;exact U0 b
noncomputable def O9 (K:PySem.W.Frag)(C:Addr):Bool:=makesIn K C && keepIn K (.ref C)
theorem ZN {f:Addr}(h:O9 K C=true)(i:findIn K (.ref C) "__init__" = some (some (.ref f)))(hf:isFn K (.ref f)=true):Mk K C f:=by
 unfold O9 at h;simp only [uh6] at h;exact ⟨h.1,i,hf,h.2⟩
noncomputable def byB (K:PySem.W.Frag)(C:Addr)(m:Str):Bool:=specialIn K (.ref C) "__getattribute__" == some (some (.builtin "type.__getattribute__")) && readsIn K C (.type "type") && match findCls K (.ref C) (.type "type") m,findIn K (.ref C) m with | some (.val (.ref g)),some (some (.ref f))=>g == f | _,_=>false
theorem Zu {f:Addr}{m:Str}(h:byB K C m=true)(i:findIn K (.ref C) m=some (some (.ref f)))(k:keepIn K (.ref f)=true):ByCls K C m f:=by
 unfold byB at h;simp only [uh6,beq_iff_eq] at h;obtain ⟨⟨a,b⟩,c⟩:=h;refine ⟨a,b,?_,k⟩;rw [i] at c
 split at c
 ·next g f' e1 e2=>
  cases e2
  rw [e1];exact c
 ·cases c
end F2
namespace L2
open PySem PySem.Spec PyProof.Rows
section
variable {X:Cx}{k:Nat}{f l I S:Addr}{fd:FuncData}{ps:List Str}{sp:Sp}{pins:List (Addr×Obj)}{σ:St}{H:Hp}{s:Shared}{Q:VK}{oS oI oS' oI':Obj}{h':Heap}{t':Nat}
end
end L2
namespace F2
open PySem L2 PySem.Spec PySem.W
section
variable {K:PySem.W.Frag}{g:Fn}
end
end F2
namespace F2
open PySem L2 PySem.Spec PyProof.Rows
variable {f:M D}{K:PySem.W.Frag}
section
variable {X:Cx}{e:Expr}{pos:Pos}
def Pe (f:M D):M D:=bnd f λo=>match o with
 | .obj k=>λt=>match t.S[k]? with
   | some (.lst _)=>some (.non,{ t with S:=t.S.set k (.lst []) })
   | _=>none
 | _=>fail
theorem Qj {o:Expr}{apos cpos:Pos}(ho:PE X o (RE X.K f))
 (hbase:attributeBase o "clear" X.env (eval o X.env)=eval o X.env:=by rfl) (hline:(apos.endLine == cpos.line)=true:=by rfl) :
 PE X (.Call (.Attribute o "clear" apos) [] [] cpos) (RE X.K (Pe f)):=
 AK (Rb ub8 PySem.F.slot_list_clear PySem.F.type_list_clear Tj ho hbase hline) λσ H Q z=>by
  obtain ⟨Oo,c,t,fi,r,t',eq,k⟩:=z;obtain ⟨d,t1,e1,eq⟩:=Ae eq;refine ⟨Oo,c,t,fi,d,t1,e1,λv H1 c1 f1 s1 rv=>?_⟩
  cases rv with
  | @obj a kk hk=>
    dsimp only at eq
    split at eq
    ·next xs hS=>
     cases eq
     obtain ⟨vs,g1,g2⟩:=f1.s.obs kk a _ hk hS;refine ⟨.inl ⟨rfl,vs,SqL.of g1⟩,a,vs,rfl,rfl,g1,?_⟩;obtain ⟨f2,s2⟩:=f1.wrObj (o:=.lst []) (u:=.lst []) hk λc' H' ext hu=>⟨[],hu,.nil⟩;exact k _ _ c1 f2 (s1.trans s2) .non
    ·cases eq
  | _=>cases eq
def slF:D->Option Int->Option Int->M (List D)
 | .lst ds,lo,hi=>ret (B5 ds lo hi)
 | .scr ns,lo,hi=>ret ((B5 ns lo hi).map .int)
 | .obj k,lo,hi=>λt=>match t.S[k]? with
   | some (.lst ds)=>some (B5 ds lo hi,t)
   | _=>none
 | _,_,_=>fail
def OT (f:M D)(l u:M (Option Int)):M (List D):=bnd f λd=>bnd l λa=>bnd u λb=>slF d a b
theorem SI {l u:M (Option Int)}{lo hi:Option Expr}{p2:Pos}(he:PE X e (RE X.K f))(hl:PO X lo (RO X.K l))(hu:PO X hi (RO X.K u)):PE X (.Subscript e (.Slice lo hi none p2) pos) (RF X.K (OT f l u)):=
 AK (Ng sl2 he hl hu) λσ H Q z9=>by
  obtain ⟨Oo,c,t,fi,r,t',eq,k⟩:=z9;obtain ⟨d,t1,e1,eq⟩:=Ae eq;obtain ⟨ol,t2,e2,eq⟩:=Ae eq;obtain ⟨oh,t3,e3,eq⟩:=Ae eq;refine ⟨Oo,c,t,fi,d,t1,e1,λv H1 c1 f1 s1 rv=>⟨Oo,c1,t1,f1,ol,t2,e2,λH2 c2 f2 s2=>⟨Oo,c2,t2,f2,oh,t3,e3,λH3 c3 f3 s3=>?_⟩⟩⟩;have rv3:=rv.mono (s2.trans s3).ext;have st:=(s1.trans s2).trans s3
  cases rv3 with
  | @lst p vs ds h1 h2 h3=>
    cases eq
    exact ⟨p,vs,rfl,SqL.of h1,λq hq=>k q _ _ c3 f3 st (IP h3 ol oh) hq⟩
  | @scr p ns h1=>
    cases eq
    refine ⟨p,_,rfl,h1.sq,λq hq=>k q _ _ c3 f3 st ?_ hq⟩;rw [KP];exact Reps.ints _
  | @obj a kk h1=>
    unfold slF at eq;dsimp only at eq
    split at eq
    ·next ds es=>
     cases eq
     obtain ⟨vs,g1,g2⟩:=f3.s.obs kk a _ h1 es;exact ⟨a,vs,rfl,SqL.of g1,λq hq=>k q _ _ c3 f3 st (IP g2 ol oh) hq⟩
    ·cases eq
  | _=>cases eq
def objX (f:M D)(g:M (List D)):M D:=bnd f λo=>match o with
 | .obj k=>λt=>match t.S[k]? with
   | some (.lst _)=>bnd g (λds t1=>match t1.S[k]?,ds with
     | some (.lst xs),[.obj j]=>match t1.S[j]? with
       | some (.lst ys)=>if xs.length + ys.length<=LIM then some (.non,{ t1 with S:=t1.S.set k (.lst (xs++ys)) }) else none
       | _=>none
     | _,_=>none) t
   | _=>none
 | _=>fail
theorem RE.objX {K:PySem.W.Frag}{f:M D}{g:M (List D)}{σ:L2.St}{H:Hp}{Q:VK}(q:RE K (F2.objX f g) σ H Q):tBM K "list" (Pp K) (RE K f) (RA K g) σ H Q:=by
 obtain ⟨Oo,c,t,fi,r,t',eq,k⟩:=q;obtain ⟨o,t0,e0,eq⟩:=Ae eq;refine ⟨Oo,c,t,fi,o,t0,e0,λx H0 c0 f0 s0 rx=>?_⟩
 cases rx with
 | @obj a kk hk=>
   dsimp only at eq
   split at eq
   ·next xs0 ex0=>
    obtain ⟨ds,t1,e1,eq⟩:=Ae eq;obtain ⟨vs0,g0,g0'⟩:=f0.s.obs kk a _ hk ex0;refine ⟨.inl ⟨rfl,vs0,SqL.of g0⟩,Oo,c0,t0,f0,ds,t1,e1,λus H1 c1 f1 s1 rus=>?_⟩
    split at eq
    ·next xs j ex=>
     split at eq
     ·next ys ey=>
      split at eq
      ·next hl=>
       cases eq
       have hk1:=s1.ext.io _ _ hk;obtain ⟨vs,g1,g2⟩:=f1.s.obs kk a _ hk1 ex;obtain ⟨v,rfl,rv⟩:=DK rus
       cases rv with
       | @obj b jj hj=>
         obtain ⟨ws,w1,w2⟩:=f1.s.obs _ b _ hj ey;obtain ⟨f2,s2⟩:=f1.wrObj (o:=.lst (xs++ys)) (u:=.lst (vs++ws)) hk1 λc' H' ext hu=>⟨_,hu,(g2.append w2).mono ext⟩;exact ⟨a,b,vs,ws,rfl,rfl,g1,w1,by rw [g2.length,w2.length];exact um4 hl Cz,k _ _ c1 f2 ((s0.trans s1).trans s2) .non⟩
      ·cases eq
     ·cases eq
    ·cases eq
   ·cases eq
 | _=>cases eq
theorem OV {o:Expr}{es:List Expr}{g:M (List D)}{apos cpos:Pos}(ho:PE X o (RE X.K f))(ha:PA X (e :: es) (RA X.K g))
 (hbase:attributeBase o "extend" X.env (eval o X.env)=eval o X.env:=by rfl)
 (hfew:((backTo cpos (starEach (e :: es) X.env)).all (λx=>!x.1) && (backToKw cpos (keywordEach [] X.env)).all (λx=>x.1.isSome) && decide ((e :: es).length + ([]:List Keyword).length + (if ([]:List Keyword).isEmpty then 0 else 1) < 30))=true:=by rfl)
 (hline:(apos.endLine == cpos.line)=true:=by rfl) (hs:starEach (e :: es) X.env=(false,eval e X.env) :: starEach es X.env:=by rfl) (hplain:(backTo cpos (starEach es X.env)).any (·.1)=false:=by rfl) :
 PE X (.Call (.Attribute o "extend" apos) (e :: es) [] cpos) (RE X.K (objX f g)):=
 AK (HS ub8 PySem.F.slot_list_extend PySem.F.type_list_extend Oa ho ha hbase hfew hline hs hplain) λ_ _ _ q=>RE.objX q
theorem Nr {Oo:Addr->Prop}{c:Cf}{t:T}{σ:L2.St}{H:Hp}{x:V}{dx:D}{xs:List D}(f:FInv K Oo c t σ H)(rx:Rep K c H x dx)(e:Dy t.S dx = .lst xs):∃a vs,x = .ref a/\H a=some (.lst vs)/\Reps K c H vs xs:=by
 cases rx with
 | @lst a vs ds h1 h2 h3=>
   cases e
   exact ⟨a,vs,rfl,h1,h3⟩
 | @obj a kk hk=>
   unfold Dy at e;dsimp only at e
   split at e
   ·next es=>
    cases e
    obtain ⟨vs,q1,q2⟩:=f.s.obs _ a _ hk es;exact ⟨a,vs,rfl,q1,q2⟩
   ·cases e
 | _=>cases e
def Jm (x y:D):M (List D):=λt=>match Dy t.S x,Dy t.S y with
 | .lst xs,.lst ys=>lim (xs.length + ys.length) (xs++ys) t
 | _,_=>none
theorem Rx:Lw K Pn Jm:=λ{Oo c t σ H x y dx dy r t' Q} f rx ry eq k=>by
 unfold Jm at eq
 split at eq
 ·next xs ys e1 e2=>
  obtain ⟨h,z⟩:=DO eq
  cases z
  obtain ⟨a,vs,rfl,h1,h3⟩:=Nr f rx e1;obtain ⟨b,ws,rfl,g1,g3⟩:=Nr f ry e2;refine ⟨a,b,vs,ws,rfl,rfl,h1,g1,?_,λp hp=>k p _ H c f .refl (h3.append g3) hp⟩;rw [h3.length,g3.length];exact um4 h Cz
 ·cases eq
end
section
variable {X:Cx}{e elt tg iter:Expr}{pos:Pos}{scope:Scope}{N':List Str}{ifs:List Expr}{n:Nat}{fr:List Nat}{f:M (List D)}{st:D->M Unit}{tst:M Bool}{el:M D}
theorem RF.ofObj {f:M (List D)}{σ:L2.St}{H:Hp}{Q:VK}(q:RE K (CP f) σ H Q):RF K f σ H Q:=by
 obtain ⟨Oo,c,t,fi,r,t',eq,k⟩:=q;obtain ⟨ds,t1,e1,eq⟩:=Ae eq
 cases eq
 refine ⟨Oo,c,t,fi,ds,_,e1,λp xs H1 c1 f1 s1 rxs hp=>?_⟩;obtain ⟨c2,f2,s2,e2⟩:=f1.newObj (o:=.lst ds) (u:=.lst xs) hp λc' H' ex hu=>⟨xs,hu,rxs.mono ex⟩;exact k _ _ c2 f2 (s1.trans s2) (.obj e2)
theorem SN {μ:Cf->Hp->D->(V->Hp->Prop)->Prop}{i:Nat}{y:Str}{py spos:Pos}(O:CmpOk X scope N' (Fg n fr))(hc:X.calm=true)(hN:X.N.Nodup)(hiN:X.N[i]?=some y)(hx:X.env.scope.names.lookup y=some .local)(hi:PI X tg iter (RI X.K f))
 (hg:∀cl C s2 H2 fp,PG (B2 X N' scope cl C s2 H2 fp) tg (RG X.K st)) (ht:∀cl C s2 H2 fp,PIf (B2 X N' scope cl C s2 H2 fp) ifs (RT X.K tst)) (he:∀cl C s2 H2 fp,PE (B2 X N' scope cl C s2 H2 fp) elt (RE X.K el))
 (hsw:swapsWith (.ListComp elt [⟨tg,iter,ifs,0⟩] scope pos) (some (.Name y py)) spos.line X.env=pure true:=by rfl)
 (hs:∀x,foldedSetIterable iter X.env x=pure x:=by intro _;rfl):PS X (.Assign [.Name y py] (.ListComp elt [⟨tg,iter,ifs,0⟩] scope pos) spos) (RSg X.K μ (AA i (CP (BM n fr f st tst el)))):=
 Bn (Wh O hc hN hiN hx hi hg ht he hsw hs) λE σ H q=>RF.comp (RF.ofObj (RS.set q))
theorem Sy {k:Nat}{fa:Addr}{fd:FuncData}{ps:List Str}{g:Fn}{x:Str}{p:Pos}(F:FnOk X.prog X.w X.K X.mg X.base CX0 k fa fd ps (spF X.K g))(hr:Room k X.A)(hg:Gl X x)(hm:X.mg x=some (.ref fa))(hk:PySem.W.keepIn X.K (.ref fa)=true)(hb:Binds X.K fd ps [])
 (hdb:(x == ("__debug__" : Str))=false:=by decide):PE X (.Call (.Name x p) [] [] pos) (RE X.K (Aj g Ad)):=
 AK (Tv F hr hg hm hk hb .nil Gy hdb) λσ H Q z9=>by
  obtain ⟨Oo,c,t,fi,r,t',eq,kk⟩:=z9;obtain ⟨ds,t1,e1,eq⟩:=Ae eq
  cases e1
  obtain ⟨S',e2,rfl⟩:=EL eq;show spF X.K g ([]++[]) H Q E0;refine ⟨c,[],t.S,fi.s,.nil,r,S',e2,λv H' c' si st ho rv=>?_⟩;obtain ⟨f2,s2⟩:=fi.after si st ho;exact kk v H' c' f2 s2 rv
end
end F2
namespace LW
open PySem L2 F2
def FR:M Out:=
 (Av (DH (fB (Aa (Ab 0) (Aa (fC (.ty "int")) Ad)) Dk) (HB (fB (Aa (Ab 0) (Aa (fC (.ty "bool")) Ad)) Dk))))
def Dn (L9:Fn):M Out:=
 (Av (DH (Aj L9 (Aa (Ab 0) Ad)) (EM (Ab 1) (Ab 0) (Ab 2) leA leA)))
def MQ (Kc L7 L6 L8 Db:Fn):M Out:=
 (Af (AA 2 (Ac (Ab 0) (fC (.int 0)) ixD))
 (Af (ifS (Au (Ac (Ab 2) (fC (.str "nothing")) (eqS id)))
   (Av (Ac (Ab 1) (fC .non) isC))
   AF)
 (Af (ifS (Au (Ac (Ab 2) (fC (.str "number")) (eqS id)))
   (Av (Aj Db (Aa (Ab 1) (Aa (Ac (Ab 0) (fC (.int 1)) ixD) (Aa (Ac (Ab 0) (fC (.int 2)) ixD) Ad)))))
   AF)
 (Af (ifS (Au (Ac (Ab 2) (fC (.str "text")) (eqS id)))
   (Av (Aj L8 (Aa (Ab 0) (Aa (Ab 1) Ad))))
   AF)
 (Af (ifS (Au (Ac (Ab 2) (fC (.str "list")) (eqS id)))
   (Av (Aj L6 (Aa (Ab 0) (Aa (Ab 1) Ad))))
   AF)
 (Af (ifS (Au (Ac (Ab 2) (fC (.str "pair")) (eqS id)))
   (Av (Aj L7 (Aa (Ab 0) (Aa (Ab 1) Ad))))
   AF)
 (Av (Aj Kc (Aa (Ab 0) (Aa (Ab 1) Ad))))))))))
def FQ (Gh:Fn):M Out:=
 (Af (ifS (fOr (Cu (Au (fB (Aa (Ab 1) (Aa (fC (.ty "str")) Ad)) Dk))) (Au (Ac (fB (Aa (Ab 1) Ad) A0) (Ac (Ab 0) (fC (.int 1)) ixD) gtA)))
   (Av (fC (.bl false)))
   AF)
 (Af (Ci (D6 (Ab 1)) (AQ 2)
   (ifS (Cu (Au (Aj Gh (Aa (fB (Aa (Ab 2) Ad) IL) Ad))))
   (Av (fC (.bl false)))
   AF))
 (Av (fC (.bl true)))))
def Hc:M Out:=
 (Av (DH (EM (fC (.int 32)) (Ab 0) (fC (.int 126)) leA leA) (Ac (Ab 0) (fC (.int 37)) (eqS λb=>!b))))
def FO (DW:Fn):M Out:=
 (Af (ifS (fOr (Cu (Au (fB (Aa (Ab 1) (Aa (fC (.ty "list")) Ad)) Dk))) (Au (Ac (fB (Aa (Ab 1) Ad) A0) (Ac (Ab 0) (fC (.int 2)) ixD) gtA)))
   (Av (fC (.bl false)))
   AF)
 (Af (Ci (D6 (Ab 1)) (AQ 2)
   (ifS (Cu (Au (Aj DW (Aa (Ac (Ab 0) (fC (.int 1)) ixD) (Aa (Ab 2) Ad)))))
   (Av (fC (.bl false)))
   AF))
 (Av (fC (.bl true)))))
def FP (DW:Fn):M Out:=
 (Af (ifS (fOr (Cu (Au (fB (Aa (Ab 1) (Aa (fC (.ty "tuple")) Ad)) Dk))) (Au (Ac (fB (Aa (Ab 1) Ad) A0) (fC (.int 2)) (eqS λb=>!b))))
   (Av (fC (.bl false)))
   AF)
 (Av (DH (Aj DW (Aa (Ac (Ab 0) (fC (.int 1)) ixD) (Aa (Ac (Ab 1) (fC (.int 0)) ixD) Ad))) (Aj DW (Aa (Ac (Ab 0) (fC (.int 2)) ixD) (Aa (Ac (Ab 1) (fC (.int 1)) ixD) Ad))))))
def EW (DW Db:Fn):M Out:=
 (Af (ifS (fOr (Cu (Au (fB (Aa (Ab 1) (Aa (fC (.ty "tuple")) Ad)) Dk))) (Au (Ac (fB (Aa (Ab 1) Ad) A0) (fC (.int 3)) (eqS λb=>!b))))
   (Av (fC (.bl false)))
   AF)
 (Af (ifS (fOr (Cu (Au (fB (Aa (Ac (Ab 1) (fC (.int 0)) ixD) (Aa (fC (.ty "str")) Ad)) Dk))) (Au (Ac (Ac (Ab 1) (fC (.int 0)) ixD) (fC (.str "of")) (eqS λb=>!b))))
   (Av (fC (.bl false)))
   AF)
 (Af (ifS (Cu (Au (Aj Db (Aa (Ac (Ab 1) (fC (.int 1)) ixD) (Aa (fC (.int 0)) (Aa (Ac (fB (Aa (Ac (Ab 0) (fC (.int 1)) ixD) Ad) A0) (fC (.int 1)) BL) Ad))))))
   (Av (fC (.bl false)))
   AF)
 (Av (Aj DW (Aa (Ac (Ac (Ab 0) (fC (.int 1)) ixD) (Ac (Ab 1) (fC (.int 1)) ixD) ixD) (Aa (Ac (Ab 1) (fC (.int 2)) ixD) Ad)))))))
def DT:M Out:=
 (Av (Ac (Ac (Ab 0) (fC (.int 0)) ixD) (fC (.str "end")) (eqS id)))
def Eg (BP Eo Jj:Fn):M Out:=
 (Af (AA 2 (Ac (Ab 0) (fC (.int 0)) ixD))
 (Af (ifS (Au (Ac (Ab 2) (fC (.str "nothing")) (eqS id)))
   (GB (AV Ad))
   AF)
 (Af (ifS (Au (Ac (Ab 2) (fC (.str "number")) (eqS id)))
   (GB (DB Jj (Aa (Ac (Ab 1) (Ac (Ab 0) (fC (.int 1)) ixD) BL) (Aa (Aj Eo (Aa (Ac (Ac (Ab 0) (fC (.int 2)) ixD) (Ac (Ab 0) (fC (.int 1)) ixD) BL) Ad)) Ad))))
   AF)
 (Af (ifS (Au (Ac (Ab 2) (fC (.str "text")) (eqS id)))
   (GB (bnd (AJ (AV (Aa (fB (Aa (Ab 1) Ad) A0) Ad))) λx=>bnd (AJ (BM 1 [] (D6 (Ab 1)) (AQ 0) DV (fB (Aa (Ab 0) Ad) IL))) λy=>Iy x y))
   AF)
 (Af (ifS (Au (Ac (Ab 2) (fC (.str "list")) (eqS id)))
   (Af (Ej 3 (AV (Aa (fB (Aa (Ab 1) Ad) A0) Ad)))
 (Af (Ci (D6 (Ab 1)) (AQ 4)
   (ownM 3 GU (Aa (AJ (DB BP (Aa (Ac (Ab 0) (fC (.int 1)) ixD) (Aa (Ab 4) Ad)))) Ad)))
 (F7 3)))
   AF)
 (Af (ifS (Au (Ac (Ab 2) (fC (.str "pair")) (eqS id)))
   (GB (bnd (AJ (DB BP (Aa (Ac (Ab 0) (fC (.int 1)) ixD) (Aa (Ac (Ab 1) (fC (.int 0)) ixD) Ad)))) λx=>bnd (AJ (DB BP (Aa (Ac (Ab 0) (fC (.int 2)) ixD) (Aa (Ac (Ab 1) (fC (.int 1)) ixD) Ad)))) λy=>Iy x y))
   AF)
 (GB (bnd (AJ (AV (Aa (Ac (Ab 1) (fC (.int 1)) ixD) Ad))) λx=>bnd (AJ (DB BP (Aa (Ac (Ac (Ab 0) (fC (.int 1)) ixD) (Ac (Ab 1) (fC (.int 1)) ixD) ixD) (Aa (Ac (Ab 1) (fC (.int 2)) ixD) Ad)))) λy=>Iy x y))))))))
def EX:M Out:=
 (Av (Ac (Ac (fUn (Ab 0) Je) (fC (.int 7)) AR) (fC (.int 8)) FH))
def Ex (Gi:Fn):M Out:=
 (GB (BM 1 [0,1] (FG (Aa (fC (.int 1)) (Aa (Ac (Ab 1) (fC (.int 1)) AR) Ad))) (AQ 0) DV (Ac (Aj Gi (Aa (Ab 1) (Aa (Ac (Ab 2) (Ab 0) BL) Ad))) (fC (.int 256)) EY)))
def He:M Out:=
 (Av (Ac (Ab 0) (Ac (fC (.int 8)) (Ab 1) Ei) Nw))
def Eh (Ke Mb Ma Mc Kf:Fn):M Out:=
 (Af (AA 3 (Ac (Ab 0) (fC (.int 0)) ixD))
 (Af (ifS (Au (Ac (Ab 3) (fC (.str "nothing")) (eqS id)))
   (Av (nxD (A3 (Aa (fC .non) (Aa (Ab 2) Ad)))))
   AF)
 (Af (ifS (Au (Ac (Ab 3) (fC (.str "number")) (eqS id)))
   (Av (Aj Kf (Aa (Ab 0) (Aa (Ab 1) (Aa (Ab 2) Ad)))))
   AF)
 (Af (ifS (Au (Ac (Ab 3) (fC (.str "text")) (eqS id)))
   (Av (Aj Mc (Aa (Ab 0) (Aa (Ab 1) (Aa (Ab 2) Ad)))))
   AF)
 (Af (ifS (Au (Ac (Ab 3) (fC (.str "list")) (eqS id)))
   (Av (Aj Ma (Aa (Ab 0) (Aa (Ab 1) (Aa (Ab 2) Ad)))))
   AF)
 (Af (ifS (Au (Ac (Ab 3) (fC (.str "pair")) (eqS id)))
   (Av (Aj Mb (Aa (Ab 0) (Aa (Ab 1) (Aa (Ab 2) Ad)))))
   AF)
 (Av (Aj Ke (Aa (Ab 0) (Aa (Ab 1) (Aa (Ab 2) Ad)))))))))))
def Fl:M Out:=
 (Af (ifS (Au (Ac (Ab 1) (fB (Aa (Ab 0) Ad) A0) geA))
   (Fw "Short" (Aa (fC (.str "the bytes end within a value")) Ad))
   AF)
 (Av (nxD (Ac (Ab 0) (Ab 1) ixD))))
def Ec (D5:Fn):M Out:=
 (Af (De 3 (Aj D5 (Aa (Ab 1) (Aa (Ab 2) Ad))))
 (Af (ifS (Au (Ac (Ab 3) (Ab 0) gtA))
   (Dp "Broken" (Aa (Ab 2) (Aa (fC .non) Ad)))
   AF)
 (Av (nxD (Ab 3)))))
def CY (Gi D5 Eo:Fn):M Out:=
 (Af (AA 3 (Ac (Ac (Ab 0) (fC (.int 2)) ixD) (Ac (Ab 0) (fC (.int 1)) ixD) BL))
 (Af (AA 4 (Aj Eo (Aa (Ab 3) Ad)))
 (Af (AA 5 (fC (.int 0)))
 (Af (Ci (Cg (Aa (Ab 4) Ad)) (AQ 6)
   (Af (De 5 (HA (Ac (Ab 5) (fC (.int 256)) Ei) (Aj D5 (Aa (Ab 1) (Aa (Ac (Ab 2) (Ab 6) AR) Ad))) AR))
 (ifS (Au (Ac (Ab 5) (Aj Gi (Aa (Ab 3) (Aa (Ac (Ac (Ab 4) (fC (.int 1)) BL) (Ab 6) BL) Ad))) gtA))
   (Dp "Broken" (Aa (Ac (Ab 2) (Ab 6) AR) (Aa (fC .non) Ad)))
   AF)))
 (Av (nxD (A3 (Aa (Ac (Ac (Ab 0) (fC (.int 1)) ixD) (Ab 5) AR) (Aa (Ac (Ab 2) (Ab 4) AR) Ad)))))))))
def Dv (OO C5:Fn):M Out:=
 (Af (De 3 (Aj C5 (Aa (Ac (Ab 0) (fC (.int 1)) ixD) (Aa (Ab 1) (Aa (Ab 2) Ad)))))
 (Af (AA 4 (Ac (Ab 2) (fC (.int 1)) AR))
 (Af (AA 5 (fC (.str "")))
 (Af (Ci (Cg (Aa (Ab 3) Ad)) (AQ 6)
   (De 5 (HA (Ab 5) (Aj OO (Aa (Ab 1) (Aa (Ac (Ab 4) (Ab 6) AR) Ad))) AR)))
 (Av (nxD (A3 (Aa (Ab 5) (Aa (Ac (Ab 4) (Ab 3) AR) Ad)))))))))
def Fo (Gh D5:Fn):M Out:=
 (Af (De 2 (Aj D5 (Aa (Ab 0) (Aa (Ab 1) Ad))))
 (Af (ifS (Cu (Au (Aj Gh (Aa (Ab 2) Ad))))
   (Dp "Broken" (Aa (Ab 1) (Aa (fC .non) Ad)))
   AF)
 (Av (nxD (Ac (fC (.str " !\"#$ &'()*+,-./0123456789:;<=>?@ABCDEFGHIJKLMNOPQRSTUVWXYZ[\\]^_`abcdefghijklmnopqrstuvwxyz{|}~")) (Ac (Ab 2) (fC (.int 32)) BL) ixD)))))
def Du (BF:Fn):M Out:=
 (Af (De 3 (Aj BF (Aa (Ac (Ab 0) (fC (.int 1)) ixD) (Aa (Ab 1) (Aa (Ab 2) Ad)))))
 (Af (De 4 (Aj BF (Aa (Ac (Ab 0) (fC (.int 2)) ixD) (Aa (Ab 1) (Aa (Ac (Ab 3) (fC (.int 1)) ixD) Ad)))))
 (Av (nxD (A3 (Aa (A3 (Aa (Ac (Ab 3) (fC (.int 0)) ixD) (Aa (Ac (Ab 4) (fC (.int 0)) ixD) Ad))) (Aa (Ac (Ab 4) (fC (.int 1)) ixD) Ad)))))))
def CW (BF C5:Fn):M Out:=
 (Af (De 3 (Aj C5 (Aa (Ac (fB (Aa (Ac (Ab 0) (fC (.int 1)) ixD) Ad) A0) (fC (.int 1)) BL) (Aa (Ab 1) (Aa (Ab 2) Ad)))))
 (Af (De 4 (Aj BF (Aa (Ac (Ac (Ab 0) (fC (.int 1)) ixD) (Ab 3) ixD) (Aa (Ab 1) (Aa (Ac (Ab 2) (fC (.int 1)) AR) Ad)))))
 (Av (nxD (A3 (Aa (A3 (Aa (fC (.str "of")) (Aa (Ab 3) (Aa (Ac (Ab 4) (fC (.int 0)) ixD) Ad)))) (Aa (Ac (Ab 4) (fC (.int 1)) ixD) Ad)))))))
def Df:M Out:=
 (Af (ifS (Au (Ac (Ab 1) (fB (Aa (Ab 0) Ad) A0) ltA))
   (Av (Ac (Ab 0) (Ab 1) ixD))
   AF)
 (Av (fC (.int 0))))
def Ed (Jg:Fn):M Out:=
 (Af (AA 2 (Aj Jg (Aa (Ab 0) (Aa (Ab 1) Ad))))
 (Av (FF [("rest",(Ab 2)),("mixed",(Ac (Ab 2) (Ac (fC (.int 10)) (fC (.int 12)) Hj) ltA)),("count",(Ac (fC (.int 3)) (Ac (fC (.int 5)) (Ab 1) Ei) AR))])))
def Ee:M Out:=
 (Af (AA 2 (Ac (Ab 0) (fC (.str "rest")) A8))
 (Af (ifS (Cu (Au (Ac (Ab 0) (fC (.str "mixed")) A8)))
   (Af (CN (Ac (Ab 2) (Ab 1) HD) (DL (Ab 0) (fC (.str "rest"))))
 (Av (Ac (Ab 2) (Ab 1) EY)))
   AF)
 (Af (CN (Ac (Ac (Ab 0) (fC (.str "count")) A8) (fC (.int 1)) AR) (DL (Ab 0) (fC (.str "count"))))
 (Af (AA 2 (Ac (Ac (Ab 2) (fC (.int 1000000000163)) EY) (Ac (fC (.int 70001)) (Ac (Ab 0) (fC (.str "count")) A8) II) AR))
 (Af (AA 2 (Ac (Ac (Ab 2) (Ac (Ab 2) (fC (.int 29)) AR) II) (fC (.int 1000000000193)) EY))
 (Af (AA 2 (Ac (Ac (Ab 2) (Ab 2) II) (fC (.int 999999999959)) EY))
 (Af (CN (Ab 2) (DL (Ab 0) (fC (.str "rest"))))
 (Av (Ac (Ac (Ab 2) (fC (.int 9)) HD) (Ab 1) EY)))))))))
def DQ (Ah Ck:Fn):M Out:=
 (Af (AA 2 (Aj Ah (Aa (Ab 0) (Aa (Ac (fC (.int 3)) (Ac (fC (.int 3)) (fB (Aa (Ac (Ab 1) (fC (.int 0)) gtA) Ad) Km) Ei) AR) Ad))))
 (Af (ifS (Au (Ac (Ab 2) (fC (.int 0)) (eqS id)))
   (Av (A3 (Aa (fC (.str "nothing")) Ad)))
   AF)
 (Af (ifS (Au (Ac (Ab 2) (fC (.int 1)) (eqS id)))
   (Af (AA 3 (Ac (AJ (AV (Aa (fC (.int 0)) (Aa (Ac (Aj Ah (Aa (Ab 0) (Aa (fC (.int 9)) Ad))) (fC (.int 4)) BL) (Aa (Ac (Aj Ah (Aa (Ab 0) (Aa (Ac (fC (.int 10)) (fC (.int 17)) Hj) Ad))) (Ac (fC (.int 10)) (fC (.int 16)) Hj) BL) Ad))))) (Aj Ah (Aa (Ab 0) (Aa (fC (.int 3)) Ad))) ixD))
 (Av (A3 (Aa (fC (.str "number")) (Aa (Ab 3) (Aa (Ac (Ab 3) (Ac (AJ (AV (Aa (fC (.int 0)) (Aa (fC (.int 1)) (Aa (fC (.int 255)) (Aa (fC (.int 256)) (Aa (fC (.int 300)) (Aa (fC (.int 70000)) (Aa (Aj Ah (Aa (Ab 0) (Aa (Ac (fC (.int 10)) (fC (.int 17)) Hj) Ad))) Ad))))))))) (Aj Ah (Aa (Ab 0) (Aa (fC (.int 7)) Ad))) ixD) AR) Ad))))))
   AF)
 (Af (ifS (Au (Ac (Ab 2) (fC (.int 2)) (eqS id)))
   (Av (A3 (Aa (fC (.str "text")) (Aa (Ac (AJ (AV (Aa (fC (.int 0)) (Aa (fC (.int 1)) (Aa (fC (.int 5)) (Aa (fC (.int 250)) Ad)))))) (Aj Ah (Aa (Ab 0) (Aa (fC (.int 4)) Ad))) ixD) Ad))))
   AF)
 (Af (ifS (Au (Ac (Ab 2) (fC (.int 3)) (eqS id)))
   (Av (A3 (Aa (fC (.str "list")) (Aa (Aj Ck (Aa (Ab 0) (Aa (Ac (Ab 1) (fC (.int 1)) BL) Ad))) (Aa (Ac (AJ (AV (Aa (fC (.int 0)) (Aa (fC (.int 2)) (Aa (fC (.int 6)) (Aa (fC (.int 250)) Ad)))))) (Aj Ah (Aa (Ab 0) (Aa (fC (.int 4)) Ad))) ixD) Ad)))))
   AF)
 (Af (ifS (Au (Ac (Ab 2) (fC (.int 4)) (eqS id)))
   (Av (A3 (Aa (fC (.str "pair")) (Aa (Aj Ck (Aa (Ab 0) (Aa (Ac (Ab 1) (fC (.int 1)) BL) Ad))) (Aa (Aj Ck (Aa (Ab 0) (Aa (Ac (Ab 1) (fC (.int 1)) BL) Ad))) Ad)))))
   AF)
 (Av (A3 (Aa (fC (.str "choice")) (Aa (fB (Aa (AJ (BM 1 [0,1] (Cg (Aa (Ac (fC (.int 1)) (Aj Ah (Aa (Ab 0) (Aa (fC (.int 3)) Ad))) AR) Ad)) (AQ 0) DV (Aj Ck (Aa (Ab 1) (Aa (Ac (Ab 2) (fC (.int 1)) BL) Ad))))) Ad) KC) Ad))))))))))
def DR (Cl Ah:Fn):M Out:=
 (Af (AA 2 (Ac (Ab 1) (fC (.int 0)) ixD))
 (Af (ifS (Au (Ac (Ab 2) (fC (.str "nothing")) (eqS id)))
   (Av (fC .non))
   AF)
 (Af (ifS (Au (Ac (Ab 2) (fC (.str "number")) (eqS id)))
   (Av (Ac (AJ (AV (Aa (Ac (Ab 1) (fC (.int 1)) ixD) (Aa (Ac (Ab 1) (fC (.int 2)) ixD) (Aa (Ac (Ac (Ab 1) (fC (.int 1)) ixD) (Aj Ah (Aa (Ab 0) (Aa (Ac (Ac (Ac (Ab 1) (fC (.int 2)) ixD) (Ac (Ab 1) (fC (.int 1)) ixD) BL) (fC (.int 1)) AR) Ad))) AR) Ad))))) (Aj Ah (Aa (Ab 0) (Aa (fC (.int 3)) Ad))) ixD))
   AF)
 (Af (ifS (Au (Ac (Ab 2) (fC (.str "text")) (eqS id)))
   (Af (AA 3 (fC (.str " !#09AZaz~{")))
 (Av (joinM (fC (.str "")) (Aa (AJ (BM 1 [3,0] (Cg (Aa (fB (Aa (Ac (Ab 1) (fC (.int 1)) ixD) (Aa (Aj Ah (Aa (Ab 0) (Aa (fC (.int 7)) Ad))) Ad)) Fr) Ad)) (AQ 0) DV (Ac (Ab 1) (Aj Ah (Aa (Ab 2) (Aa (fC (.int 11)) Ad))) ixD))) Ad))))
   AF)
 (Af (ifS (Au (Ac (Ab 2) (fC (.str "list")) (eqS id)))
   (Av (AJ (BM 1 [0,1] (Cg (Aa (fB (Aa (Ac (Ab 1) (fC (.int 2)) ixD) (Aa (Aj Ah (Aa (Ab 0) (Aa (fC (.int 4)) Ad))) Ad)) Fr) Ad)) (AQ 0) DV (Aj Cl (Aa (Ab 1) (Aa (Ac (Ab 2) (fC (.int 1)) ixD) Ad))))))
   AF)
 (Af (ifS (Au (Ac (Ab 2) (fC (.str "pair")) (eqS id)))
   (Av (A3 (Aa (Aj Cl (Aa (Ab 0) (Aa (Ac (Ab 1) (fC (.int 1)) ixD) Ad))) (Aa (Aj Cl (Aa (Ab 0) (Aa (Ac (Ab 1) (fC (.int 2)) ixD) Ad))) Ad))))
   AF)
 (Af (AA 4 (Aj Ah (Aa (Ab 0) (Aa (fB (Aa (Ac (Ab 1) (fC (.int 1)) ixD) Ad) A0) Ad))))
 (Av (A3 (Aa (fC (.str "of")) (Aa (Ab 4) (Aa (Aj Cl (Aa (Ab 0) (Aa (Ac (Ac (Ab 1) (fC (.int 1)) ixD) (Ab 4) ixD) Ad))) Ad))))))))))))
def Dm (Ah Ck AD:Fn):M Out:=
 (Af (AA 1 (Aj AD (Aa (Ab 0) (Aa (fC (.int 0)) Ad))))
 (Af (AA 2 (Ac (AJ (AV (Aa (Ac (fC (.int 1)) (Aj Ah (Aa (Ab 1) (Aa (fC (.int 5)) Ad))) AR) (Aa (Ac (fC (.int 1)) (Aj Ah (Aa (Ab 1) (Aa (fC (.int 9)) Ad))) AR) (Aa (fC (.int 30)) Ad))))) (Aj Ah (Aa (Ab 1) (Aa (fC (.int 3)) Ad))) ixD))
 (Af (Ej 3 (AV Ad))
 (Af (Ci (Cg (Aa (Ab 2) Ad)) (AQ 4)
   (Af (AA 1 (Aj AD (Aa (Ab 0) (Aa (Ac (fC (.int 1)) (Ac (Ab 4) (fC (.int 13)) EY) AR) Ad))))
 (Af (CN (Ac (Ac (Ac (Ab 1) (fC (.str "rest")) A8) (Ac (fC (.int 1)) (Ac (Ab 4) (fC (.int 13)) FH) AR) FH) (Ac (fC (.int 37)) (Ab 4) Ei) AR) (DL (Ab 1) (fC (.str "rest"))))
 (ifS (ID (Au (Ac (Aj Ah (Aa (Ab 1) (Aa (fC (.int 6)) Ad))) (fC (.int 0)) (eqS id))) (Au (Ac (Ab 4) (fC (.int 0)) gtA)))
   (ownM 3 BA (Aa (A3 (Aa (fC (.str "end")) Ad)) Ad))
   (Af (AA 5 (Ac (AJ (AV (Aa (fC (.str "left")) (Aa (fC (.str "right")) Ad)))) (Aj Ah (Aa (Ab 1) (Aa (fC (.int 2)) Ad))) ixD))
 (Af (Ej 6 (AV Ad))
 (Af (Ci (Cg (Aa (Ac (AJ (AV (Aa (fC (.int 1)) (Aa (fC (.int 2)) (Aa (fC (.int 3)) (Aa (fC (.int 9)) Ad)))))) (Aj Ah (Aa (Ab 1) (Aa (fC (.int 4)) Ad))) ixD) Ad)) (AQ 7)
   (Af (AA 8 (Ac (Ac (fC (.str "abcdefghi")) (Ab 7) ixD) (Ac (Ac (fC (.str "xyz")) (Aj Ah (Aa (Ab 1) (Aa (fC (.int 3)) Ad))) ixD) (Aj Ah (Aa (Ab 1) (Aa (fC (.int 8)) Ad))) Ei) AR))
 (Af (AA 9 (Ac (AJ (AV (Aa (Aj Ah (Aa (Ab 1) (Aa (Ab 2) Ad))) (Aa (fB (Aa (Ac (Ab 2) (fC (.int 1)) BL) (Aa (Ac (Ab 4) (fC (.int 1)) AR) Ad)) Fr) Ad)))) (Aj Ah (Aa (Ab 1) (Aa (fC (.int 2)) Ad))) ixD))
 (ownM 6 BA (Aa (A3 (Aa (Ab 8) (Aa (Aj Ck (Aa (Ab 1) (Aa (Aj Ah (Aa (Ab 1) (Aa (fC (.int 3)) Ad))) Ad))) (Aa (Ab 9) Ad)))) Ad)))))
 (ownM 3 BA (Aa (A3 (Aa (Ab 5) (Aa (Ab 6) Ad))) Ad)))))))))
 (Av (Ab 3))))))
def Ef (Cl Ah AD:Fn):M Out:=
 (Af (Ej 4 (AV Ad))
 (Af (AA 5 (fC (.int 0)))
 (Af (Ej 6 (AV (Aa (fC (.int 0)) Ad)))
 (Af (Ci (FG (Aa (Ab 2) (Aa (fB (Aa (fB (Aa (Ab 0) Ad) A0) (Aa (Ab 3) Ad)) Fr) Ad))) (AQ 7)
   (Af (AA 8 (Aj AD (Aa (Ab 0) (Aa (Ab 7) Ad))))
 (ifS (Au (Ac (Ac (Ab 1) (Ab 5) ixD) (A3 (Aa (fC (.str "end")) Ad)) (eqS λb=>!b)))
   (Af (CN (Ac (Ab 1) (Ab 5) ixD) (unS 2 (Bd (AQ 9) (Bd (AQ 10) DE))))
 (Af (CN (Ac (Ab 10) (Aj Ah (Aa (Ab 8) (Aa (fB (Aa (Ab 10) Ad) A0) Ad))) ixD) (unS 3 (Bd (AQ 11) (Bd (AQ 12) (Bd (AQ 13) DE)))))
 (Af (ownM 4 BA (Aa (A3 (Aa (Ab 9) (Aa (Ab 11) (Aa (Aj Cl (Aa (Ab 8) (Aa (Ab 12) Ad))) Ad)))) Ad))
 (Af (AA 5 (Ab 13))
 (ownM 6 BA (Aa (Ab 5) Ad))))))
   AF)))
 (Av (AJ (AV (Aa (Ab 4) (Aa (Ab 6) Ad)))))))))
def DU (BP DW:Fn):M Out:=
 (Af (ifS (Cu (Au (Aj DW (Aa (Ab 0) (Aa (Ab 1) Ad)))))
   (Fw "NoValue" (Aa (fC (.str "the value does not fit the shape")) Ad))
   AF)
 (Av (nxD (AJ (DB BP (Aa (Ab 0) (Aa (Ab 1) Ad)))))))
def Ey (BF:Fn):M Out:=
 (Af (ifS (Au (Ac (Ab 2) (fB (Aa (Ab 1) Ad) A0) geA))
   (Av (nxD (fC .non)))
   AF)
 (Af (ifS (Au (Ac (Ac (Ab 1) (Ab 2) ixD) (fB (Aa (Ac (Ab 0) (fC (.int 1)) ixD) Ad) A0) geA))
   (Dp "Broken" (Aa (Ab 2) (Aa (Ac (Ab 0) (fC (.int 0)) ixD) Ad)))
   AF)
 (Af (AA 3 (Ac (Ac (Ab 0) (fC (.int 1)) ixD) (Ac (Ab 1) (Ab 2) ixD) ixD))
 (Af (FB (De 4 (Aj BF (Aa (Ac (Ab 3) (fC (.int 1)) ixD) (Aa (Ab 1) (Aa (Ac (Ab 2) (fC (.int 1)) AR) Ad))))) (hNo "Short" (Av (nxD (fC .non))) (hAs "Broken" 5 (Dp "Broken" (Aa (bnd (Ab 5) (J2 "at")) (Aa (Ac (Ab 0) (fC (.int 0)) ixD) Ad))) XZ)))
 (Av (nxD (A3 (Aa (A3 (Aa (Ac (Ab 0) (fC (.int 0)) ixD) (Aa (Ac (Ab 3) (fC (.int 0)) ixD) (Aa (Ac (Ab 4) (fC (.int 0)) ixD) Ad)))) (Aa (Ac (Ab 3) (fC (.int 2)) ixD) (Aa (Ac (Ab 4) (fC (.int 1)) ixD) Ad))))))))))
def EV (Kg:Fn):M Out:=
 (Af (Ej 2 (AV Ad))
 (Af (AA 3 (fC (.int 0)))
 (Af (Ci (D6 (Ab 1)) (unS 3 (Bd (AQ 4) (Bd (AQ 5) (Bd (AQ 6) DE))))
   (Af (AA 7 (Ac (Ac (Ab 0) (Ab 3) ixD) (fC (.int 1)) ixD))
 (Af (AA 8 (idxM (AJ (BM 1 [] (D6 (Ab 7)) (AQ 0) DV (Ac (Ab 0) (fC (.int 0)) ixD))) (Aa (Ab 5) Ad)))
 (Af (ownM 2 BA (Aa (Ac (AJ (AV (Aa (Ab 8) Ad))) (Aj (Ez Kg) (Aa (Ac (Ac (Ab 7) (Ab 8) ixD) (fC (.int 1)) ixD) (Aa (Ab 6) Ad))) AR) Ad))
 (AA 3 (Ac (Ac (Ab 7) (Ab 8) ixD) (fC (.int 2)) ixD))))))
 (Av (Ab 2)))))
def Dd:M Out:=
 (Af (AA 2 (FF [("left",(AJ (AV Ad))),("right",(AJ (AV Ad)))]))
 (Af (Ci (Cg (Aa (fB (Aa (Ab 0) Ad) A0) Ad)) (AQ 3)
   (CN (Ac (Ac (Ab 2) (Ac (Ac (Ab 0) (Ab 3) ixD) (fC (.int 0)) ixD) A8) (Ac (Ab 1) (Ab 3) ixD) AR) (DL (Ab 2) (Ac (Ac (Ab 0) (Ab 3) ixD) (fC (.int 0)) ixD))))
 (Av (Ab 2))))
def Dt (BF C5:Fn):M Out:=
 (Af (De 3 (Aj C5 (Aa (Ac (Ab 0) (fC (.int 2)) ixD) (Aa (Ab 1) (Aa (Ab 2) Ad)))))
 (Af (AA 4 (Ac (Ab 2) (fC (.int 1)) AR))
 (Af (AA 5 (CP (AV Ad)))
 (Af (Ci (Cg (Aa (Ab 3) Ad)) (AQ 6)
   (Af (De 7 (Aj BF (Aa (Ac (Ab 0) (fC (.int 1)) ixD) (Aa (Ab 1) (Aa (Ab 4) Ad)))))
 (Af (CO (objM BA (Ab 5) (Aa (Ac (Ab 7) (fC (.int 0)) ixD) Ad)))
 (AA 4 (Ac (Ab 7) (fC (.int 1)) ixD)))))
 (Av (nxD (A3 (Aa (Ab 5) (Aa (Ab 4) Ad)))))))))
def Fm (Jk:Fn):M Out:=
 (Af (AA 4 (CP (AV Ad)))
 (Af (AA 5 (Ab 1))
 (Af (AA 6 (fB (Aa (Ab 3) Ad) Hz))
 (Af (Ge (Au (Ac (Ac (Ac (Ab 0) (Ab 5) ixD) (fC (.int 0)) ixD) (Ab 2) (inS false)))
   (Af (AA 7 (Ac (Ac (Ab 0) (Ab 5) ixD) (fC (.int 0)) ixD))
 (Af (De 8 (Aj Jk (Aa (Ac (Ab 0) (Ab 5) ixD) (Aa (Ac (Ab 2) (Ab 7) A8) (Aa (Ac (Ab 6) (Ab 7) A8) Ad)))))
 (Af (ifS (Au (Ac (Ab 8) (fC .non) isC))
   (ret .brk)
   AF)
 (Af (CO (objM BA (Ab 4) (Aa (Ac (Ab 8) (fC (.int 0)) ixD) Ad)))
 (Af (AA 5 (Ac (Ab 8) (fC (.int 1)) ixD))
 (CN (Ac (Ab 8) (fC (.int 2)) ixD) (DL (Ab 6) (Ab 7)))))))))
 (Av (nxD (A3 (Aa (Ab 4) (Aa (Ab 5) (Aa (Ab 6) Ad))))))))))
def EU (Al:Fn):M Out:=
 (Af (ifS (Au (fB (Aa (Ab 0) (Aa (A3 (Aa (fC (.ty "list")) (Aa (fC (.ty "tuple")) Ad))) Ad)) GY))
   (Av (Ac (AJ (Fh 1 [] (Mq (Ab 0)) (AQ 0) (Cu (Au (Aj Al (Aa (Ab 0) Ad)))) (Ab 0))) (AJ (AV Ad)) (eqO id)))
   AF)
 (Av (HB (fB (Aa (Ab 0) (Aa (fC (.ty "bool")) Ad)) Gu))))
def Ea (Ji:Fn):M Out:=
 (Af (Ek "grammar" (Aj Ji (Aa (Ab 1) Ad)) (Ab 0))
 (Af (Ek "standing" (fC (.int 0)) (Ab 0))
 (Af (Ek "wires" (EN []) (Ab 0))
 (Af (Ek "places" (EN []) (Ab 0))
 (Ci (D6 (Ab 2)) (AQ 3)
   (Af (CN (CP (AV Ad)) (DL (Ep "wires" (Ab 0)) (Ab 3)))
 (CN (fC (.int 0)) (DL (Ep "places" (Ab 0)) (Ab 3)))))))))
def CG:M Out:=
 (Av (Ep "standing" (Ab 0)))
def By:M Out:=
 (Av (Ac (fB (Aa (Ac (Ep "wires" (Ab 0)) (Ab 1) A8) Ad) A0) (Ac (Ep "places" (Ab 0)) (Ab 1) A8) BL))
def Eb (GM:Fn):M Out:=
 (CO (Aj GM (Aa (Ab 0) (Aa (Ab 1) (Aa (A3 (Aa (fC (.str "left")) (Aa (fC (.str "right")) Ad))) Ad)))))
def ES (Kb:Fn):M Out:=
 (Av (BZ "Reader" Kb (Ab 0) (Aa (Ab 1) (Aa (Ab 2) Ad))))
def Cq (El:Fn):M Out:=
 (Av (A3 (Aa (BZ "Reader" El (Ab 0) (Aa (fC (.str "left")) Ad)) (Aa (BZ "Reader" El (Ab 0) (Aa (fC (.str "right")) Ad)) Ad))))
def Dw (P6:Fn):M Out:=
 (Av (AJ (Fh 1 [] (Mq (Ab 0)) (AQ 0) DV (fIf (Au (Aj P6 (Aa (Ab 0) Ad))) (Ab 0) (A3 (Aa (Ac (Ab 0) (fC (.int 0)) ixD) (Aa (AJ (fBF (Aa (Ac (Ab 0) (fC (.int 1)) ixD) Ad) D9)) Ad)))))))
def DP (ON:Fn):M Out:=
 (Af (CO (objX (Ac (Ep "wires" (Ab 0)) (Ab 1) A8) (Aa (Ab 2) Ad)))
 (Af (De 3 (Aj ON (Aa (Ep "grammar" (Ab 0)) (Aa (Ep "standing" (Ab 0)) (Aa (Ep "wires" (Ab 0)) (Aa (Ep "places" (Ab 0)) Ad))))))
 (Af (Ek "standing" (Ac (Ab 3) (fC (.int 1)) ixD) (Ab 0))
 (Af (Ek "places" (Ac (Ab 3) (fC (.int 2)) ixD) (Ab 0))
 (Av (nxD (Ac (Ab 3) (fC (.int 0)) ixD)))))))
def DS:M Out:=
 (Af (AA 3 (FF [("left",(fC (.int 0))),("right",(fC (.int 0)))]))
 (Af (AA 4 (fC (.int 0)))
 (Af (Ge (ID (Au (Ac (Ab 4) (fB (Aa (Ab 0) Ad) A0) ltA)) (Au (Ac (Ac (Ac (Ab 3) (Ac (Ac (Ab 0) (Ab 4) ixD) (fC (.int 0)) ixD) A8) (fB (Aa (Ac (Ab 1) (Ab 4) ixD) Ad) A0) AR) (Ac (Ab 2) (Ac (Ac (Ab 0) (Ab 4) ixD) (fC (.int 0)) ixD) A8) leA)))
   (Af (CN (Ac (Ac (Ab 3) (Ac (Ac (Ab 0) (Ab 4) ixD) (fC (.int 0)) ixD) A8) (fB (Aa (Ac (Ab 1) (Ab 4) ixD) Ad) A0) AR) (DL (Ab 3) (Ac (Ac (Ab 0) (Ab 4) ixD) (fC (.int 0)) ixD)))
 (AA 4 (Ac (Ab 4) (fC (.int 1)) AR))))
 (Av (AJ (AV (Aa (Ab 4) (Aa (Ab 3) Ad))))))))
def Ev (Ah:Fn):M Out:=
 (Av (fB (Aa (Ab 1) (Aa (Ac (AJ (AV (Aa (fC (.int 0)) (Aa (fC (.int 1)) (Aa (Ac (fC (.int 1)) (Aj Ah (Aa (Ab 0) (Aa (fC (.int 3)) Ad))) AR) (Aa (Ac (fC (.int 1)) (Aj Ah (Aa (Ab 0) (Aa (fC (.int 20)) Ad))) AR) (Aa (Ab 1) Ad))))))) (Aj Ah (Aa (Ab 0) (Aa (fC (.int 5)) Ad))) ixD) Ad)) Fr))
def CV:M Out:=
 (Af (Ci (Cg (Aa (fB (Aa (Ab 0) Ad) A0) Ad)) (AQ 2)
   (ifS (Au (fB (Aa (Ac (Ac (Ab 0) (Ab 2) ixD) (fC (.int 2)) ixD) (Aa (fC (.ty "list")) Ad)) Gu))
   (Af (CO (objM BA (Ac (Ac (Ab 0) (Ab 2) ixD) (fC (.int 2)) ixD) (Aa (fC .non) Ad)))
 (Af (ifS (Au (Ac (Ac (fSl (Ab 0) fNo (DI (Ab 2)) Fz) (fSl (Ab 0) (DI (Ac (Ab 2) (fC (.int 1)) AR)) fNo Fz) AR) (Ac (fSl (Ab 1) fNo (DI (Ab 2)) Fz) (fSl (Ab 1) (DI (Ac (Ab 2) (fC (.int 1)) AR)) fNo Fz) AR) (eqO λb=>!b)))
   (Av (fC (.bl false)))
   AF)
 (CO (Pf (Ac (Ac (Ab 0) (Ab 2) ixD) (fC (.int 2)) ixD)))))
   AF))
 (Av (Ac (Ab 0) (Ab 1) (eqO id))))
def Ew (Dg:Fn):M Out:=
 (Af (AA 1 (CP (BM 1 [] (D6 (Ab 0)) (AQ 0) DV (fIf (Au (Ac (fB (Aa (Ab 0) Ad) A0) (fC (.int 1)) (eqS id))) (Ab 0) (A3 (Aa (Ac (Ab 0) (fC (.int 0)) ixD) (Aa (CP (fBF (Aa (Ac (Ab 0) (fC (.int 1)) ixD) Ad) D9)) Ad)))))))
 (Af (AA 2 (Jq "Reader" Dg (Aa (Ab 1) Ad)))
 (Af (CO (objM BA (Ab 1) (Aa (A3 (Aa (fC (.str "end")) Ad)) Ad)))
 (Af (CO (Pe (Ac (Ac (Ab 1) (fC (.int 0)) ixD) (fC (.int 1)) ixD)))
 (Av (Ab 2))))))
def ET (Am Ak Ag Dg:Fn):M Out:=
 (Af (AA 0 (Jq "Reader" Dg (Aa (CP (AV (Aa (A3 (Aa (fC (.str "end")) Ad)) Ad))) Ad)))
 (Av (DH (Ac (BZ "Reader" (Ez Am) (Ab 0) (Aa (fC (.str "left")) (Aa (CP (AV (Aa (fC (.int 5)) (Aa (fC (.int 6)) Ad)))) Ad))) (AJ (AV Ad)) (eqO id)) (DH (Ac (BZ "Reader" Ak (Ab 0) (ret [])) (fC (.int 0)) (eqS id)) (Ac (BZ "Reader" Ag (Ab 0) (ret [])) (A3 (Aa (fC (.int 2)) (Aa (fC (.int 0)) Ad))) (eqS id))))))
abbrev MR (Ag Al:Fn):M Out:=
 (Af (ifS (fOr (Au (Ac (BZ "Reader" Ag (Ab 6) (ret [])) (Ab 20) (eqS λb=>!b))) (Cu (Au (Aj Al (Aa (Ab 17) Ad)))))
   (Av (fC (.bl false)))
   AF)
 (Af (AA 9 (AJ (bnd (Ab 9) λx=>bnd (Ab 17) λy=>Jm x y)))
 (Af (CO (objM BA (Ab 15) (Aa (fC (.int 255)) Ad)))
 (Af (CO (objM BA (Ab 17) (Aa (fC .non) Ad)))
 (Af (ownM 10 BA (Aa (A3 (Aa (Ab 17) (Aa (AJ (fBF (Aa (Ab 17) Ad) D9)) Ad))) Ad))
 (AA 8 (Ab 18)))))))
abbrev MS (Ag Al:Fn):M Out:=
 (Af (AA 20 (A3 (Aa (Ac (Ac (Ab 7) (fC (.str "left")) A8) (Ac (Ab 19) (fC (.str "left")) A8) BL) (Aa (Ac (Ac (Ab 7) (fC (.str "right")) A8) (Ac (Ab 19) (fC (.str "right")) A8) BL) Ad))))
 (MR Ag Al))
abbrev MT (Ag Al Ak:Fn):M Out:=
 (Af (ifS (fOr (Cu (Au (fB (Aa (Ab 17) (Aa (fC (.ty "list")) Ad)) Gu))) (fOr (Au (Ac (Ab 17) (fSl (Ab 2) (DI (Ab 8)) (DI (Ab 18)) Fz) (eqO λb=>!b))) (fOr (Au (Ac (Ab 15) (Ab 16) (eqO λb=>!b))) (Au (Ac (BZ "Reader" Ak (Ab 6) (ret [])) (Ac (Ab 3) (Ab 18) ixD) (eqS λb=>!b))))))
   (Av (fC (.bl false)))
   AF)
 (MS Ag Al))
abbrev MU (Ag Al Ak Aq:Fn):M Out:=
 (Af (CN (Aj Aq (Aa (Ab 2) (Aa (Ab 4) (Aa (Ab 7) Ad)))) (unS 2 (Bd (AQ 18) (Bd (AQ 19) DE))))
 (MT Ag Al Ak))
abbrev MV (Ag Al Ak Aq:Fn):M Out:=
 (Af (CN (Ac (Ac (Ab 7) (Ab 13) A8) (Ab 14) AR) (DL (Ab 7) (Ab 13)))
 (MU Ag Al Ak Aq))
abbrev MW (Am Ag Al Ak Aq:Fn):M Out:=
 (Af (AA 17 (BZ "Reader" (Ez Am) (Ab 6) (Aa (Ab 13) (Aa (Ab 15) Ad))))
 (MV Ag Al Ak Aq))
abbrev MX (Am Ag Al Ak Aq:Fn):M Out:=
 (Af (AA 16 (AJ (fBF (Aa (Ab 15) Ad) D9)))
 (MW Am Ag Al Ak Aq))
abbrev MY (Am Ag Al Ak Aq:Fn):M Out:=
 (Af (AA 15 (CP (OT (Ac (Ab 5) (Ab 13) A8) (DI (Ac (Ab 7) (Ab 13) A8)) (DI (Ac (Ac (Ab 7) (Ab 13) A8) (Ab 14) AR)))))
 (MX Am Ag Al Ak Aq))
abbrev MZ (Am Ag Al Ak Aq:Fn):M Out:=
 (Af (ifS (Au (Ac (Ab 11) (fC (.int 33)) gtA))
   (Af (AA 13 (Ac (AJ (AV (Aa (fC (.str "left")) (Aa (fC (.str "right")) Ad)))) (Ac (Ab 11) (fC (.int 34)) BL) ixD))
 (AA 14 (Ac (fB (Aa (Ac (Ab 5) (Ab 13) A8) Ad) A0) (Ac (Ab 7) (Ab 13) A8) BL)))
   AF)
 (MY Am Ag Al Ak Aq))
abbrev Ld (Am Ag Al Ak Aq Ay:Fn):M Out:=
 (Af (AA 14 (Aj Ay (Aa (Ab 12) (Aa (Ac (fB (Aa (Ac (Ab 5) (Ab 13) A8) Ad) A0) (Ac (Ab 7) (Ab 13) A8) BL) Ad))))
 (MZ Am Ag Al Ak Aq))
abbrev Le (Am Ag Al Ak Aq Ay Ah:Fn):M Out:=
 (Af (AA 13 (Ac (AJ (AV (Aa (fC (.str "left")) (Aa (fC (.str "right")) Ad)))) (Aj Ah (Aa (Ab 12) (Aa (fC (.int 2)) Ad))) ixD))
 (Ld Am Ag Al Ak Aq Ay))
abbrev Lf (Am Az:Fn):M Out:=
 (Af (ifS (fOr (Au (Ac (Ab 8) (fB (Aa (Ab 2) Ad) A0) (eqS λb=>!b))) (fOr (Cu (Au (Aj Az Ad))) (Au (Ac (AJ (BM 2 [] (D6 (Ab 10)) (unS 2 (Bd (AQ 0) (Bd (AQ 1) DE))) (Au (Ac (Ab 0) (Ab 1) (eqO λb=>!b))) (fC (.int 1)))) (AJ (AV Ad)) (eqS λb=>!b)))))
   (Av (fC (.bl false)))
   AF)
 (Av (DH (Ac (BZ "Reader" (Ez Am) (Ab 6) (Aa (fC (.str "left")) (Aa (CP (AV Ad)) Ad))) (AJ (AV Ad)) (eqO id)) (Ac (BZ "Reader" (Ez Am) (Ab 6) (Aa (fC (.str "right")) (Aa (CP (AV Ad)) Ad))) (AJ (AV Ad)) (eqO id)))))
abbrev Lg (Am Az Aw:Fn):M Out:=
 (Af (ifS (Cu (Au (Aj Aw (Aa (Ab 9) (Aa (Ab 2) Ad)))))
   (Av (fC (.bl false)))
   AF)
 (Lf Am Az))
abbrev Lh (Am Az Aw Ag Al Ak Aq Ay Ah AD:Fn):M Out:=
 (Af (Ci (Cg (Aa (fC (.int 36)) Ad)) (AQ 11)
   (Af (AA 12 (Aj AD (Aa (Ab 0) (Aa (Ac (fC (.int 27)) (Ab 11) AR) Ad))))
 (Le Am Ag Al Ak Aq Ay Ah)))
 (Lg Am Az Aw))
abbrev Li (Am Az Aw Ag Al Ak Aq Ay Ah AD:Fn):M Out:=
 (Af (Ej 10 (AV Ad))
 (Lh Am Az Aw Ag Al Ak Aq Ay Ah AD))
abbrev Lj (Am Az Aw Ag Al Ak Aq Ay Ah AD:Fn):M Out:=
 (Af (AA 9 (AJ (AV Ad)))
 (Li Am Az Aw Ag Al Ak Aq Ay Ah AD))
abbrev Lk (Am Az Aw Ag Al Ak Aq Ay Ah AD:Fn):M Out:=
 (Af (AA 8 (fC (.int 0)))
 (Lj Am Az Aw Ag Al Ak Aq Ay Ah AD))
abbrev Ll (Am Az Aw Ag Al Ak Aq Ay Ah AD:Fn):M Out:=
 (Af (AA 7 (FF [("left",(fC (.int 0))),("right",(fC (.int 0)))]))
 (Lk Am Az Aw Ag Al Ak Aq Ay Ah AD))
abbrev Lm (Am Az Aw Ag Al Ak Aq Ay Ah AD Bl:Fn):M Out:=
 (Af (AA 6 (Aj Bl (Aa (Ab 1) Ad)))
 (Ll Am Az Aw Ag Al Ak Aq Ay Ah AD))
abbrev Ln (Am Az Aw Ag Al Ak Aq Ay Ah AD Bl Bf:Fn):M Out:=
 (Af (AA 5 (Aj Bf (Aa (Ab 2) (Aa (Ab 4) Ad))))
 (Lm Am Az Aw Ag Al Ak Aq Ay Ah AD Bl))
abbrev Lo (Am Az Aw Ag Al Ak Aq Ay Ah AD Bl Bf C6:Fn):M Out:=
 (Af (AA 4 (Aj C6 (Aa (Ab 1) (Aa (Ab 2) Ad))))
 (Ln Am Az Aw Ag Al Ak Aq Ay Ah AD Bl Bf))
abbrev Lp (Am Az Aw Ag Al Ak Aq Ay Ah AD Bl Bf C6 Fe:Fn):M Out:=
 (Af (CN (Aj Fe (Aa (Ab 0) (Aa (Ab 1) (Aa (fC (.int 14)) (Aa (fC (.int 50)) Ad))))) (unS 2 (Bd (AQ 2) (Bd (AQ 3) DE))))
 (Lo Am Az Aw Ag Al Ak Aq Ay Ah AD Bl Bf C6))
def Hd (Am Az Aw Ag Al Ak Aq Ay Ah AD Bl Bf C6 Fe Jh:Fn):M Out:=
 (Af (AA 1 (Aj Jh (Aa (Ab 0) Ad)))
 (Lp Am Az Aw Ag Al Ak Aq Ay Ah AD Bl Bf C6 Fe))
end LW
namespace F2
open PySem L2
def W {α:Type}(m:M α)(t:T)(P:α->T->Prop):Prop:=∃a t',m t=some (a,t')/\P a t'
def Wf (g:Fn)(ds:List D)(S:List Ob)(P:D->List Ob->Prop):Prop:=∃r S',g ds S=some (r,S')/\P r S'
theorem W.mono {α:Type}{m:M α}{t:T}{P Q:α->T->Prop}(h:W m t P)(i:∀a t',P a t'->Q a t'):W m t Q:=by
 obtain ⟨a,t',e,p⟩:=h;exact ⟨a,t',e,i a t' p⟩
theorem Wf.mono {g:Fn}{ds:List D}{S:List Ob}{P Q:D->List Ob->Prop}(h:Wf g ds S P)(i:∀r S',P r S'->Q r S'):Wf g ds S Q:=by
 obtain ⟨a,t',e,p⟩:=h;exact ⟨a,t',e,i a t' p⟩
section
variable {α β:Type}
theorem AC {m:M α}{t:T}{P:α->T->Prop}{a:α}{t':T}(e:m t=some (a,t')):W m t P↔P a t':=by
 constructor
 ·rintro ⟨a',t1,e',p⟩;rw [e] at e';cases e';exact p
 ·exact λp=>⟨a,t',e,p⟩
theorem D4 {m:M α}{t:T}{P:α->T->Prop}(e:m t=none):W m t P↔False:=by
 constructor
 ·rintro ⟨a',t1,e',p⟩;rw [e] at e';cases e'
 ·exact False.elim
@[simp] theorem W_ret {a:α} {t:T} {P:α->T->Prop}:W (ret a) t P↔P a t:=AC rfl
@[simp] theorem W_fail {t:T} {P:α->T->Prop}:W (fail:M α) t P↔False:=D4 rfl
@[simp] theorem W_bnd {f:M α} {g:α->M β} {t:T} {P:β->T->Prop}:W (bnd f g) t P↔W f t λa t1=>W (g a) t1 P:=by
 constructor
 ·rintro ⟨b,t',e,p⟩;obtain ⟨a,t1,e1,e2⟩:=Ae e;exact ⟨a,t1,e1,b,t',e2,p⟩
 ·rintro ⟨a,t1,e1,b,t',e2,p⟩;exact ⟨b,t',by unfold bnd;rw [e1];exact e2,p⟩
@[simp] theorem Uu {c:Prop} [Decidable c] {f g:M α} {t:T} {P:α->T->Prop}:W (if c then f else g) t P↔if c then W f t P else W g t P:=by split <;> rfl
@[simp] theorem dD {n:Nat} {a:α} {t:T} {P:α->T->Prop}:W (lim n a) t P↔n<=LIM/\P a t:=by
 unfold lim;constructor
 ·rintro ⟨a',t',e,p⟩
  split at e
  ·cases e;exact ⟨by assumption,p⟩
  ·cases e
 ·rintro ⟨h,p⟩;exact ⟨a,t,by simp only [h,if_true],p⟩
end
variable {t:T}{env:List (Option Sl)}{S:List Ob}
@[simp] theorem W_fC {d:D} {P:D->T->Prop}:W (fC d) t P↔P d t:=AC rfl
@[simp] theorem P3 {i:Nat} {P:D->T->Prop}:W (Ab i) t P↔match t.env[i]? with
 | some (some (.val d))=>P d t
 | some (some (.own ds))=>P (.lst ds) ⟨t.env.set i (some (.val (.lst ds))),t.S⟩
 | _=>False:=by
 cases e:t.env[i]? with
 | none=>exact D4 (by unfold Ab;simp [e])
 | some o=>
   cases o with
   | none=>exact D4 (by unfold Ab;simp [e])
   | some sl=>
     cases sl with
     | val d=>exact AC (by unfold Ab;simp [e])
     | own ds=>exact AC (by unfold Ab;simp [e])
@[simp] theorem W_fBin {f g:M D} {h:D->D->M D} {P:D->T->Prop}:W (Ac f g h) t P↔W f t λx t1=>W g t1 λy t2=>W (h x y) t2 P:=by simp [Ac]
@[simp] theorem W_fUn {f:M D} {h:D->M D} {P:D->T->Prop}:W (fUn f h) t P↔W f t λx t1=>W (h x) t1 P:=by simp [fUn]
@[simp] theorem W_toB {b:Bool} {P:Bool->T->Prop}:W (toB (.bl b)) t P↔P b t:=AC rfl
@[simp] theorem W_fTst {f:M D} {P:Bool->T->Prop}:W (Au f) t P↔W f t λx t1=>W (toB x) t1 P:=by simp [Au]
@[simp] theorem W_fChain {f g w:M D} {h h':D->D->M D} {P:D->T->Prop}:W (EM f g w h h') t P↔W f t λx t1=>W g t1 λy t2=>W (h x y) t2 λk t3=>W (toB k) t3 λk t4=>if k=true then W w t4 λz t5=>W (h' y z) t5 P else P (.bl false) t4:=by
 simp [EM]
@[simp] theorem W_fAnd {f g:M Bool} {P:Bool->T->Prop}:W (ID f g) t P↔W f t λk t1=>if k=true then W g t1 P else P false t1:=by simp [ID]
@[simp] theorem W_fOr {f g:M Bool} {P:Bool->T->Prop}:W (fOr f g) t P↔W f t λk t1=>if k=true then P true t1 else W g t1 P:=by simp [fOr]
@[simp] theorem W_fNot {f:M Bool} {P:Bool->T->Prop}:W (Cu f) t P↔W f t λk t1=>P (!k) t1:=by simp [Cu]
@[simp] theorem W_fAndV {f g:M D} {P:D->T->Prop}:W (DH f g) t P↔W f t λx t1=>W (toB x) t1 λk t2=>if k=true then W g t2 P else P (.bl false) t2:=by simp [DH]
@[simp] theorem dh {f g:M D} {P:D->T->Prop}:W (Xv f g) t P↔W f t λx t1=>W (toB x) t1 λk t2=>if k=true then P (.bl true) t2 else W g t2 P:=by simp [Xv]
@[simp] theorem W_fNotV {f:M D} {P:D->T->Prop}:W (HB f) t P↔W f t λx t1=>W (toB x) t1 λk t2=>P (.bl (!k)) t2:=by simp [HB]
@[simp] theorem W_fIf {f:M Bool} {g h:M D} {P:D->T->Prop}:W (fIf f g h) t P↔W f t λk t1=>if k=true then W g t1 P else W h t1 P:=by simp [fIf]
@[simp] theorem W_fNil {P:List D->T->Prop}:W Ad t P↔P [] t:=AC rfl
@[simp] theorem W_fCons {f:M D} {g:M (List D)} {P:List D->T->Prop}:W (Aa f g) t P↔W f t λd t1=>W g t1 λds t2=>P (d :: ds) t2:=by simp [Aa]
@[simp] theorem W_fTup {f:M (List D)} {P:D->T->Prop}:W (A3 f) t P↔W f t λds t1=>ds.length<=LIM/\P (.tup ds) t1:=by simp [A3]
@[simp] theorem W_fLst {f:M (List D)} {P:List D->T->Prop}:W (AV f) t P↔W f t λds t1=>ds.length<=LIM/\P ds t1:=by simp [AV]
@[simp] theorem W_fPure {f:M (List D)} {P:D->T->Prop}:W (AJ f) t P↔W f t λds t1=>P (.lst ds) t1:=by simp [AJ]
@[simp] theorem W_newOb {o:Ob} {P:D->T->Prop}:W (Pc o) t P↔P (.obj t.S.length) ⟨t.env,t.S++[o]⟩:=AC rfl
@[simp] theorem Xg {f:M (List D)} {P:D->T->Prop}:W (CP f) t P↔W f t λds t1=>W (Pc (.lst ds)) t1 P:=by simp [CP]
@[simp] theorem W_fCall {g:Fn} {f:M (List D)} {P:D->T->Prop}:W (Aj g f) t P↔W f t λds t1=>Wf g ds t1.S λr S'=>P r ⟨t1.env,S'⟩:=by
 unfold Aj;rw [W_bnd];constructor
 ·rintro ⟨ds,t1,e1,r,t',e2,p⟩;refine ⟨ds,t1,e1,?_⟩;dsimp only at e2
  cases e:g ds t1.S with
  | none=>rw [e] at e2;cases e2
  | some z=>obtain ⟨r',S'⟩:=z;rw [e] at e2;cases e2;exact ⟨r,_,e,p⟩
 ·rintro ⟨ds,t1,e1,r,S',e2,p⟩;exact ⟨ds,t1,e1,r,_,by simp only [e2],p⟩
@[simp] theorem W_fB {f:M (List D)} {h:List D->M D} {P:D->T->Prop}:W (fB f h) t P↔W f t λds t1=>W (h ds) t1 P:=by simp [fB]
@[simp] theorem W_fBF {f:M (List D)} {h:List D->M (List D)} {P:List D->T->Prop}:W (fBF f h) t P↔W f t λds t1=>W (h ds) t1 P:=by simp [fBF]
@[simp] theorem W_seqS {f g:M Out} {P:Out->T->Prop}:W (Af f g) t P↔W f t λo t1=>match o with
 | .next=>W g t1 P
 | .brk=>P .brk t1
 | .cont=>P .cont t1
 | .ret d=>P (.ret d) t1:=by
 unfold Af;constructor
 ·rintro ⟨o,t',e,p⟩;dsimp only at e
  cases e1:f t with
  | none=>rw [e1] at e;cases e
  | some z=>
    obtain ⟨o1,t1⟩:=z;rw [e1] at e;refine ⟨o1,t1,e1,?_⟩
    cases o1 with
    | next=>exact ⟨o,t',e,p⟩
    | brk=>cases e;exact p
    | cont=>cases e;exact p
    | ret d=>cases e;exact p
 ·rintro ⟨o,t1,e,p⟩
  cases o with
  | next=>obtain ⟨o,t',e',p⟩:=p;exact ⟨o,t',by simp only [e];exact e',p⟩
  | brk=>exact ⟨_,_,by simp only [e],p⟩
  | cont=>exact ⟨_,_,by simp only [e],p⟩
  | ret d=>exact ⟨_,_,by simp only [e],p⟩
@[simp] theorem W_skipS {P:Out->T->Prop}:W AF t P↔P .next t:=AC rfl
@[simp] theorem W_retS {f:M D} {P:Out->T->Prop}:W (Av f) t P↔W f t λd t1=>P (.ret d) t1:=by simp [Av]
@[simp] theorem W_dropS {f:M D} {P:Out->T->Prop}:W (CO f) t P↔W f t λd t1=>P .next t1:=by simp [CO]
@[simp] theorem W_ifS {f:M Bool} {g h:M Out} {P:Out->T->Prop}:W (ifS f g h) t P↔W f t λk t1=>if k=true then W g t1 P else W h t1 P:=by simp [ifS]
@[simp] theorem W_putV {i:Nat} {d:D} {P:Unit->T->Prop}:W (AQ i d) t P↔P () ⟨t.env.set i (some (.val d)),t.S⟩:=AC rfl
@[simp] theorem W_setS {i:Nat} {f:M D} {P:Out->T->Prop}:W (AA i f) t P↔W f t λd t1=>P .next ⟨t1.env.set i (some (.val d)),t1.S⟩:=by
 simp only [AA,W_bnd,W_ret,W_putV]
@[simp] theorem W_ownS {i:Nat} {f:M (List D)} {P:Out->T->Prop}:W (Ej i f) t P↔W f t λds t1=>P .next ⟨t1.env.set i (some (.own ds)),t1.S⟩:=by
 unfold Ej;rw [W_bnd];have:∀(ds:List D) (t1:T),W (λt:T=>some (Out.next,({ t with env:=t.env.set i (some (.own ds)) }:T))) t1 P↔P .next ⟨t1.env.set i (some (.own ds)),t1.S⟩:=λds t1=>AC rfl;simp only [this]
@[simp] theorem W_asgS {f:M D} {g:D->M Unit} {P:Out->T->Prop}:W (CN f g) t P↔W f t λd t1=>W (g d) t1 λ_ t2=>P .next t2:=by simp [CN]
@[simp] theorem W_putNil {P:Unit->T->Prop}:W (DE []) t P↔P () t:=AC rfl
@[simp] theorem W_putCons {f:D->M Unit} {g:List D->M Unit} {d:D} {ds:List D} {P:Unit->T->Prop}:W (Bd f g (d :: ds)) t P↔W (f d) t λ_ t1=>W (g ds) t1 P:=by simp [Bd]
@[simp] theorem W_unS_lst {n:Nat} {g:List D->M Unit} {ds:List D} {P:Unit->T->Prop}:W (unS n g (.lst ds)) t P↔ds.length=n/\W (g ds) t P:=by
 unfold unS;simp only [Uu,W_fail];split <;> simp [*]
@[simp] theorem W_unS_tup {n:Nat} {g:List D->M Unit} {ds:List D} {P:Unit->T->Prop}:W (unS n g (.tup ds)) t P↔ds.length=n/\W (g ds) t P:=by
 unfold unS;simp only [Uu,W_fail];split <;> simp [*]
@[simp] theorem W_forS {f:M (List D)} {st:D->M Unit} {b:M Out} {P:Out->T->Prop}:W (Ci f st b) t P↔W f t λds t1=>W (CB st b ds) t1 P:=by simp [Ci]
@[simp] theorem W_forL_nil {st:D->M Unit} {b:M Out} {P:Out->T->Prop}:W (CB st b []) t P↔P .next t:=AC rfl
theorem W_forL_cons {st:D->M Unit}{b:M Out}{d:D}{r:List D}{P:Out->T->Prop}:W (CB st b (d :: r)) t P↔W (st d) t λ_ t1=>W b t1 λo t2=>match o with
 | .next=>W (CB st b r) t2 P
 | .cont=>W (CB st b r) t2 P
 | .brk=>P .next t2
 | .ret x=>P (.ret x) t2:=by
 constructor
 ·rintro ⟨o,t',e,p⟩;unfold CB at e
  cases e1:st d t with
  | none=>rw [e1] at e;cases e
  | some z=>
    obtain ⟨u,t1⟩:=z;rw [e1] at e
    try dsimp only at e
    refine ⟨u,t1,e1,?_⟩
    cases e2:b t1 with
    | none=>rw [e2] at e;cases e
    | some z=>
      obtain ⟨o2,t2⟩:=z;rw [e2] at e
      try dsimp only at e
      refine ⟨o2,t2,e2,?_⟩
      cases o2 with
      | next=>exact ⟨o,t',e,p⟩
      | cont=>exact ⟨o,t',e,p⟩
      | brk=>cases e;exact p
      | ret x=>cases e;exact p
 ·rintro ⟨u,t1,e1,o,t2,e2,p⟩
  cases o with
  | next=>obtain ⟨o,t',e',p⟩:=p;exact ⟨o,t',by unfold CB;simp only [e1,e2];exact e',p⟩
  | cont=>obtain ⟨o,t',e',p⟩:=p;exact ⟨o,t',by unfold CB;simp only [e1,e2];exact e',p⟩
  | brk=>exact ⟨_,_,by unfold CB;simp only [e1,e2],p⟩
  | ret x=>exact ⟨_,_,by unfold CB;simp only [e1,e2],p⟩
theorem CL {st:D->M Unit}{b:M Out}{P:Out->T->Prop}(I:List D->T->Prop):∀(ds:List D) (t:T),I ds t->
 (∀d r t,I (d :: r) t->d∈ds->W (st d) t λ_ t1=>W b t1 λo t2=>match o with
   | .next=>I r t2
   | .cont=>I r t2
   | .brk=>P .next t2
   | .ret x=>P (.ret x) t2)->(∀t,I [] t->P .next t)->W (CB st b ds) t P
 | [],t,h,_,fin=>W_forL_nil.mpr (fin t h)
 | d :: r,t,h,turn,fin=>by
   rw [W_forL_cons];refine (turn d r t h ue9).mono λ_ t1 h1=>h1.mono λo t2 h2=>?_
   cases o with
   | next=>exact CL I r t2 h2 (λd' r' t' h' m=>turn d' r' t' h' (ud5 _ m)) fin
   | cont=>exact CL I r t2 h2 (λd' r' t' h' m=>turn d' r' t' h' (ud5 _ m)) fin
   | brk=>exact h2
   | ret x=>exact h2
@[simp] theorem W_fComp {n:Nat} {fr:List Nat} {f:M (List D)} {st:D->M Unit} {tst:M Bool} {elt:M D} {P:List D->T->Prop}:W (BM n fr f st tst elt) t P↔W f t λds t1=>W (B4 st tst elt ds) ⟨cenv n fr t1.env,t1.S⟩ λxs t'=>xs.length<=LIM/\P xs ⟨t1.env,t'.S⟩:=by
 unfold BM;rw [W_bnd];constructor
 ·rintro ⟨ds,t1,e1,xs,t',e2,p⟩;refine ⟨ds,t1,e1,?_⟩;dsimp only at e2
  cases e:B4 st tst elt ds ⟨cenv n fr t1.env,t1.S⟩ with
  | none=>rw [e] at e2;cases e2
  | some z=>
    obtain ⟨ys,t3⟩:=z;rw [e] at e2;dsimp only at e2
    split at e2
    ·cases e2;exact ⟨_,_,e,by assumption,p⟩
    ·cases e2
 ·rintro ⟨ds,t1,e1,xs,t',e2,h,p⟩;exact ⟨ds,t1,e1,xs,_,by simp only [e2,h,if_true],p⟩
@[simp] theorem W_compL_nil {st:D->M Unit} {tst:M Bool} {elt:M D} {P:List D->T->Prop}:W (B4 st tst elt []) t P↔P [] t:=AC rfl
theorem D3 {st:D->M Unit}{tst:M Bool}{elt:M D}{d:D}{r:List D}{P:List D->T->Prop}:W (B4 st tst elt (d :: r)) t P↔W (st d) t λ_ t1=>W tst t1 λk t2=>
 if k=true then W elt t2 λx t3=>W (B4 st tst elt r) t3 λxs t4=>P (x :: xs) t4 else W (B4 st tst elt r) t2 P:=by
 rw [B4];simp
theorem FZ {st:D->M Unit}{tst:M Bool}{elt:M D}{P:List D->T->Prop}(I:List D->List D->T->Prop):∀(ds:List D) (acc:List D) (t:T),I acc ds t->
 (∀acc d r t,I acc (d :: r) t->d∈ds->W (st d) t λ_ t1=>W tst t1 λk t2=>if k=true then W elt t2 λx t3=>I (acc++[x]) r t3 else I acc r t2)->
 (∀acc t,I acc [] t->P acc t)->W (B4 st tst elt ds) t λxs t'=>P (acc++xs) t'
 | [],acc,t,h,_,fin=>W_compL_nil.mpr (by rw [uj2];exact fin acc t h)
 | d :: r,acc,t,h,turn,fin=>by
   rw [D3];have turn':∀acc d' r' t',I acc (d' :: r') t'->d'∈r->_:=λacc d' r' t' h' m=>turn acc d' r' t' h' (ud5 _ m);refine (turn acc d r t h ue9).mono λ_ t1 h1=>h1.mono λk t2 h2=>?_
   cases k with
   | true=>
     rw [if_pos rfl] at h2 ⊢;refine h2.mono λx t3 h3=>(FZ I r (acc++[x]) t3 h3 turn' fin).mono λxs t4 h4=>?_;rw [ug4] at h4;exact h4
   | false=>
     rw [if_neg uf0] at h2 ⊢;exact FZ I r acc t2 h2 turn' fin
theorem Ax {n m:Nat}{g:M Out}{ds:List D}{P:D->List Ob->Prop}(h:ds.length=n)(w:W g ⟨env0 m ds,S⟩ λo t=>match o with
 | .ret r=>P r t.S
 | .next=>P .non t.S
 | _=>False):Wf (fnOf n m g) ds S P:=by
 obtain ⟨o,t,e,p⟩:=w
 cases o with
 | ret r=>exact ⟨r,t.S,by unfold fnOf;rw [if_pos h,e],p⟩
 | next=>exact ⟨.non,t.S,by unfold fnOf;rw [if_pos h,e],p⟩
 | brk=>exact p.elim
 | cont=>exact p.elim
@[simp] theorem W_tTru {P:Bool->T->Prop}:W DV t P↔P true t:=AC rfl
@[simp] theorem dg {P:D->T->Prop}:W bg t P↔P .dic t:=AC rfl
end F2
namespace F2
open PySem L2
variable {t:T}{P:D->T->Prop}
theorem Lz {α β:Type}{o:Option β}{g:β->α×T}{Q:α->T->Prop}{m:M α}(e:m t=o.map g):W m t Q↔∃b,o=some b/\Q (g b).1 (g b).2:=by
 constructor
 ·rintro ⟨a,t',e',p⟩;rw [e] at e';obtain ⟨b,h1,h2⟩:=uc4.mp e';exact ⟨b,h1,by rw [h2];exact p⟩
 ·rintro ⟨b,h,p⟩;exact ⟨_,_,by rw [e,h];rfl,p⟩
theorem Sd {α:Type}{c:Prop}[Decidable c]{z:α×T}{Q:α->T->Prop}{m:M α}(e:m t=if c then some z else none):W m t Q↔c/\Q z.1 z.2:=by
 constructor
 ·rintro ⟨a,t',e',p⟩;rw [e] at e'
  split at e'
  ·cases e';exact ⟨by assumption,p⟩
  ·cases e'
 ·rintro ⟨h,p⟩;exact ⟨_,_,by rw [e,if_pos h],p⟩
theorem LV {α β:Type}{o:Option β}(f:β->α){Q:α->T->Prop}{m:M α}(e:m t=o.map λb=>(f b,t)):W m t Q↔∃b,o=some b/\Q (f b) t:=Lz (g:=λb=>(f b,t)) e
theorem Hx {α:Type}{c:Prop}[Decidable c]{a:α}{Q:α->T->Prop}{m:M α}(e:m t=if c then some (a,t) else none):W m t Q↔c/\Q a t:=Sd (z:=(a,t)) e
@[simp] theorem W_ix_tup {ds:List D} {i:Int}:W (ixD (.tup ds) (.int i)) t P↔∃d,atI ds i=some d/\P d t:=LV id rfl
@[simp] theorem W_ix_lst {ds:List D} {i:Int}:W (ixD (.lst ds) (.int i)) t P↔∃d,atI ds i=some d/\P d t:=LV id rfl
@[simp] theorem W_ix_scr {ns:List Int} {i:Int}:W (ixD (.scr ns) (.int i)) t P↔∃n,atI ns i=some n/\P (.int n) t:=LV D.int rfl
@[simp] theorem W_ix_str {x:Str} {i:Int}:W (ixD (.str x) (.int i)) t P↔x.length<=LIM/\∃n,atI x.cps.toList i=some n/\P (.str ⟨#[n]⟩) t:=by
 by_cases h:x.length<=LIM
 ·have:ixD (.str x) (.int i) t=(atI x.cps.toList i).map λn=>(.str ⟨#[n]⟩,t):=by simp only [ixD,h,if_true]
  rw [Lz this];simp [h]
 ·rw [D4 (by simp only [ixD,h,if_false])];simp [h]
@[simp] theorem W_ix_obj {k:Nat} {i:Int}:W (ixD (.obj k) (.int i)) t P↔∃ds,t.S[k]?=some (.lst ds)/\∃d,atI ds i=some d/\P d t:=by
 cases e:t.S[k]? with
 | none=>rw [D4 (by simp only [ixD,e])];simp
 | some o=>
   cases o with
   | dct _ | ins _ _=>rw [D4 (by simp only [ixD,e])];simp
   | lst ds=>
     have:ixD (.obj k) (.int i) t=(atI ds i).map λd=>(d,t):=by simp only [ixD,e]
     rw [Lz this];simp
@[simp] theorem Jd {α:Type} {a:α} {r:List α}:atI (a :: r) 0=some a:=by simp [atI,ixN]
@[simp] theorem OL {α:Type} {a b:α} {r:List α}:atI (a :: b :: r) 1=some b:=by
 have:(1:Int) < ((a :: b :: r).length:Nat):=by simp;lia
 simp only [atI,ixN,this,if_true,show (0:Int)<=1 by decide];rfl
@[simp] theorem OM {α:Type} {a b c:α} {r:List α}:atI (a :: b :: c :: r) 2=some c:=by
 have:(2:Int) < ((a :: b :: c :: r).length:Nat):=by simp;lia
 simp only [atI,ixN,this,if_true,show (0:Int)<=2 by decide];rfl
theorem UX {α:Type}{xs:List α}{i:Int}(h0:0<=i)(h1:i < xs.length):∃d,atI xs i=some d/\d∈xs/\xs[i.toNat]?=some d:=by
 have hl:i.toNat < xs.length:=by lia
 refine ⟨xs[i.toNat],?_,ui2 hl,ub5 hl⟩;simp [atI,ixN,h0,h1,hl]
@[simp] theorem W_len_lst {ds:List D}:W (A0 [.lst ds]) t P↔P (.int ds.length) t:=AC rfl
@[simp] theorem W_len_tup {ds:List D}:W (A0 [.tup ds]) t P↔P (.int ds.length) t:=AC rfl
@[simp] theorem W_len_scr {ds:List Int}:W (A0 [.scr ds]) t P↔P (.int ds.length) t:=AC rfl
@[simp] theorem W_len_str {x:Str}:W (A0 [.str x]) t P↔x.length<=LIM/\P (.int x.length) t:=by simp [A0]
@[simp] theorem W_len_obj {k:Nat}:W (A0 [.obj k]) t P↔∃ds,t.S[k]?=some (.lst ds)/\P (.int ds.length) t:=by
 cases e:t.S[k]? with
 | none=>rw [D4 (by simp only [A0,e])];simp
 | some o=>
   cases o with
   | dct _ | ins _ _=>rw [D4 (by simp only [A0,e])];simp
   | lst ds=>rw [AC (a:=.int ds.length) (t':=t) (by simp only [A0,e])];simp
@[simp] theorem W_isi {d:D} {m:String}:W (Dk [d,.ty m]) t P↔∃n,tyD d=some n/\∃b,Dc n m=some b/\P (.bl b) t:=by
 cases e:tyD d with
 | none=>rw [D4 (by simp only [Dk,e])];simp
 | some n=>
   have:Dk [d,.ty m] t=(Dc n m).map λb=>(.bl b,t):=by simp only [Dk,e]
   rw [Lz this];simp
noncomputable def HH:D->Bool
 | .non=>true
 | _=>false
noncomputable def bt (b:Bool):D->Bool
 | .bl c=>c == b
 | _=>false
@[simp] theorem W_is_non {x:D}:W (isC x .non) t P↔P (.bl (HH x)) t:=AC (by cases x <;> rfl)
@[simp] theorem db {x:D} {b:Bool}:W (isC x (.bl b)) t P↔P (.bl (bt b x)) t:=AC (by cases x <;> rfl)
@[simp] theorem da {x y:D}:W (QM x y) t P↔W (isC x y) t λd t1=>W (toB d) t1 λb t2=>P (.bl (!b)) t2:=by
 unfold QM;rw [W_bnd];constructor
 ·exact λh=>h.mono λd t1 h1=>by
   cases d with
   | bl b=>simpa using h1
   | _=>exact (W_fail.mp h1).elim
 ·exact λh=>h.mono λd t1 h1=>by
   cases d with
   | bl b=>simpa using h1
   | _=>obtain ⟨_,_,e,_⟩:=h1;cases e
@[simp] theorem W_add_int {i j:Int}:W (AR (.int i) (.int j)) t P↔P (.int (i + j)) t:=AC rfl
@[simp] theorem W_sub_int {i j:Int}:W (BL (.int i) (.int j)) t P↔P (.int (i - j)) t:=AC rfl
@[simp] theorem W_lt_int {i j:Int}:W (ltA (.int i) (.int j)) t P↔P (.bl (decide (i < j))) t:=AC rfl
@[simp] theorem W_le_int {i j:Int}:W (leA (.int i) (.int j)) t P↔P (.bl (decide (i<=j))) t:=AC rfl
@[simp] theorem W_gt_int {i j:Int}:W (gtA (.int i) (.int j)) t P↔P (.bl (decide (j < i))) t:=AC rfl
@[simp] theorem W_ge_int {i j:Int}:W (geA (.int i) (.int j)) t P↔P (.bl (decide (j<=i))) t:=AC rfl
@[simp] theorem aW {i j:Str}:W (ltA (.str i) (.str j)) t P↔P (.bl (decide (i.cps.toList < j.cps.toList))) t:=AC rfl
@[simp] theorem aU {i j:Str}:W (gtA (.str i) (.str j)) t P↔P (.bl (decide (j.cps.toList < i.cps.toList))) t:=AC rfl
@[simp] theorem dF {i:Int}:W (bw (.int i)) t P↔P (.int (-i)) t:=AC rfl
@[simp] theorem W_fdiv {i j:Int}:W (FH (.int i) (.int j)) t P↔(0 < j/\j < 1073741824)/\P (.int (i / j)) t:=by
 rw [Sd (m:=FH (.int i) (.int j)) (c:=LA i j=true) (z:=(.int (i / j),t)) rfl];simp [LA]
@[simp] theorem W_mod {i j:Int}:W (EY (.int i) (.int j)) t P↔0 < j/\P (.int (i % j)) t:=by
 rw [Sd (m:=EY (.int i) (.int j)) (c:=decide (0 < j)=true) (z:=(.int (i % j),t)) rfl];simp
@[simp] theorem W_pow {i j:Int}:W (Hj (.int i) (.int j)) t P↔LD i j=true/\P (.int (i ^ j.toNat)) t:=Hx rfl
@[simp] theorem W_mul_int {i j:Int}:W (Ei (.int i) (.int j)) t P↔E6 i j=true/\P (.int (i * j)) t:=Hx rfl
@[simp] theorem W_mul_str {x:Str} {k:Int}:W (Ei (.str x) (.int k)) t P↔(Ch k=true/\x.length * k.toNat<=LIM/\k<=LIM/\x.length<=LIM)/\P (.str (Txt.mul x k)) t:=Hx rfl
theorem HL {i j:Int}(h1 : -18446744073709551616 < i)(h2:i < 18446744073709551616):E6 i j=true:=by simp [E6,h1,h2]
theorem VG {i j:Int}(h1 : -18446744073709551616 < j)(h2:j < 18446744073709551616):E6 i j=true:=by simp [E6,h1,h2]
theorem Ce {k:Int}(h1 : -4611686018427387904<=k)(h2:k < 4611686018427387904):Ch k=true:=by simp [Ch,h1,h2]
@[simp] theorem W_add_str {x y:Str}:W (AR (.str x) (.str y)) t P↔x.length + y.length<=LIM/\P (.str (x++y)) t:=by
 have:AR (.str x) (.str y)=lim (x.length + y.length) (.str (x++y)):=rfl;rw [this];simp
@[simp] theorem W_add_lst {x y:List D}:W (AR (.lst x) (.lst y)) t P↔x.length + y.length<=LIM/\P (.lst (x++y)) t:=by
 have:AR (.lst x) (.lst y)=lim (x.length + y.length) (.lst (x++y)):=rfl;rw [this];simp
@[simp] theorem W_cat {x y:List D} {Q:List D->T->Prop}:W (Iy (.lst x) (.lst y)) t Q↔x.length + y.length<=LIM/\Q (x++y) t:=by
 have:Iy (.lst x) (.lst y)=lim (x.length + y.length) (x++y):=rfl;rw [this];simp
@[simp] theorem dC {i:Int}:W (aY [.int i]) t P↔P (.int (if i < 0 then -i else i)) t:=AC rfl
@[simp] theorem W_min {i j:Int}:W (Fr [.int i,.int j]) t P↔P (.int (if j < i then j else i)) t:=AC rfl
@[simp] theorem dE {i j:Int}:W (bv [.int i,.int j]) t P↔P (.int (if j > i then j else i)) t:=AC rfl
@[simp] theorem aQ {i:Int}:W (Km [.int i]) t P↔P (.int i) t:=AC rfl
@[simp] theorem W_int_bl {b:Bool}:W (Km [.bl b]) t P↔P (.int (if b then 1 else 0)) t:=AC rfl
@[simp] theorem W_ord {x:Str}:W (IL [.str x]) t P↔x.length=1/\P (.int (x.cps.getD 0 0:Nat)) t:=Hx rfl
@[simp] theorem W_tup_lst {ds:List D}:W (KC [.lst ds]) t P↔P (.tup ds) t:=AC rfl
@[simp] theorem W_lst_lst {ds:List D} {Q:List D->T->Prop}:W (D9 [.lst ds]) t Q↔Q ds t:=AC rfl
@[simp] theorem aR {ds:List D} {Q:List D->T->Prop}:W (D9 [.tup ds]) t Q↔Q ds t:=AC rfl
@[simp] theorem W_eq_str {g:Bool->Bool} {x y:Str}:W (eqS g (.str x) (.str y)) t P↔P (.bl (g (x == y))) t:=AC rfl
@[simp] theorem W_eq_int {g:Bool->Bool} {x y:Int}:W (eqS g (.int x) (.int y)) t P↔P (.bl (g (x == y))) t:=AC rfl
@[simp] theorem c9 {g:Bool->Bool} {x y:Bool}:W (eqS g (.bl x) (.bl y)) t P↔P (.bl (g (x == y))) t:=AC rfl
@[simp] theorem W_eq_nil {g:Bool->Bool} {x:List D}:W (eqS g (.lst x) (.lst [])) t P↔P (.bl (g x.isEmpty)) t:=by
 refine AC ?_
 cases x <;> rfl
theorem Do {a b:String}:Str.ofString a=Str.ofString b↔a=b:=by
 constructor
 ·intro h;rw [Str.ofString_eq_toList,Str.ofString_eq_toList] at h;injection h with h
  have h:=congrArg Array.toList h;simp only at h;have hinj:∀xs ys:List Char,xs.map Char.toNat=ys.map Char.toNat->xs=ys:=by
   intro xs
   induction xs with
   | nil=>intro ys h;cases ys with | nil=>rfl | cons _ _=>simp at h
   | cons x xs ih=>
     intro ys h
     cases ys with
     | nil=>simp at h
     | cons y ys=>
       simp only [ul4,List.cons.injEq] at h;rw [ih ys h.2,Char.toNat_inj.mp h.1]
  exact String.toList_inj.mp (hinj _ _ (by simpa using h))
 ·exact λh=>by rw [h]
@[simp] theorem Yh {a b:String}:(Str.ofString a == Str.ofString b)=(a == b):=by
 rw [Bool.eq_iff_iff,beq_iff_eq,beq_iff_eq,Do]
@[simp] theorem W_sl_lst {ds:List D} {lo hi:Option Int}:W (Fz (.lst ds) lo hi) t P↔P (.lst (B5 ds lo hi)) t:=AC rfl
@[simp] theorem aX {ds:List Int} {lo hi:Option Int}:W (Fz (.scr ds) lo hi) t P↔P (.lst ((B5 ds lo hi).map .int)) t:=AC rfl
@[simp] theorem W_fSl {f:M D} {l u:M (Option Int)} {h:D->Option Int->Option Int->M D}:W (fSl f l u h) t P↔W f t λx t1=>W l t1 λlo t2=>W u t2 λhi t3=>W (h x lo hi) t3 P:=by simp [fSl]
@[simp] theorem W_fNo {Q:Option Int->T->Prop}:W fNo t Q↔Q none t:=AC rfl
@[simp] theorem W_asI {i:Int} {Q:Option Int->T->Prop}:W (asI (.int i)) t Q↔Q (some i) t:=AC rfl
@[simp] theorem W_fPart {f:M D} {Q:Option Int->T->Prop}:W (DI f) t Q↔W f t λx t1=>W (asI x) t1 Q:=by simp [DI]
@[simp] theorem W_fItA {f:M D} {Q:List D->T->Prop}:W (D6 f) t Q↔W f t λx t1=>W (Dl x) t1 Q:=by simp [D6]
@[simp] theorem W_it_lst {ds:List D} {Q:List D->T->Prop}:W (Dl (.lst ds)) t Q↔Q ds t:=AC rfl
@[simp] theorem W_it_tup {ds:List D} {Q:List D->T->Prop}:W (Dl (.tup ds)) t Q↔Q ds t:=AC rfl
@[simp] theorem aV {ds:List Int} {Q:List D->T->Prop}:W (Dl (.scr ds)) t Q↔Q (ds.map .int) t:=AC rfl
@[simp] theorem W_it_str {x:Str} {Q:List D->T->Prop}:W (Dl (.str x)) t Q↔Q (x.cps.toList.map λc=>.str ⟨#[c]⟩) t:=AC rfl
@[simp] theorem W_fRng1 {f:M (List D)} {Q:List D->T->Prop}:W (Cg f) t Q↔W f t λx t1=>W (Kx x) t1 Q:=by simp [Cg]
@[simp] theorem W_fRng2 {f:M (List D)} {Q:List D->T->Prop}:W (FG f) t Q↔W f t λx t1=>W (Ky x) t1 Q:=by simp [FG]
@[simp] theorem W_rng1 {j:Int} {Q:List D->T->Prop}:W (Kx [.int j]) t Q↔Ch j=true/\Q (rngL 0 j.toNat) t:=Hx rfl
@[simp] theorem W_rng2 {i j:Int} {Q:List D->T->Prop}:W (Ky [.int i,.int j]) t Q↔(Ch i && Ch j)=true/\Q (rngL i (j - i).toNat) t:=Hx rfl
@[simp] theorem W_ownM {i:Nat} {h:List D->List D->Option (List D)} {g:M (List D)} {Q:Out->T->Prop}:W (ownM i h g) t Q↔(∃xs,t.env[i]?=some (some (.own xs)))/\W g t λds t1=>∃xs,t1.env[i]?=some (some (.own xs))/\∃ys,h xs ds=some ys/\Q .next ⟨t1.env.set i (some (.own ys)),t1.S⟩:=by
 constructor
 ·rintro ⟨o,t',e,p⟩;unfold ownM at e
  split at e
  ·next xs e0=>
   refine ⟨⟨xs,e0⟩,?_⟩;obtain ⟨ds,t1,e1,e⟩:=Ae e;refine ⟨ds,t1,e1,?_⟩
   split at e
   ·next ys e2=>
    obtain ⟨zs,e3,e4⟩:=uc4.mp e
    cases e4
    exact ⟨ys,e2,zs,e3,p⟩
   ·cases e
  ·cases e
 ·rintro ⟨⟨xs,e0⟩,ds,t1,e1,ys,e2,zs,e3,p⟩;exact ⟨_,_,by unfold ownM bnd;simp only [e0,e1,e2,e3,uj8],p⟩
@[simp] theorem app1_one {xs:List D} {d:D} {ys:List D}:BA xs [d]=some ys↔xs.length < LIM/\xs++[d]=ys:=by
 unfold BA;split <;> simp [*]
@[simp] theorem dG {f g:M D} {d:D} {Q:Unit->T->Prop}:W (stD f g d) t Q↔W f t λo t1=>W g t1 λi t2=>W (Y3 o i d) t2 Q:=by simp [stD]
end F2
namespace F2
open PySem L2
variable {t:T}{P:D->T->Prop}{Q:List D->T->Prop}{R:Out->T->Prop}{B:Bool->T->Prop}{U:Unit->T->Prop}
def ER (k:Bool)(A B:Prop):Prop:=if k=true then A else B
theorem FN {k:Bool}{A B:Prop}(h:k=true)(a:A):ER k A B:=by unfold ER;rw [if_pos h];exact a
theorem FM {k:Bool}{A B:Prop}(h:k=false)(b:B):ER k A B:=by unfold ER;rw [if_neg (by rw [h];exact uf0)];exact b
theorem CD {k:Bool}{A B:Prop}(a:k=true->A)(b:k=false->B):ER k A B:=by cases h:k with
 | true=>exact FN rfl (a h)
 | false=>exact FM rfl (b h)
def Dr (g:M Out)(R:Out->T->Prop)(o:Out)(t1:T):Prop:=match o with
 | .next=>W g t1 R
 | o=>R o t1
variable {g:M Out}{t1:T}
theorem BW (h:W g t1 R):Dr g R .next t1:=h
theorem IR {d:D}(h:R (.ret d) t1):Dr g R (.ret d) t1:=h
theorem cT {f:M Out}(h:W f t (Dr g R)):W (Af f g) t R:=W_seqS.mpr (h.mono λo t1 h1=>by cases o <;> exact h1)
theorem aH (h:R .next t):W AF t R:=W_skipS.mpr h
variable {f:M D}
theorem cS (h:W f t λd t1=>R (.ret d) t1):W (Av f) t R:=W_retS.mpr h
theorem aj (h:W f t λd t1=>R .next t1):W (CO f) t R:=W_dropS.mpr h
theorem wIf {f:M Bool}{h:M Out}(w:W f t λk t1=>ER k (W g t1 R) (W h t1 R)):W (ifS f g h) t R:=W_ifS.mpr w
theorem cU {i:Nat}(h:W f t λd t1=>R .next ⟨t1.env.set i (some (.val d)),t1.S⟩):W (AA i f) t R:=W_setS.mpr h
theorem cQ {i:Nat}{f:M (List D)}(h:W f t λd t1=>R .next ⟨t1.env.set i (some (.own d)),t1.S⟩):W (Ej i f) t R:=W_ownS.mpr h
theorem bX {g:D->M Unit}(h:W f t λd t1=>W (g d) t1 λ_ t2=>R .next t2):W (CN f g) t R:=W_asgS.mpr h
theorem b6 {f:M (List D)}{st:D->M Unit}{b:M Out}(h:W f t λds t1=>W (CB st b ds) t1 R):W (Ci f st b) t R:=W_forS.mpr h
theorem wC {d:D}(h:P d t):W (fC d) t P:=W_fC.mpr h
theorem E2 {i:Nat}{d:D}(e:t.env[i]?=some (some (.val d)))(h:P d t):W (Ab i) t P:=by rw [P3,e];exact h
variable {ds:List D}
theorem aM {i:Nat}(e:t.env[i]?=some (some (.own ds)))(h:P (.lst ds) ⟨t.env.set i (some (.val (.lst ds))),t.S⟩):W (Ab i) t P:=by rw [P3,e];exact h
theorem KD {g:M D}{h:D->D->M D}(w:W f t λx t1=>W g t1 λy t2=>W (h x y) t2 P):W (Ac f g h) t P:=W_fBin.mpr w
theorem wUn {h:D->M D}(w:W f t λx t1=>W (h x) t1 P):W (fUn f h) t P:=W_fUn.mpr w
theorem BY {α β:Type}{f:M α}{g:α->M β}{K:β->T->Prop}(w:W f t λx t1=>W (g x) t1 K):W (bnd f g) t K:=W_bnd.mpr w
theorem PN {b:Bool}(h:B b t):W (toB (.bl b)) t B:=W_toB.mpr h
theorem PP (h:W f t λx t1=>W (toB x) t1 B):W (Au f) t B:=W_fTst.mpr h
theorem Zg {g w:M D}{h h':D->D->M D}(q:W f t λx t1=>W g t1 λy t2=>W (h x y) t2 λk t3=>W (toB k) t3 λk t4=>ER k (W w t4 λz t5=>W (h' y z) t5 P) (P (.bl false) t4)):W (EM f g w h h') t P:=W_fChain.mpr q
theorem bU {f g:M Bool}(h:W f t λk t1=>ER k (W g t1 B) (B false t1)):W (ID f g) t B:=W_fAnd.mpr h
theorem wOr {f g:M Bool}(h:W f t λk t1=>ER k (B true t1) (W g t1 B)):W (fOr f g) t B:=W_fOr.mpr h
theorem cM {f:M Bool}(h:W f t λk t1=>B (!k) t1):W (Cu f) t B:=W_fNot.mpr h
theorem ad {g:M D}(h:W f t λx t1=>W (toB x) t1 λk t2=>ER k (W g t2 P) (P (.bl false) t2)):W (DH f g) t P:=W_fAndV.mpr h
theorem ay (h:W f t λx t1=>W (toB x) t1 λk t2=>P (.bl (!k)) t2):W (HB f) t P:=W_fNotV.mpr h
theorem cy {f:M Bool}{g h:M D}(w:W f t λk t1=>ER k (W g t1 P) (W h t1 P)):W (fIf f g h) t P:=W_fIf.mpr w
theorem IV (h:Q [] t):W Ad t Q:=W_fNil.mpr h
theorem DM {g:M (List D)}(h:W f t λd t1=>W g t1 λds t2=>Q (d :: ds) t2):W (Aa f g) t Q:=W_fCons.mpr h
def Gv (n:Nat)(A:Prop):Prop:=n<=LIM/\A
variable {n:Nat}
theorem BV {A:Prop}(h:n<=LIM)(a:A):Gv n A:=⟨h,a⟩
theorem cZ {f:M (List D)}(h:W f t λds t1=>Gv ds.length (P (.tup ds) t1)):W (A3 f) t P:=W_fTup.mpr h
theorem cJ {f:M (List D)}(h:W f t λds t1=>Gv ds.length (Q ds t1)):W (AV f) t Q:=W_fLst.mpr h
theorem aD {f:M (List D)}(h:W f t λds t1=>P (.lst ds) t1):W (AJ f) t P:=W_fPure.mpr h
theorem cO {f:M (List D)}(h:W f t λds t1=>P (.obj t1.S.length) ⟨t1.env,t1.S++[.lst ds]⟩):W (CP f) t P:=by rw [Xg];exact h.mono λds t1 h=>W_newOb.mpr h
theorem JP {g:Fn}{f:M (List D)}(h:W f t λds t1=>Wf g ds t1.S λr S'=>P r ⟨t1.env,S'⟩):W (Aj g f) t P:=W_fCall.mpr h
theorem wB {f:M (List D)}{h:List D->M D}(w:W f t λds t1=>W (h ds) t1 P):W (fB f h) t P:=W_fB.mpr w
theorem wBF {f:M (List D)}{h:List D->M (List D)}(w:W f t λds t1=>W (h ds) t1 Q):W (fBF f h) t Q:=W_fBF.mpr w
theorem FC {i:Nat}{d:D}(h:U () ⟨t.env.set i (some (.val d)),t.S⟩):W (AQ i d) t U:=W_putV.mpr h
theorem WZ (h:U () t):W (DE []) t U:=W_putNil.mpr h
theorem Um {f:D->M Unit}{g:List D->M Unit}{d:D}(h:W (f d) t λ_ t1=>W (g ds) t1 U):W (Bd f g (d :: ds)) t U:=W_putCons.mpr h
theorem c6 {g:List D->M Unit}(e:ds.length=n)(h:W (g ds) t U):W (unS n g (.lst ds)) t U:=W_unS_lst.mpr ⟨e,h⟩
theorem c7 {g:List D->M Unit}(e:ds.length=n)(h:W (g ds) t U):W (unS n g (.tup ds)) t U:=W_unS_tup.mpr ⟨e,h⟩
theorem ai {fr:List Nat}{f:M (List D)}{st:D->M Unit}{tst:M Bool}{elt:M D}(h:W f t λds t1=>W (B4 st tst elt ds) ⟨cenv n fr t1.env,t1.S⟩ λxs t'=>Gv xs.length (Q xs ⟨t1.env,t'.S⟩)):W (BM n fr f st tst elt) t Q:=W_fComp.mpr h
theorem KF (h:B true t):W DV t B:=W_tTru.mpr h
variable {i:Int}
theorem IU {d:D}(e:atI ds i=some d)(h:P d t):W (ixD (.tup ds) (.int i)) t P:=W_ix_tup.mpr ⟨d,e,h⟩
theorem Bb {d:D}(e:atI ds i=some d)(h:P d t):W (ixD (.lst ds) (.int i)) t P:=W_ix_lst.mpr ⟨d,e,h⟩
theorem cH {k:Nat}{d:D}(e0:t.S[k]?=some (.lst ds))(e:atI ds i=some d)(h:P d t):W (ixD (.obj k) (.int i)) t P:=W_ix_obj.mpr ⟨ds,e0,d,e,h⟩
theorem PD (h:P (.int ds.length) t):W (A0 [.lst ds]) t P:=W_len_lst.mpr h
theorem au (h:P (.int ds.length) t):W (A0 [.tup ds]) t P:=W_len_tup.mpr h
theorem ar {k:Nat}(e:t.S[k]?=some (.lst ds))(h:P (.int ds.length) t):W (A0 [.obj k]) t P:=W_len_obj.mpr ⟨ds,e,h⟩
variable {x:Str}
theorem Ic (e:x.length<=LIM)(h:P (.int x.length) t):W (A0 [.str x]) t P:=W_len_str.mpr ⟨e,h⟩
theorem cB {d:D}{m n:String}{b:Bool}(e:tyD d=some n)(e':Dc n m=some b)(h:P (.bl b) t):W (Dk [d,.ty m]) t P:=W_isi.mpr ⟨n,e,b,e',h⟩
theorem cA {x:D}(h:P (.bl (HH x)) t):W (isC x .non) t P:=W_is_non.mpr h
variable {j:Int}
theorem Z9 (h:P (.int (i + j)) t):W (AR (.int i) (.int j)) t P:=W_add_int.mpr h
theorem aJ (h:P (.int (i - j)) t):W (BL (.int i) (.int j)) t P:=W_sub_int.mpr h
theorem cK (h:P (.bl (decide (i < j))) t):W (ltA (.int i) (.int j)) t P:=W_lt_int.mpr h
theorem cI (h:P (.bl (decide (i<=j))) t):W (leA (.int i) (.int j)) t P:=W_le_int.mpr h
theorem b8 (h:P (.bl (decide (j < i))) t):W (gtA (.int i) (.int j)) t P:=W_gt_int.mpr h
theorem b7 (h:P (.bl (decide (j<=i))) t):W (geA (.int i) (.int j)) t P:=W_ge_int.mpr h
theorem Zi (h1:0 < j)(h2:j < 1073741824)(h:P (.int (i / j)) t):W (FH (.int i) (.int j)) t P:=W_fdiv.mpr ⟨⟨h1,h2⟩,h⟩
theorem Ul (h1:0 < j)(h:P (.int (i % j)) t):W (EY (.int i) (.int j)) t P:=W_mod.mpr ⟨h1,h⟩
theorem cR (h1:LD i j=true)(h:P (.int (i ^ j.toNat)) t):W (Hj (.int i) (.int j)) t P:=W_pow.mpr ⟨h1,h⟩
theorem JS (h1:E6 i j=true)(h:P (.int (i * j)) t):W (Ei (.int i) (.int j)) t P:=W_mul_int.mpr ⟨h1,h⟩
theorem ax {k:Int}(h1:Ch k=true/\x.length * k.toNat<=LIM/\k<=LIM/\x.length<=LIM)(h:P (.str (Txt.mul x k)) t):W (Ei (.str x) (.int k)) t P:=W_mul_str.mpr ⟨h1,h⟩
theorem ac {y:Str}(h:Gv (x.length + y.length) (P (.str (x++y)) t)):W (AR (.str x) (.str y)) t P:=W_add_str.mpr h
theorem aa {x y:List D}(h:Gv (x.length + y.length) (P (.lst (x++y)) t)):W (AR (.lst x) (.lst y)) t P:=W_add_lst.mpr h
theorem bY {x y:List D}(h:Gv (x.length + y.length) (Q (x++y) t)):W (Iy (.lst x) (.lst y)) t Q:=W_cat.mpr h
theorem cL (h:P (.int (if j < i then j else i)) t):W (Fr [.int i,.int j]) t P:=W_min.mpr h
theorem al {i:Bool}(h:P (.int (if i then 1 else 0)) t):W (Km [.bl i]) t P:=W_int_bl.mpr h
theorem Zq (e:x.length=1)(h:P (.int (x.cps.getD 0 0:Nat)) t):W (IL [.str x]) t P:=W_ord.mpr ⟨e,h⟩
theorem aK (h:P (.tup ds) t):W (KC [.lst ds]) t P:=W_tup_lst.mpr h
theorem aw (h:Q ds t):W (D9 [.lst ds]) t Q:=W_lst_lst.mpr h
theorem Ui {g:Bool->Bool}{y:Str}(h:P (.bl (g (x == y))) t):W (eqS g (.str x) (.str y)) t P:=W_eq_str.mpr h
theorem Zk {g:Bool->Bool}{x y:Int}(h:P (.bl (g (x == y))) t):W (eqS g (.int x) (.int y)) t P:=W_eq_int.mpr h
theorem Zl {g:Bool->Bool}{x:List D}(h:P (.bl (g x.isEmpty)) t):W (eqS g (.lst x) (.lst [])) t P:=W_eq_nil.mpr h
theorem cX {lo hi:Option Int}(h:P (.lst (B5 ds lo hi)) t):W (Fz (.lst ds) lo hi) t P:=W_sl_lst.mpr h
theorem wSl {l u:M (Option Int)}{h:D->Option Int->Option Int->M D}(w:W f t λx t1=>W l t1 λlo t2=>W u t2 λhi t3=>W (h x lo hi) t3 P):W (fSl f l u h) t P:=W_fSl.mpr w
variable {K:Option Int->T->Prop}
theorem wNo (h:K none t):W fNo t K:=W_fNo.mpr h
theorem bW (h:K (some i) t):W (asI (.int i)) t K:=W_asI.mpr h
theorem aC (h:W f t λx t1=>W (asI x) t1 K):W (DI f) t K:=W_fPart.mpr h
theorem cD (h:W f t λx t1=>W (Dl x) t1 Q):W (D6 f) t Q:=W_fItA.mpr h
theorem cE (h:Q ds t):W (Dl (.lst ds)) t Q:=W_it_lst.mpr h
theorem cG (h:Q ds t):W (Dl (.tup ds)) t Q:=W_it_tup.mpr h
theorem cF (h:Q (x.cps.toList.map λc=>.str ⟨#[c]⟩) t):W (Dl (.str x)) t Q:=W_it_str.mpr h
theorem aE {f:M (List D)}(h:W f t λx t1=>W (Kx x) t1 Q):W (Cg f) t Q:=W_fRng1.mpr h
theorem aF {f:M (List D)}(h:W f t λx t1=>W (Ky x) t1 Q):W (FG f) t Q:=W_fRng2.mpr h
theorem FD (e:Ch j=true)(h:Q (rngL 0 j.toNat) t):W (Kx [.int j]) t Q:=W_rng1.mpr ⟨e,h⟩
theorem Uo (e:(Ch i && Ch j)=true)(h:Q (rngL i (j - i).toNat) t):W (Ky [.int i,.int j]) t Q:=W_rng2.mpr ⟨e,h⟩
theorem aB {i:Nat}{xs:List D}{h:List D->List D->Option (List D)}{g:M (List D)}(e:t.env[i]?=some (some (.own xs)))(w:W g t λds t1=>∃xs,t1.env[i]?=some (some (.own xs))/\∃ys,h xs ds=some ys/\R .next ⟨t1.env.set i (some (.own ys)),t1.S⟩):W (ownM i h g) t R:=W_ownM.mpr ⟨⟨xs,e⟩,w⟩
theorem bV {i:Nat}{xs:List D}{d:D}{A:List D->Prop}(e:t1.env[i]?=some (some (.own xs)))(w:Gv (xs.length + 1) (A (xs++[d]))):∃xs,t1.env[i]?=some (some (.own xs))/\∃ys,BA xs [d]=some ys/\A ys:=
 ⟨xs,e,_,app1_one.mpr ⟨w.1,rfl⟩,w.2⟩
end F2
namespace F2
open PySem L2
variable {i:Nat}{g:Fn}{d':D}
section
variable {t:T}{P:D->T->Prop}{B:Bool->T->Prop}{Q:List D->T->Prop}
theorem aL {n:Int}{ds:List D}{d:D}(e:t.env[i]?=some (some (.val (.tup ds))))(a:atI ds n=some d)(h:P d t):W (Ac (Ab i) (fC (.int n)) ixD) t P:=KD (E2 e (wC (IU a h)))
theorem aq {x y:Str}{ds:List D}{g:Bool->Bool}(e:t.env[i]?=some (some (.val (.tup (.str y :: ds)))))(h:B (g (y == x)) t):W (Au (Ac (Ac (Ab i) (fC (.int 0)) ixD) (fC (.str x)) (eqS g))) t B:=PP (KD (KD (E2 e (wC (IU Jd (wC (Ui (PN h))))))))
theorem Zs {x y:Str}{g:Bool->Bool}(e:t.env[i]?=some (some (.val (.str y))))(h:B (g (y == x)) t):W (Au (Ac (Ab i) (fC (.str x)) (eqS g))) t B:=PP (KD (E2 e (wC (Ui (PN h)))))
theorem Zr {x y:Int}{g:Bool->Bool}(e:t.env[i]?=some (some (.val (.int y))))(h:B (g (y == x)) t):W (Au (Ac (Ab i) (fC (.int x)) (eqS g))) t B:=PP (KD (E2 e (wC (Zk (PN h)))))
theorem WS {d:D}(e:t.env[i]?=some (some (.val d)))(h:Wf g [d] t.S λr S'=>P r ⟨t.env,S'⟩):W (Aj g (Aa (Ab i) Ad)) t P:=JP (DM (E2 e (IV h)))
theorem WT {j:Nat}{d:D}(e:t.env[i]?=some (some (.val d)))(e':t.env[j]?=some (some (.val d')))(h:Wf g [d,d'] t.S λr S'=>P r ⟨t.env,S'⟩):W (Aj g (Aa (Ab i) (Aa (Ab j) Ad))) t P:=JP (DM (E2 e (DM (E2 e' (IV h)))))
theorem WV {d:D}(e:t.env[i]?=some (some (.val d)))(h:Wf g [d,d'] t.S λr S'=>P r ⟨t.env,S'⟩):W (Aj g (Aa (Ab i) (Aa (fC d') Ad))) t P:=JP (DM (E2 e (DM (wC (IV h)))))
theorem WU {j k:Nat}{d d'':D}(e:t.env[i]?=some (some (.val d)))(e':t.env[j]?=some (some (.val d')))(e'':t.env[k]?=some (some (.val d'')))(h:Wf g [d,d',d''] t.S λr S'=>P r ⟨t.env,S'⟩):W (Aj g (Aa (Ab i) (Aa (Ab j) (Aa (Ab k) Ad)))) t P:=JP (DM (E2 e (DM (E2 e' (DM (E2 e'' (IV h)))))))
end
end F2
set_option maxHeartbeats 4000000
namespace LW
open PySem L2 F2
local macro_rules | `(tactic| clear 31 $t*)=>`(tactic| with_reducible first $[| refine $t ?_]*)
local macro_rules | `(tactic| clear 32 $t*)=>`(tactic| ((with_reducible first $[| refine' $t ?wv ?_]*);(case wv=>exact rfl)))
local macro_rules | `(tactic| clear 33 $t*)=>`(tactic| ((with_reducible first $[| refine' $t ?wv ?_]*);(case wv=>decide)))
local macro_rules | `(tactic| walk_at "w1")=>`(tactic| first
 | clear 32 aq | ((with_reducible refine' aL ?wv ?wu ?_);(case wv=>exact rfl);(case wu=>first | exact rfl | exact Jd | exact OL | exact OM)) | clear 32 Zs | clear 32 Zr | clear 32 WS | ((with_reducible refine' WT ?wv ?wu ?_);(case wv=>exact rfl);(case wu=>exact rfl)) | clear 32 WV | ((with_reducible refine' WU ?wv ?wu ?wt ?_);(case wv=>exact rfl);(case wu=>exact rfl);(case wt=>exact rfl)) | clear 31 cT BW IR cU KD wC | clear 32 E2 | clear 31 DM IV wIf PP PN cS JP | ((with_reducible refine' IU ?wv ?_);(case wv=>first | exact rfl | exact Jd | exact OL | exact OM)) | ((with_reducible refine' Bb ?wv ?_);(case wv=>first | exact rfl | exact Jd | exact OL | exact OM)) | clear 31 Ui Zk Z9 aJ aH wB wBF aD cZ cJ | ((with_reducible refine BV ?wv ?_);(case wv=>exact ud2 rfl)) | clear 31 cO bX b6 | clear 32 FN | clear 32 FM | clear 31 bU wOr cM ad ay cy Zg | clear 32 aM | clear 31 wUn cA cK cI b8 b7 PD au | ((with_reducible refine' cB ?wv ?wu ?_);(case wv=>exact rfl);(case wu=>exact rfl)) | clear 33 cR | ((with_reducible refine Zi ?wv ?wu ?_);(case wv=>decide);(case wu=>decide)) | clear 33 Ul | clear 31 cL al aK aw ac aa bY Zl wSl wNo aC bW cX cD cE cG cF aE aF | clear 33 FD | clear 33 Uo | clear 31 FC WZ Um | clear 32 c6 | clear 32 c7 | clear 31 ai KF cQ BY aj | clear 32 aB | clear 32 bV)
local macro_rules | `(tactic| right)=>`(tactic| repeat (walk_at "w1"))
structure DeckAt (k c:Nat)(S:List Ob):Prop where
 ne:k≠c
 at_:∃(cells:List Int) (par pos:Int),S[k]?=some (.lst [.obj c,.int par,.int pos])/\S[c]?=some (.lst (cells.map .int))/\cells≠[]/\0<=pos
def dL (k c:Nat)(S S':List Ob):Prop:=S'.length=S.length/\∀j:Nat,j≠k->j≠c->S'[j]?=S[j]?
variable {n:Nat}{i:Int}
theorem B0 (h0:0<=i)(h1:i < n):ixN n i=some i.toNat:=by simp [ixN,h0,h1]
variable {S:List Ob}{o o':Ob}
theorem Kl {k:Nat}(h:S[k]?=some o):(S.set k o')[k]?=some o':=by
 obtain ⟨hl,_⟩:=ub1.mp h;exact uc0 hl
inductive Sh where
 | nothing | number (lo hi:Int) | text (m:Int) | list (s:Sh) (m:Int) | pair (s r:Sh) | choice (ss:List Sh)
mutual
noncomputable def Sh.d:Sh->D
 | .nothing=>.tup [.str "nothing"]
 | .number lo hi=>.tup [.str "number",.int lo,.int hi]
 | .text m=>.tup [.str "text",.int m]
 | .list s m=>.tup [.str "list",s.d,.int m]
 | .pair s r=>.tup [.str "pair",s.d,r.d]
 | .choice ss=>.tup [.str "choice",.tup (shD ss)]
noncomputable def shD:List Sh->List D
 | []=>[]
 | s :: r=>s.d :: shD r
end
mutual
noncomputable def Sh.depth:Sh->Nat
 | .nothing=>1
 | .number _ _=>1
 | .text _=>1
 | .list s _=>s.depth + 1
 | .pair s r=>max s.depth r.depth + 1
 | .choice ss=>EG ss + 1
noncomputable def EG:List Sh->Nat
 | []=>0
 | s :: r=>max s.depth (EG r)
end
theorem D0:∀ss:List Sh,(shD ss).length=ss.length
 | []=>rfl
 | s :: r=>by simp [shD,D0 r]
theorem F8:∀(ss:List Sh) (k:Nat),(shD ss)[k]?=(ss[k]?).map Sh.d
 | [],k=>by simp [shD]
 | s :: r,0=>by simp [shD]
 | s :: r,k + 1=>by simp [shD,F8 r k]
theorem CK:∀(ss:List Sh) (k:Nat) (s:Sh),ss[k]?=some s->s.depth<=EG ss
 | [],k,s,h=>by simp at h
 | s :: r,0,s',h=>by simp at h;subst h;simp [EG];lia
 | s :: r,k + 1,s',h=>by
   have:=CK r k s' (by simpa using h);simp [EG];lia
theorem Sh.depth_pos (s:Sh):1<=s.depth:=by cases s <;> simp [Sh.depth]
noncomputable def BD (n:Nat):Bool:=decide (32<=n) && decide (n<=126) && decide (n≠37)
noncomputable def GW:Str->Bool:=λo=>o == ("of" : Str)
mutual
def Ao:Sh->D->Bool
 | .nothing,d=>HH d
 | .number lo hi,d=>match d with
   | .int i=>decide (lo<=i) && decide (i<=hi)
   | _=>false
 | .text m,d=>match d with
   | .str x=>decide ((x.length:Int)<=m) && x.cps.toList.all BD
   | _=>false
 | .list s m,d=>match d with
   | .lst ds=>decide ((ds.length:Int)<=m) && ds.all λe=>Ao s e
   | _=>false
 | .pair s r,d=>match d with
   | .tup [a,b]=>Ao s a && Ao r b
   | _=>false
 | .choice ss,d=>match d with
   | .tup [.str o,.int k,x]=>GW o && (decide (0<=k) && decide (k < ss.length)) && Jt ss k.toNat x
   | _=>false
def Jt:List Sh->Nat->D->Bool
 | [],_,_=>false
 | s :: _,0,d=>Ao s d
 | _ :: r,k + 1,d=>Jt r k d
end
theorem CJ:∀(ss:List Sh) (k:Nat) (s:Sh) (d:D),ss[k]?=some s->Jt ss k d=Ao s d
 | [],k,s,d,h=>by simp at h
 | s :: r,0,s',d,h=>by simp at h;subst h;simp [Jt]
 | s :: r,k + 1,s',d,h=>by rw [Jt];exact CJ r k s' d (by simpa using h)
mutual
noncomputable def okD:D->Bool
 | .str x=>decide (x.length<=90000)
 | .tup xs=>oks xs
 | .lst xs=>oks xs
 | .obj _=>false
 | .scr _=>false
 | .exc _ _=>false
 | .ty _=>false
 | _=>true
noncomputable def oks:List D->Bool
 | []=>true
 | d :: r=>okD d && oks r
end
theorem HR:∀{xs:List D},oks xs=true->∀d∈xs,okD d=true
 | x :: r,h,d,m=>by
   rw [oks,uh6] at h;rcases ul3.mp m with z | z
   ·subst z;exact h.1
   ·exact HR h.2 d z
abbrev Pure1 (f:Fn)(ds:List D)(r:D):Prop:=∀S,Wf f ds S λv S'=>v=r/\S'=S
variable {ds:List D}
theorem Pure1.use {f:Fn}{r:D}(h:Pure1 f ds r){S:List Ob}{P:D->List Ob->Prop}(p:P r S):Wf f ds S P:=(h S).mono λ_ _ ⟨e1,e2⟩=>by subst e1 e2;exact p
noncomputable def QL:D->Bool
 | .int _=>true
 | _=>false
theorem MK {d:D}(h:okD d=true):Pure1 (fnOf 1 1 FR) [d] (.bl (QL d)):=by
 intro S;refine Ax rfl ?_;unfold FR
 cases d <;> first | (simp [okD] at h;done) | (right;exact ⟨rfl,rfl⟩)
noncomputable def Fb (lo hi:Int):D->Bool
 | .int i=>decide (lo<=i) && decide (i<=hi)
 | _=>false
def NM (f:Fn):Prop:=∀d,okD d=true->Pure1 f [d] (.bl (QL d))
def Gg (f:Fn):Prop:=∀d lo hi,okD d=true->Pure1 f [d,.int lo,.int hi] (.bl (Fb lo hi d))
variable {c:Fn}
theorem R9 (hc:NM c):Gg (fnOf 3 3 (Dn c)):=by
 intro d lo hi h S;refine Ax rfl ?_;unfold Dn;right;refine (hc d h).use ?_
 cases d with
 | int i=>
   right;refine CD (λe=>?_) λe=>?_
   ·right;exact ⟨by simp only [Fb,e,ul8],rfl⟩
   ·exact ⟨by simp only [Fb,e,uk8],rfl⟩
 | _=>right;exact ⟨rfl,rfl⟩
def Ja (f:Fn):Prop:=∀n:Nat,Pure1 f [.int n] (.bl (BD n))
theorem O3:Ja (fnOf 1 1 Hc):=by
 intro n S;refine Ax rfl ?_;unfold Hc;right;have c1:decide ((32:Int)<=n)=decide (32<=n):=decide_eq_decide.mpr (by lia);have c2:decide ((n:Int)<=126)=decide (n<=126):=decide_eq_decide.mpr (by lia);have c3:(!((n:Int) == 37))=decide (n≠37):=by
  by_cases h:n=37
  ·subst h;rfl
  ·have:¬((n:Int)=37):=by lia
   simp [h,this]
 rw [c1];refine CD (λe=>?_) λe=>?_
 ·right;rw [c2];refine CD (λe'=>?_) λe'=>?_
  ·right;exact ⟨by simp only [BD,e,e',c3,ul8],rfl⟩
  ·exact ⟨by simp only [BD,e,e',uk8,uk9],rfl⟩
 ·right;exact ⟨by simp only [BD,e,uk8],rfl⟩
def LU (f:Fn):Prop:=∀m d,okD d=true->Pure1 f [(Sh.text m).d,d] (.bl (Ao (.text m) d))
theorem MB (hc:Ja c):LU (fnOf 2 3 (FQ c)):=by
 intro m d h S;refine Ax rfl ?_;unfold FQ;rw [Sh.d]
 cases d with
 | str x=>
   have hx:x.length<=LIM:=um4 (by simpa [okD] using h) (show 90000<=LIM by decide);right;refine Ic hx ?_;right;refine CD (λe=>?_) λe=>?_
   ·right;have:¬((x.length:Int)<=m):=by have:=uh0 e;lia
    exact ⟨by simp [Ao,this],rfl⟩
   ·right;have e':(x.length:Int)<=m:=by have:=of_decide_eq_false e;lia
    refine CL (λr t=>t.S=S/\∃cs:List Nat,r=cs.map (λc=>D.str ⟨#[c]⟩)/\(x.cps.toList.all BD=cs.all BD)/\∃z,t.env=[some (.val (.tup [.str "text",.int m])),some (.val (.str x)),z]) _ _ ⟨rfl,x.cps.toList,rfl,rfl,_,rfl⟩ ?_ ?_
    ·rintro d r t ⟨hs,cs,hr,hall,z,ht⟩ _;obtain ⟨env,S2⟩:=t;subst hs ht
     cases cs with
     | nil=>simp at hr
     | cons c cs=>
       simp only [ul4,List.cons.injEq] at hr;obtain ⟨rfl,rfl⟩:=hr;right;refine Zq rfl ?_;right;refine (hc c).use ?_;right;refine CD (λq=>?_) λq=>?_
       ·right;have q':BD c=false:=by simpa using q
        refine ⟨?_,rfl⟩;simp only [Ao,hall,ul6,q',uk8,uk9]
       ·right;have q':BD c=true:=by simpa using q
        exact ⟨rfl,cs,rfl,by rw [hall,ul6,q',ul8],_,rfl⟩
    ·rintro t ⟨hs,cs,hr,hall,z,ht⟩;obtain ⟨env,S2⟩:=t;subst hs ht;have:cs=[]:=by cases cs with | nil=>rfl | cons _ _=>simp at hr
     subst this;right;exact ⟨by simp [Ao,e',hall],rfl⟩
 | obj _=>simp [okD] at h
 | scr _=>simp [okD] at h
 | ty _=>simp [okD] at h
 | exc _ _=>simp [okD] at h
 | _=>right;exact ⟨by simp [Ao],rfl⟩
def FU (f:Fn)(n:Nat):Prop:=∀s:Sh,s.depth<=n->∀d,okD d=true->Pure1 f [s.d,d] (.bl (Ao s d))
def PX (f:Fn)(n:Nat):Prop:=∀(s:Sh) (m:Int),s.depth<=n->∀d,okD d=true->Pure1 f [(Sh.list s m).d,d] (.bl (Ao (.list s m) d))
theorem Mz (hc:FU c n):PX (fnOf 2 3 (FO c)) n:=by
 intro s m hs d h S;refine Ax rfl ?_;unfold FO;rw [Sh.d]
 cases d with
 | lst ds=>
   have hx:∀d∈ds,okD d=true:=HR (by simpa [okD] using h);right;refine CD (λe=>?_) λe=>?_
   ·right;have:¬((ds.length:Int)<=m):=by have:=uh0 e;lia
    exact ⟨by simp [Ao,this],rfl⟩
   ·right;have e':(ds.length:Int)<=m:=by have:=of_decide_eq_false e;lia
    refine CL (λr t=>t.S=S/\(ds.all (λe=>Ao s e)=r.all λe=>Ao s e)/\∃z,t.env=[some (.val (.tup [.str "list",s.d,.int m])),some (.val (.lst ds)),z]) _ _ ⟨rfl,rfl,_,rfl⟩ ?_ ?_
    ·rintro d r t ⟨hS,hall,z,ht⟩ hm;obtain ⟨env,S2⟩:=t;subst hS ht;right;refine (hc s hs d (hx d hm)).use ?_;right;refine CD (λq=>?_) λq=>?_
     ·right;have q':Ao s d=false:=by simpa using q
      refine ⟨?_,rfl⟩;simp only [Ao,hall,ul6,q',uk8,uk9]
     ·right;have q':Ao s d=true:=by simpa using q
      exact ⟨rfl,by rw [hall,ul6,q',ul8],_,rfl⟩
    ·rintro t ⟨hS,hall,z,ht⟩;obtain ⟨env,S2⟩:=t;subst hS ht;right;exact ⟨by simp only [Ao,e',decide_true,hall,List.all_nil,ul8],rfl⟩
 | obj _=>simp [okD] at h
 | scr _=>simp [okD] at h
 | ty _=>simp [okD] at h
 | exc _ _=>simp [okD] at h
 | _=>right;exact ⟨by simp [Ao],rfl⟩
def P2 (f:Fn)(n:Nat):Prop:=∀(s r:Sh),s.depth<=n->r.depth<=n->∀d,okD d=true->Pure1 f [(Sh.pair s r).d,d] (.bl (Ao (.pair s r) d))
theorem MA (hc:FU c n):P2 (fnOf 2 2 (FP c)) n:=by
 intro s r hs hr d h S;refine Ax rfl ?_;unfold FP;rw [Sh.d]
 cases d with
 | tup ds=>
   have hx:∀d∈ds,okD d=true:=HR (by simpa [okD] using h);right
   match ds,hx with
   | [],_=>right;exact ⟨by simp [Ao],rfl⟩
   | [a],_=>right;exact ⟨by simp [Ao],rfl⟩
   | [a,b],hx=>
     right;refine (hc s hs a (hx a (by simp))).use ?_;right;refine CD (λe=>?_) λe=>?_
     ·right;refine (hc r hr b (hx b (by simp))).use ?_;exact ⟨by simp only [Ao,e,ul8],rfl⟩
     ·exact ⟨by simp only [Ao,e,uk8],rfl⟩
   | a :: b :: e :: l,_=>
     refine FN ?_ ?_
     ·show (!(((a :: b :: e :: l).length:Int) == 2))=true;simp;lia
     right;exact ⟨by simp [Ao],rfl⟩
 | obj _=>simp [okD] at h
 | scr _=>simp [okD] at h
 | ty _=>simp [okD] at h
 | exc _ _=>simp [okD] at h
 | _=>right;exact ⟨by simp [Ao],rfl⟩
def LK (f:Fn)(n:Nat):Prop:=∀(ss:List Sh),EG ss<=n->∀d,okD d=true->Pure1 f [(Sh.choice ss).d,d] (.bl (Ao (.choice ss) d))
theorem Kk {c':Fn}(hc:FU c n)(hw:Gg c'):LK (fnOf 2 2 (EW c c')) n:=by
 intro ss hs d h S;refine Ax rfl ?_;unfold EW;rw [Sh.d]
 cases d with
 | tup ds=>
   have hx:∀d∈ds,okD d=true:=HR (by simpa [okD] using h);right
   match ds,hx with
   | [],_=>right;exact ⟨by simp [Ao],rfl⟩
   | [a],_=>right;exact ⟨by simp [Ao],rfl⟩
   | [a,b],_=>right;exact ⟨by simp [Ao],rfl⟩
   | [a,b,e],hx=>
     right;have ha:=hx a (by simp)
     cases a with
     | str o=>
       right;refine CD (λq=>?_) λq=>?_
       ·right;have q':GW o=false:=by simpa [GW] using q
        refine ⟨?_,rfl⟩
        cases b <;> simp only [Ao,q',uk8]
       ·right;have q':GW o=true:=by simpa [GW] using q
        refine (hw b 0 _ (hx b (by simp))).use ?_;right
        cases b with
        | int k=>
          refine CD (λq=>?_) λq=>?_
          ·right;refine ⟨?_,rfl⟩;have:(decide (0<=k) && decide (k < (ss.length:Int)))=false:=by
            have q2:k < 0\/((shD ss).length:Int) - 1 < k:=by simpa [Fb] using q
            rw [D0] at q2;simp;lia
           simp only [Ao,this,uk8,uk9]
          ·have q2:0<=k/\k<=((shD ss).length:Int) - 1:=by simpa [Fb] using q
           have q3:=q2;rw [D0] at q3;have hk:k.toNat < ss.length:=by lia
           have e1:ss[k.toNat]?=some ss[k.toNat]:=ub5 hk;have e2:atI (shD ss) k=some (ss[k.toNat]).d:=by
            unfold atI;rw [D0,B0 q3.1 (by lia)];simp [F8,e1]
           right;refine IU e2 ?_;right;refine (hc _ (um4 (CK ss _ _ e1) hs) e (hx e (by simp))).use ?_;refine ⟨?_,rfl⟩;have:(decide (0<=k) && decide (k < (ss.length:Int)))=true:=by simp;lia
           simp only [Ao,q',this,ul8,CJ ss _ _ e e1]
        | _=>
          right;exact ⟨by simp [Ao],rfl⟩
     | obj _=>simp [okD] at ha
     | scr _=>simp [okD] at ha
     | ty _=>simp [okD] at ha
     | exc _ _=>simp [okD] at ha
     | _=>right;exact ⟨by simp [Ao],rfl⟩
   | a :: b :: e :: f :: l,_=>
     refine FN ?_ ?_
     ·show (!(((a :: b :: e :: f :: l).length:Int) == 3))=true;simp;lia
     right;exact ⟨by simp [Ao],rfl⟩
 | obj _=>simp [okD] at h
 | scr _=>simp [okD] at h
 | ty _=>simp [okD] at h
 | exc _ _=>simp [okD] at h
 | _=>right;exact ⟨by simp [Ao],rfl⟩
variable {cc cp cl ct cw:Fn}
theorem Vf (h1:LK cc n)(h2:P2 cp n)(h3:PX cl n)(h4:LU ct)(h5:Gg cw):FU (fnOf 2 3 (MQ cc cp cl ct cw)) (n + 1):=by
 intro s hs d h S;refine Ax rfl ?_;unfold MQ
 cases s with
 | nothing=>
   rw [Sh.d];right;exact ⟨by rw [Ao],rfl⟩
 | number lo hi=>
   rw [Sh.d];right;refine (h5 d lo hi h).use ⟨?_,rfl⟩
   cases d <;> simp [Ao,Fb]
 | text m=>
   rw [Sh.d];right;exact (h4 m d h).use ⟨rfl,rfl⟩
 | list s m=>
   rw [Sh.depth] at hs;have q:=h3 s m (by lia) d h;rw [Sh.d] at q ⊢;right;exact q.use ⟨rfl,rfl⟩
 | pair s r=>
   rw [Sh.depth] at hs;have q:=h2 s r (by lia) (by lia) d h;rw [Sh.d] at q ⊢;right;exact q.use ⟨rfl,rfl⟩
 | choice ss=>
   rw [Sh.depth] at hs;have q:=h1 ss (by lia) d h;rw [Sh.d] at q ⊢;right;exact q.use ⟨rfl,rfl⟩
theorem KR (x:Array Nat):∀(n:Nat) (acc:Array Nat),((List.replicate n x).foldl (·++·) acc).toList=acc.toList++(List.replicate n x.toList).flatten
 | 0,acc=>by simp
 | n + 1,acc=>by
   rw [ue3,uj5,KR x n,ue3,ug3];simp
variable {x:Str}
theorem Q1 {k:Int}:(Txt.mul x k).cps.toList=(List.replicate k.toNat x.cps.toList).flatten:=by
 unfold Txt.mul
 split
 ·have:k.toNat=0:=by lia
  rw [this];rfl
 ·split
  ·next h=>
   rw [uj9] at h;rcases h with h | h
   ·have:k=1:=by simpa using h
    subst this;simp
   ·have:x.cps.toList=[]:=by
     have h':x.length=0:=by simpa using h
     exact ua3 (by simpa [Str.length] using h')
    rw [this];simp
  ·have:=KR x.cps k.toNat #[];simpa using this
theorem DY (x:Str):x.length=x.cps.toList.length:=by simp [Str.length]
theorem EJ (x y:Str):(x++y).cps.toList=x.cps.toList++y.cps.toList:=by
 show (x.cps++y.cps).toList=_;simp
variable {α:Type}
theorem Wn (a:α)(k:Nat):(List.replicate k [a]).flatten=List.replicate k a:=by
 induction k with
 | zero=>rfl
 | succ k ih=>rw [ue3,ug3,ih,ue3];rfl
variable {elt:M D}
theorem KH {f:D->D}{fr:List (Option Sl)}{z:Option Sl}(h:∀d∈ds,W elt ⟨some (.val d) :: fr,S⟩ λx t'=>x=f d/\t'=⟨some (.val d) :: fr,S⟩) :
 W (B4 (AQ 0) DV elt ds) ⟨z :: fr,S⟩ λxs t'=>xs=ds.map f/\t'.S=S:=by
 refine (FZ (P:=λxs t'=>xs=ds.map f/\t'.S=S) (λacc r t=>acc++r.map f=ds.map f/\∃z,t=⟨z :: fr,S⟩) ds [] _ ⟨rfl,z,rfl⟩ ?_ ?_).mono λxs t' h=>h
 ·rintro acc d r t ⟨h1,z,rfl⟩ hm;refine FC (KF ?_);rw [if_pos rfl];refine (h d hm).mono λx t' z9=>?_;obtain ⟨e1,e2⟩:=z9;subst e1 e2;exact ⟨by rw [ug4];exact h1,_,rfl⟩
 ·rintro acc t ⟨h1,z,rfl⟩;exact ⟨by simpa using h1,rfl⟩
mutual
noncomputable def sz:D->Nat
 | .tup xs=>szs xs + 1
 | .lst xs=>szs xs + 1
 | _=>1
noncomputable def szs:List D->Nat
 | []=>0
 | d :: r=>sz d + szs r
end
theorem WO {y:Str}(h:x.cps.toList=y.cps.toList):x=y:=by
 cases x;cases y
 congr
 exact Array.toList_inj.mp h
mutual
noncomputable def wf:Sh->Bool
 | .nothing=>true
 | .number lo hi=>decide (-1000000000000000000 < lo) && decide (lo<=hi) && decide (hi < 1000000000000000000)
 | .text m=>decide (0<=m) && decide (m<=250)
 | .list s m=>decide (0<=m) && decide (m<=250) && wf s
 | .pair s r=>wf s && wf r
 | .choice ss=>decide (1<=ss.length) && decide (ss.length<=9) && wfs ss
noncomputable def wfs:List Sh->Bool
 | []=>true
 | s :: r=>wf s && wfs r
end
mutual
noncomputable def cnt:Sh->Nat
 | .list s _=>cnt s + 1
 | .pair s r=>cnt s + cnt r + 1
 | .choice ss=>Xr ss + 1
 | _=>1
noncomputable def Xr:List Sh->Nat
 | []=>0
 | s :: r=>cnt s + Xr r
end
theorem D1:∀{ss:List Sh},wfs ss=true->∀s∈ss,wf s=true
 | x :: r,h,s,m=>by
   rw [wfs,uh6] at h;rcases ul3.mp m with z | z
   ·subst z;exact h.1
   ·exact D1 h.2 s z
theorem R6:∀{ss:List Sh},(∀s∈ss,wf s=true)->wfs ss=true
 | [],_=>rfl
 | x :: r,h=>by rw [wfs,h x ue9,R6 λs m=>h s (ud5 _ m)];rfl
theorem Nv:∀ss:List Sh,shD ss=ss.map Sh.d
 | []=>rfl
 | s :: r=>by rw [shD,Nv r];rfl
theorem K6:∀{ss:List Sh} {s:Sh},s∈ss->s.depth<=EG ss
 | x :: r,s,m=>by
   rw [EG];rcases ul3.mp m with z | z
   ·subst z;lia
   ·have:=K6 z;lia
variable {xs:List D}
theorem FS (h0:0<=i)(h1:i < xs.length){p:D->Prop}(h:∀d∈xs,p d):∃d,atI xs i=some d/\p d:=by
 obtain ⟨d,e,m,_⟩:=UX h0 h1;exact ⟨d,e,h d m⟩
def OE (k c l:Nat)(S S':List Ob):Prop:=S'.length=S.length/\∀j:Nat,j≠k->j≠c->j≠l->S'[j]?=S[j]?
noncomputable def Pw (deep:Int):Int:=if deep < 2 then 0 else 2 * deep + 4
def bd (deep x:Int):Int:=if deep < 2 then 1 else max x 1 + Pw deep - (if deep + 1<=x then 1 else 0)
def tb (deep y i:Int):Int:=if deep=2 then i else if i=0 then 0 else y + Pw (deep - 1) + i - 1 - (if deep<=y then 1 else 0)
structure ShapeRes (k c l:Nat)(S:List Ob)(deep x:Int)(s:Sh)(S':List Ob):Prop where
 w:wf s=true
 dep:(s.depth:Int)<=max deep 1
 lft:S'[l]?=some (.lst [.int (x - cnt s)])
 one:x<=1->cnt s=1
 few:(cnt s:Int)<=max x 1 + Pw deep
 deck:DeckAt k c S'
 kp:OE k c l S S'
 few2:(cnt s:Int)<=bd deep x
theorem Tk {k:Int}:(Txt.mul ⟨#[n]⟩ k).cps.toList=List.replicate k.toNat n:=by rw [Q1];exact Wn n k.toNat
theorem Tb {k:Int}:(Txt.mul ⟨#[n]⟩ k).length=k.toNat:=by rw [DY,Tk,ud0]
structure Sep (ks:List (Nat×Nat)):Prop where
 sep:∀p∈ks,∀q∈ks,p=q\/(q.1≠p.1/\q.1≠p.2/\q.2≠p.1/\q.2≠p.2)
mutual
noncomputable def dpt:D->Nat
 | .lst ds=>Su ds + 1
 | .tup ds=>Su ds + 1
 | _=>1
noncomputable def Su:List D->Nat
 | []=>0
 | d :: r=>max (dpt d) (Su r)
end
mutual
noncomputable def smD:D->Bool
 | .str x=>decide (x.length<=300)
 | .int i=>decide (-1000000000000000000000000 < i) && decide (i < 1000000000000000000000000)
 | .tup xs=>decide (xs.length<=300) && sms xs
 | .lst xs=>decide (xs.length<=300) && sms xs
 | .obj _=>false
 | .scr _=>false
 | .ty _=>false
 | .exc _ _=>false
 | _=>true
noncomputable def sms:List D->Bool
 | []=>true
 | d :: r=>smD d && sms r
end
theorem GQ {f:D->D->Option Bool}:∀{xs:List D},(∀d∈xs,f d d=some true)->Di f xs xs=some true
 | [],_=>rfl
 | x :: r,h=>by
   rw [Di,h x ue9,GQ λd m=>h d (ud5 _ m)];rfl
variable {t:T}{P:D->T->Prop}
theorem WY {d:D}{g:Bool->Bool}(h0:MJ d=false)(h:eqN EQD d d=some true)(p:P (.bl (g true)) t):W (eqS g d d) t P:=⟨_,_,by simp [eqS,h0,h],p⟩
variable {f:M D}
theorem ap {g:M (List D)}(h:W f t λo t1=>W g t1 λas t2=>∃z ds ys,o = .str z/\as=[.lst ds]/\FA ds=some ys/\(z.length<=8/\ys.length<=1048576)/\P (.str (Txt.join z ys)) t2):W (joinM f g) t P:=by
 refine BY (h.mono λo t1 h1=>BY (h1.mono λas t2 h2=>?_));obtain ⟨z,ds,ys,rfl,rfl,e,hl,p⟩:=h2;refine ⟨_,_,?_,p⟩;simp only [e];rw [if_pos hl]
theorem Hr:∀ns:List Nat,FA (ns.map λn=>D.str ⟨#[n]⟩)=some (ns.map λn=>(⟨#[n]⟩:Str))
 | []=>rfl
 | n :: r=>by
   rw [ul4,FA,if_pos (ud2 rfl),Hr r];rfl
theorem Jv:∀(ns:List Nat) (acc:Array Nat),((ns.map λn=>(⟨#[n]⟩:Str)).foldl (λacc p=>acc++(Str.ofString "").cps++p.cps) acc).toList=acc.toList++ns
 | [],acc=>by simp
 | n :: r,acc=>by
   have e:(Str.ofString "").cps=#[]:=by decide +kernel
   rw [ul4,uj5,Jv r,e];simp
theorem Jx (ns:List Nat):(Txt.join (Str.ofString "") (ns.map λn=>(⟨#[n]⟩:Str))).cps.toList=ns:=by
 show (List.foldl (λ(acc:Array Nat) (p:Str)=>acc++(Str.ofString "").cps++p.cps) (((ns.map λn=>(⟨#[n]⟩:Str)).headD Str.empty).cps) ((ns.map λn=>(⟨#[n]⟩:Str)).drop 1)).toList=ns
 cases ns with
 | nil=>rfl
 | cons n r=>
   rw [ul4,List.drop_one,List.tail_cons,Jv];rfl
structure ValueRes (k c l:Nat)(S:List Ob)(s:Sh)(r:D)(S':List Ob):Prop where
 fit:Ao s r=true
 lft:∃a b:Int,S'[l]?=some (.lst [.int a,.int b])
 deck:DeckAt k c S'
 kp:OE k c l S S'
theorem Ie {f:M (List D)}{P:Out->T->Prop}(h:W f t λds t1=>P (.ret (.lst ds)) t1):W (GB f) t P:=W_bnd.mpr (h.mono λ_ _ p=>W_ret.mpr p)
theorem Gb {g:Fn}{f:M (List D)}{P:List D->T->Prop}(h:W f t λds t1=>Wf g ds t1.S λr S'=>∃rs,r = .lst rs/\P rs ⟨t1.env,S'⟩):W (DB g f) t P:=by
 refine W_bnd.mpr (h.mono λds t1 z9=>?_);obtain ⟨r,S',e,rs,er,p⟩:=z9;subst er;exact ⟨rs,⟨t1.env,S'⟩,by simp only [e],p⟩
theorem W2 {i:Nat}{P:Out->T->Prop}(e:t.env[i]?=some (some (.own xs)))(h:P (.ret (.lst xs)) ⟨t.env.set i none,t.S⟩):W (F7 i) t P:=⟨_,_,by simp only [F7,e],h⟩
theorem ag (h:P (.int (Builtin.Int.intBits i:Nat)) t):W (Je (.int i)) t P:=⟨_,_,rfl,h⟩
theorem cV {j:Int}(h0:0<=j)(h:P (.int (i / 2 ^ j.toNat)) t):W (Nw (.int i) (.int j)) t P:=⟨_,_,by simp [Nw,i2C,h0],h⟩
variable {ys:List D}{t1:T}
theorem b5 {i:Nat}{A:List D->Prop}(e:t1.env[i]?=some (some (.own xs)))(l:xs.length + ys.length<=LIM)(w:A (xs++ys)):∃xs,t1.env[i]?=some (some (.own xs))/\∃zs,GU xs [.lst ys]=some zs/\A zs:=
 ⟨xs,e,xs++ys,by simp [GU,l],w⟩
theorem Gf {f:M Bool}{b:M Out}{P:Out->T->Prop}(I:Nat->T->Prop)(turn:∀n t,I n t->W f t λk t1=>match k with
 | true=>∃m,n=m + 1/\W b t1 λo t2=>match o with
   | .next=>I m t2
   | .cont=>I m t2
   | .brk=>P .next t2
   | .ret x=>P (.ret x) t2
 | false=>P .next t1):∀(fuel n:Nat) (t:T),n < fuel->I n t->W (C8 f b fuel) t P
 | 0,n,t,h,_=>absurd h (uk1 _)
 | fuel + 1,n,t,h,i=>by
   obtain ⟨k,t1,e1,p⟩:=turn n t i
   cases k with
   | false=>exact ⟨_,_,by simp only [C8,e1],p⟩
   | true=>
     obtain ⟨m,rfl,o,t2,e2,p⟩:=p
     cases o with
     | next=>obtain ⟨o,t',e',p⟩:=Gf I turn fuel m t2 (by lia) p;exact ⟨o,t',by simp only [C8,e1,e2];exact e',p⟩
     | cont=>obtain ⟨o,t',e',p⟩:=Gf I turn fuel m t2 (by lia) p;exact ⟨o,t',by simp only [C8,e1,e2];exact e',p⟩
     | brk=>exact ⟨_,_,by simp only [C8,e1,e2],p⟩
     | ret x=>exact ⟨_,_,by simp only [C8,e1,e2],p⟩
noncomputable def wid (n:Nat):Nat:=if n=0 then 0 else n.log2 / 8 + 1
theorem QV (h:2<=n):n.log2=(n / 2).log2 + 1:=by rw [Nat.log2_def,if_pos h]
theorem Tf (h:n < 2):n.log2=0:=by rw [Nat.log2_def,if_neg (by lia)]
theorem MO:∀(k:Nat) {n:Nat},2 ^ k<=n->n.log2=(n / 2 ^ k).log2 + k
 | 0,n,_=>by rw [Nat.pow_zero,Nat.div_one,um9]
 | k + 1,n,h=>by
   have h2:2 ^ k * 2<=n:=by rw [<-un0];exact h
   have h3:2<=n / 2 ^ k:=(Nat.le_div_iff_mul_le (Nat.pow_pos (by decide))).mpr (by rw [Nat.mul_comm];exact h2);rw [MO k (um4 (Nat.le_mul_of_pos_right _ (by decide)) h2),QV h3,uc6,<-un0,ul9,Nat.add_comm 1 k]
theorem Td (h:256<=n):n.log2=(n / 256).log2 + 8:=MO 8 h
theorem Te (h:n < 256):n.log2 < 8:=by
 by_cases z:n=0
 ·subst z;rw [Tf (by lia)];lia
 ·exact (Nat.log2_lt z).mpr h
theorem IX (h:0 < n):wid n=wid (n / 256) + 1:=by
 unfold wid;rw [if_neg (by lia)]
 by_cases z:n < 256
 ·have:=Te z;rw [if_pos (by lia)];lia
 ·rw [if_neg (by lia),Td (by lia)];lia
theorem JU:∀(k n:Nat),n < 256 ^ k->wid n<=k
 | 0,n,h=>by
   have:n=0:=by simpa using h
   subst this;decide
 | k + 1,n,h=>by
   by_cases z:n=0
   ·subst z;exact un6 _
   ·rw [IX (by lia)];have:=JU k (n / 256) (Nat.div_lt_of_lt_mul (by rw [un0] at h;lia));lia
theorem Si (n:Nat):((Builtin.Int.intBits (n:Int):Nat) + 7) / 8=wid n:=by
 unfold Builtin.Int.intBits wid
 by_cases z:n=0
 ·subst z;rfl
 ·have:((n:Int) == 0)=false:=by simp;exact z
  rw [this,if_neg (by simp),if_neg z,Int.natAbs_natCast];lia
noncomputable def nb:Nat->Nat->List D
 | 0,_=>[]
 | w + 1,n=>nb w (n / 256)++[.int ((n % 256:Nat):Int)]
theorem M6:∀w n,(nb w n).length=w
 | 0,n=>rfl
 | w + 1,n=>by rw [nb,uf3,M6];rfl
theorem Q4:∀w n:Nat,(List.range w).map (λk=>D.int ((n / 2 ^ (8 * (w - 1 - k)) % 256:Nat):Int))=nb w n
 | 0,n=>rfl
 | w + 1,n=>by
   rw [List.range_succ,uk2,nb,<-Q4 w (n / 256)]
   congr 1
   ·refine ue4 λk hk=>?_;rw [uk7] at hk;have e:8 * (w + 1 - 1 - k)=8 + 8 * (w - 1 - k):=by lia
    rw [e,Nat.pow_add,uc6]
   ·simp
mutual
def AL:Sh->D->List D
 | .nothing,_=>[]
 | .number lo hi,d=>match d with
   | .int i=>nb (wid (hi - lo).toNat) (i - lo).toNat
   | _=>[]
 | .text _,d=>match d with
   | .str x=>.int (x.length:Nat) :: x.cps.toList.map λn=>D.int (n:Nat)
   | _=>[]
 | .list s _,d=>match d with
   | .lst ds=>.int (ds.length:Nat) :: (ds.map λd=>AL s d).flatten
   | _=>[]
 | .pair s r,d=>match d with
   | .tup [a,b]=>AL s a++AL r b
   | _=>[]
 | .choice ss,d=>match d with
   | .tup [_,.int k,x]=>.int k :: Jf ss k.toNat x
   | _=>[]
def Jf:List Sh->Nat->D->List D
 | [],_,_=>[]
 | s :: _,0,d=>AL s d
 | _ :: r,k + 1,d=>Jf r k d
end
theorem EK:∀(ss:List Sh) (k:Nat) (s:Sh) (d:D),ss[k]?=some s->Jf ss k d=AL s d
 | [],k,s,d,h=>by simp at h
 | s :: r,0,s',d,h=>by simp at h;subst h;simp [Jf]
 | s :: r,k + 1,s',d,h=>by rw [Jf];exact EK r k s' d (by simpa using h)
def Hv (f:Fn)(n:Nat):Prop:=∀(s:Sh),s.depth<=n->wf s=true->∀d,Ao s d=true->(AL s d).length<=LIM->Pure1 f [s.d,d] (.lst (AL s d))
def GK (f:Fn):Prop:=∀(n j:Nat),j<=1000->Pure1 f [.int n,.int j] (.int ((n / 2 ^ (8 * j):Nat):Int))
theorem Vy:GK (fnOf 2 2 He):=by
 intro n j hj S;refine Ax rfl ?_;unfold He;right;refine JS (HL (by decide) (by decide)) ?_;refine cV (by lia) ?_;refine ⟨?_,rfl⟩;have:(8 * (j:Int)).toNat=8 * j:=by lia
 rw [this];simp
def Jc (f:Fn):Prop:=∀n:Nat,n < 256 ^ 9->Pure1 f [.int n] (.int (wid n:Nat))
theorem Ur:Jc (fnOf 1 1 EX):=by
 intro n _ S;refine Ax rfl ?_;unfold EX;right;refine ag ?_;right;refine ⟨?_,rfl⟩;rw [<-Si];simp
def LN (f:Fn):Prop:=∀(n w:Nat),w<=1000->Pure1 f [.int n,.int w] (.lst (nb w n))
theorem Kz (i:Int)(n:Nat):rngL i n=(List.range n).map λk:Nat=>D.int (i + k):=by
 rfl
theorem VM (hc:GK c):LN (fnOf 2 2 (Ex c)):=by
 intro n w hw S;have hL:LIM=100000:=rfl;refine Ax rfl ?_;unfold Ex;refine Ie ?_;right;refine Uo (by rw [Ce (by decide) (by decide),Ce (by lia) (by lia)];rfl) ?_;refine (KH (f:=λd=>match d with | .int k=>.int ((n / 2 ^ (8 * (w - k.toNat)) % 256:Nat):Int) | _=>d) (fr:=[some (.val (.int n)),some (.val (.int w))]) ?_).mono ?_
 ·intro d m;rw [Kz] at m;obtain ⟨k,hk,rfl⟩:=un1.mp m;rw [uk7] at hk;right;have e:((w:Int) - (1 + (k:Int)))=((w - (1 + k):Nat):Int):=by lia
  rw [e];refine (hc n (w - (1 + k)) (by lia)).use ?_;right;refine ⟨?_,rfl⟩;have e2:(1 + (k:Int)).toNat=1 + k:=by lia
  dsimp only;rw [e2];simp
 ·rintro xs t' ⟨rfl,hS⟩;have hn:((w:Int) + 1 - 1).toNat=w:=by lia
  rw [Kz,hn];refine BV (by simp only [uj0,List.length_range,hL];lia) ?_;refine ⟨?_,hS⟩;rw [<-Q4 w n,un2]
  congr 1
  refine ue4 λk hk=>?_;rw [uk7] at hk;have e2:(1 + (k:Int)).toNat=1 + k:=by lia
  have e3:w - (1 + k)=w - 1 - k:=by lia
  simp only [Function.comp,e2,e3]
variable {lo hi:Int}
theorem OA (h:wf (.number lo hi)=true):(hi - lo).toNat < 256 ^ 9:=by
 simp only [wf,uh6,ug9] at h;have:(256:Nat) ^ 9=4722366482869645213696:=by decide
 lia
theorem Qb (x:Str):(x.cps.toList.map λc=>D.str ⟨#[c]⟩).map (λd=>match d with | .str y=>D.int (y.cps.getD 0 0:Nat) | _=>d)=x.cps.toList.map λn=>D.int (n:Nat):=by
 rw [un2];refine ue4 λn _=>?_;rfl
theorem Ve {cn:Fn}(hc:Hv c n)(hw:Jc cw)(hn:LN cn):Hv (fnOf 2 5 (Eg c cw cn)) (n + 1):=by
 intro s hs hwf d hf hlen S;have hL:LIM=100000:=rfl;refine Ax rfl ?_;unfold Eg
 cases s with
 | nothing=>
   rw [Sh.d];right;refine Ie ?_;right;exact ⟨by rw [AL],rfl⟩
 | number lo hi=>
   have hsp:=OA hwf;have hwd:=JU 9 _ hsp;simp only [wf,uh6,ug9] at hwf
   cases d <;> simp [Ao] at hf
   rename_i i;rw [Sh.d];right;refine Ie (Gb ?_);right;have e1:hi - lo=(((hi - lo).toNat:Nat):Int):=by lia
   have e2:i - lo=(((i - lo).toNat:Nat):Int):=by lia
   rw [e1,e2];refine (hw _ hsp).use ?_;right;refine (hn _ _ (by lia)).use ?_;exact ⟨_,rfl,by rw [AL],rfl⟩
 | text q=>
   simp only [wf,uh6,ug9] at hwf
   cases d <;> simp [Ao] at hf
   rename_i x;rw [Sh.d];right;refine Ie ?_;refine BY ?_;right;refine Ic (by rw [hL];lia) ?_;right;refine (KH (f:=λd=>match d with | .str y=>D.int (y.cps.getD 0 0:Nat) | _=>d) (fr:=[]) ?_).mono ?_
   ·intro d m;obtain ⟨k,hk,rfl⟩:=un1.mp m;right;refine Zq rfl ?_;exact ⟨rfl,rfl⟩
   ·rintro xs t' ⟨rfl,hS⟩;rw [Qb];have hl:x.cps.toList.length<=250:=by rw [<-DY];lia
    refine BV (by rw [uj0,hL];lia) ?_;right;refine BV (by simp only [uj0,uh2,uj7,hL];lia) ?_;exact ⟨by rw [AL];rfl,hS⟩
 | list s q=>
   simp only [wf,uh6,ug9] at hwf;rw [Sh.depth] at hs
   cases d <;> simp only [Ao,uf4] at hf
   rename_i ds;rw [uh6,ug9,ui0] at hf;rw [AL] at hlen ⊢;rw [Sh.d];right;refine CL (λr t=>∃(z:Option Sl) (acc:List D),t=⟨[some (.val (.tup [.str "list",s.d,.int q])),some (.val (.lst ds)),some (.val (.str "list")),some (.own acc),z],S⟩/\acc++(r.map λd=>AL s d).flatten = .int (ds.length:Nat) :: (ds.map λd=>AL s d).flatten) _ _ ⟨_,_,rfl,rfl⟩ ?_ ?_
   ·rintro d r t ⟨z,acc,rfl,hacc⟩ m;rw [ul4,ug3,<-ug4] at hacc;have hl:acc.length + (AL s d).length<=LIM:=by
     have:=congrArg List.length hacc;rw [uf3,uf3] at this;lia
    right;refine Gb ?_;right;refine (hc s (uc7 hs) hwf.2 d (hf.2 d m) (um4 (Nat.le_add_left _ _) hl)).use ⟨_,rfl,?_⟩;right;refine b5 rfl hl ?_;exact ⟨_,_,rfl,hacc⟩
   ·rintro t ⟨z,acc,rfl,hacc⟩;rw [um8,List.flatten_nil,uj2] at hacc;right;refine W2 rfl ?_;exact ⟨by rw [hacc],rfl⟩
 | pair s r=>
   simp only [wf,uh6] at hwf;rw [Sh.depth] at hs;unfold Ao at hf
   split at hf
   case h_2=>cases hf
   case h_1 a b=>
    rw [uh6] at hf;rw [AL] at hlen ⊢;rw [uf3] at hlen;rw [Sh.d];right;refine Ie ?_;refine BY ?_;right;refine Gb ?_;right;refine (hc s (um4 (Nat.le_max_left _ _) (uc7 hs)) hwf.1 a hf.1 (um4 (uh9 _ _) hlen)).use ⟨_,rfl,?_⟩;refine BY ?_;right;refine Gb ?_;right;refine (hc r (um4 (Nat.le_max_right _ _) (uc7 hs)) hwf.2 b hf.2 (um4 (Nat.le_add_left _ _) hlen)).use ⟨_,rfl,?_⟩;right;refine BV hlen ?_;exact ⟨rfl,rfl⟩
 | choice ss=>
   simp only [wf,uh6,ug9] at hwf;rw [Sh.depth] at hs;unfold Ao at hf
   split at hf
   case h_2=>cases hf
   case h_1 o k x=>
    simp only [uh6,ug9] at hf;obtain ⟨⟨ho,k0,k1⟩,hf⟩:=hf;have hk:k.toNat < ss.length:=by lia
    have e1:ss[k.toNat]?=some ss[k.toNat]:=ub5 hk;have hl:=D0 ss;have e2:atI (shD ss) k=some (ss[k.toNat]).d:=by
     unfold atI;rw [B0 k0 (by lia)];show (shD ss)[k.toNat]?=_;rw [F8,e1];rfl
    rw [CJ ss _ _ _ e1] at hf;rw [AL] at hlen ⊢;rw [EK ss _ _ _ e1] at hlen ⊢;rw [uh2] at hlen;rw [Sh.d];right;refine Ie ?_;right;refine Gb ?_;right;refine IU e2 ?_;right;refine (hc _ (um4 (CK ss _ _ e1) (uc7 hs)) (D1 hwf.2 _ (ui2 hk)) x hf (Nat.le_of_succ_le hlen)).use ⟨_,rfl,?_⟩;right;refine BV (by simp only [uh2,uj7];lia) ?_;exact ⟨rfl,rfl⟩
theorem JJ (a:Int)(n:Nat):(rngL a n).length=n:=by simp [rngL]
variable {j:Nat}
theorem Kv {a:Int}{d:D}{r:List D}(e:d :: r=(rngL a n).drop j):d = .int (a + j)/\r=(rngL a n).drop (j + 1)/\j < n:=by
 have hj:j < (rngL a n).length:=by
  rcases Nat.lt_or_ge j (rngL a n).length with h | h
  ·exact h
  ·rw [List.drop_eq_nil_of_le h] at e;cases e
 rw [ub3 hj] at e;injection e with e1 e2
 rw [JJ] at hj;refine ⟨?_,e2,hj⟩;rw [e1];simp [rngL]
noncomputable def sgs:Str:=" !\"#$ &'()*+,-./0123456789:;<=>?@ABCDEFGHIJKLMNOPQRSTUVWXYZ[\\]^_`abcdefghijklmnopqrstuvwxyz{|}~"
theorem Y2 {c:Nat}(h:BD c=true):atI sgs.cps.toList ((c:Int) - 32)=some c:=by
 have hl:sgs.cps.toList.length=95:=by decide +kernel
 have hall:(List.range 127).all (λc=>!BD c || decide (sgs.cps.toList[c - 32]?=some c))=true:=by decide +kernel
 have h':=h;simp only [BD,uh6,ug9] at h';have:=ui0.mp hall c (uk7.mpr (by lia));rw [h,Bool.not_true,Bool.false_or,ug9] at this;rw [show ((c:Int) - 32)=((c - 32:Nat):Int) by lia];exact Hy this
variable {n':Str}
section
variable {t:T}{P:D->T->Prop}{R:Out->T->Prop}
def Uf (h:D->M Out)(R:Out->T->Prop)(o:Out)(t1:T):Prop:=match o with
 | .ret (.exc n ds)=>n∈Bu/\W (h (.exc n ds)) t1 R
 | o=>R o t1
theorem cY {b:M Out}{h:D->M Out}(w:W b t (Uf h R)):W (FB b h) t R:=by
 obtain ⟨o,t1,e,q⟩:=w;have rest:∀d,A9 d=false->o = .ret d->W (FB b h) t R:=λd hd ho=>by
  subst ho;refine ⟨.ret d,t1,?_,?_⟩
  ·unfold FB;rw [e];cases d <;> first | rfl | cases hd
  ·cases d <;> first | exact q | cases hd
 cases o with
 | next=>exact ⟨.next,t1,by unfold FB;rw [e],q⟩
 | brk=>exact ⟨.brk,t1,by unfold FB;rw [e],q⟩
 | cont=>exact ⟨.cont,t1,by unfold FB;rw [e],q⟩
 | ret d=>
   cases d with
   | exc n ds=>
     obtain ⟨hn,o2,t2,e2,q2⟩:=q;exact ⟨o2,t2,by unfold FB;rw [e];dsimp only;rw [if_pos hn,e2],q2⟩
   | _=>exact rest _ rfl rfl
theorem RU {h:D->M Out}(q:R .next t1):Uf h R .next t1:=q
theorem WQ {h:D->M Out}{n:Str}(e:n∈Bu)(q:W (h (.exc n ds)) t1 R):Uf h R (.ret (.exc n ds)) t1:=⟨e,q⟩
def xK (d:D)(A B:Prop):Prop:=if A9 d=true then A else B
theorem aO {d:D}{A B:Prop}(e:A9 d=false)(b:B):xK d A B:=by unfold xK;rw [if_neg (by rw [e];decide)];exact b
theorem aN {d:D}{A B:Prop}(e:A9 d=true)(a:A):xK d A B:=by unfold xK;rw [if_pos e];exact a
theorem aG {i:Nat}(w:W f t λd t1=>xK d (R (.ret d) t1) (R .next ⟨t1.env.set i (some (.val d)),t1.S⟩)):W (De i f) t R:=by
 refine BY (w.mono λd t1 q=>?_);unfold xK at q
 split at q
 ·next h=>rw [if_pos h];exact ⟨_,_,rfl,q⟩
 ·next h=>rw [if_neg h];exact ⟨_,_,rfl,q⟩
theorem wNx (w:W f t λd t1=>A9 d=false/\P d t1):W (nxD f) t P:=by
 refine BY (w.mono λd t1 z9=>?_);obtain ⟨h,q⟩:=z9;rw [if_neg (by rw [h];decide)];exact ⟨_,_,rfl,q⟩
theorem ah {g:M D}{h:D->M D}(w:W g t λy t1=>xK y (P y t1) (W (h y) t1 λd t2=>A9 d=false/\P d t2)):W (Ka g h) t P:=by
 refine BY (w.mono λy t1 q=>?_);unfold xK at q
 split at q
 ·next z=>rw [if_pos z];exact ⟨_,_,rfl,q⟩
 ·next z=>rw [if_neg z];exact wNx q
theorem af {g:M D}{h:D->D->M D}(w:W f t λx t1=>W (Ka g (h x)) t1 P):W (HA f g h) t P:=BY w
theorem W0 {n:Str}{f:M (List D)}(w:W f t λds t1=>ds.length<=1000/\R (.ret (.exc n [])) t1):W (Fw n f) t R:=
 BY (w.mono λds t1 ⟨e,q⟩=>by rw [if_pos e];exact ⟨_,_,rfl,q⟩)
theorem W1 {n:Str}(w:W f t λ_ t1=>R (.ret (.exc n [])) t1):W (Fw n (Aa f Ad)) t R:=W0 (DM (w.mono λd t1 q=>IV ⟨by show 1<=1000;decide,q⟩))
theorem b9 {n:Str}{i:Nat}{s:M Out}{r:D->M Out}(e:E1 n n'=true)(w:W s { t with env:=t.env.set i (some (.val (.exc n ds))) } λo t2=>R o (unE i t2)):W (hAs n' i s r (.exc n ds)) t R:=by
 obtain ⟨o,t2,e1,q⟩:=w;exact ⟨o,unE i t2,by unfold hAs;dsimp only;rw [if_pos e,e1],q⟩
theorem cj {n:Str}{s:M Out}{r:D->M Out}(e:E1 n n'=true)(w:W s t R):W (hNo n' s r (.exc n ds)) t R:=by
 obtain ⟨o,t2,e1,q⟩:=w;exact ⟨o,t2,by unfold hNo;dsimp only;rw [if_pos e,e1],q⟩
theorem ak {n:Str}{s:M Out}{r:D->M Out}(e:E1 n n'=false)(w:W (r (.exc n ds)) t R):W (hNo n' s r (.exc n ds)) t R:=by
 obtain ⟨o,t2,e1,q⟩:=w;exact ⟨o,t2,by unfold hNo;dsimp only;rw [if_neg (by rw [e];decide),e1],q⟩
theorem ae {m n:Str}{d:D}(e:m∈Bu)(l:((IF m).zip ds).lookup n=some d)(q:P d t):W (J2 n (.exc m ds)) t P:=⟨_,_,by unfold J2;dsimp only;rw [if_pos e,l];rfl,q⟩
theorem Jb {g:Fn}{Q:D->List Ob->Prop}(w:Wf g ds S λr S'=>A9 r=false/\Q r S'):Wf (Ez g) ds S Q:=by
 obtain ⟨r,S',e,h,q⟩:=w;exact ⟨r,S',by unfold Ez;rw [e];dsimp only;rw [if_neg (by rw [h];decide)],q⟩
end
theorem Fa {n:Str}{g:M D}{R:Out->T->Prop}(w:W f t λa t1=>W g t1 λb t2=>R (.ret (.exc n [a,b])) t2):W (Dp n (Aa f (Aa g Ad))) t R:=
 BY (DM (w.mono λa t1 q=>DM (q.mono λb t2 q=>IV ⟨_,_,rfl,q⟩)))
local macro_rules | `(tactic| walk_at "x1")=>`(tactic| first
 | walk_at "w1" | clear 31 cY aG wNx af ah RU | clear 33 WQ | clear 32 aO | clear 32 aN | clear 31 W1 | clear 33 b9 | clear 33 cj | clear 33 ak | ((with_reducible refine' ae ?wv ?wu ?_);(case wv=>decide);(case wu=>exact rfl)))
local macro_rules | `(tactic| left)=>`(tactic| repeat (walk_at "x1"))
inductive Rd where
 | done (v:D)
 | need (ok:Nat->Bool) (nx:Nat->Rd)
inductive RR where
 | told (v:D) (a:Nat)
 | short
 | broken (a:Nat)
noncomputable def Rd.run:Rd->List Nat->Nat->RR
 | .done v,_,a=>.told v a
 | .need ok nx,w,a=>match w[a]? with
   | none=>.short
   | some b=>if ok b=true then (nx b).run w (a + 1) else .broken a
noncomputable def Rd.bnd:Rd->(D->Rd)->Rd
 | .done v,k=>k v
 | .need ok nx,k=>.need ok λb=>(nx b).bnd k
def RR.thn (r:RR)(w:List Nat)(k:D->Rd):RR:=match r with
 | .told v a=>(k v).run w a
 | .short=>.short
 | .broken a=>.broken a
variable {w:List Nat}{a:Nat}
theorem BC {ok:Nat->Bool}{nx:Nat->Rd}(h:w[a]?=none):(Rd.need ok nx).run w a = .short:=by rw [Rd.run,h]
variable {b:Nat}
theorem A5 {ok:Nat->Bool}{nx:Nat->Rd}(h:w[a]?=some b):(Rd.need ok nx).run w a=if ok b=true then (nx b).run w (a + 1) else .broken a:=by rw [Rd.run,h]
theorem DZ (k:D->Rd)(w:List Nat):∀(p:Rd) (a:Nat),(p.bnd k).run w a=(p.run w a).thn w k:=by
 intro p
 induction p with
 | done v=>intro a;rfl
 | need ok nx ih=>
   intro a;rw [Rd.bnd]
   cases h:w[a]? with
   | none=>rw [BC h,BC h];rfl
   | some b=>
     rw [A5 h,A5 h]
     by_cases q:ok b=true
     ·rw [if_pos q,if_pos q];exact ih b (a + 1)
     ·rw [if_neg q,if_neg q];rfl
variable {v:D}
theorem Ga:∀(p:Rd) (a:Nat),a<=w.length->p.run w a = .told v b->a<=b/\b<=w.length:=by
 intro p
 induction p with
 | done v'=>intro a ha h;cases h;exact ⟨un5 _,ha⟩
 | need ok nx ih=>
   intro a ha h
   cases e:w[a]? with
   | none=>rw [BC e] at h;cases h
   | some c=>
     rw [A5 e] at h;have hl:=(ub1.mp e).1
     by_cases q:ok c=true
     ·rw [if_pos q] at h;have:=ih c (a + 1) hl h;lia
     ·rw [if_neg q] at h;cases h
def Rd.good:Rd->Prop
 | .done _=>True
 | .need ok nx=>(ok 0=true\/ok 32=true)/\∀b,ok b=true->(nx b).good
noncomputable def EB (lo:Int)(M:Nat):Nat->Nat->Rd
 | 0,x=>.done (.int (lo + x))
 | r + 1,x=>.need (λb=>decide (x * 256 + b<=M / 2 ^ (8 * r))) λb=>EB lo M r (x * 256 + b)
def Ft:Nat->List Nat->Rd
 | 0,cs=>.done (.str ⟨cs.toArray⟩)
 | n + 1,cs=>.need BD λc=>Ft n (cs++[c])
def Gx (p:Rd):Nat->List D->Rd
 | 0,ds=>.done (.lst ds)
 | n + 1,ds=>p.bnd λv=>Gx p n (ds++[v])
def pSh:Nat->Sh->Rd
 | 0,_=>.done .non
 | _ + 1,.nothing=>.done .non
 | _ + 1,.number lo hi=>EB lo (hi - lo).toNat (wid (hi - lo).toNat) 0
 | _ + 1,.text q=>.need (λb=>decide ((b:Int)<=q)) λb=>Ft b []
 | n + 1,.list s q=>.need (λb=>decide ((b:Int)<=q)) λb=>Gx (pSh n s) b []
 | n + 1,.pair s r=>(pSh n s).bnd λv=>(pSh n r).bnd λu=>.done (.tup [v,u])
 | n + 1,.choice ss=>.need (λb=>decide (b < ss.length)) λb=>(pSh n (ss.getD b .nothing)).bnd λv=>.done (.tup [.str "of",.int b,v])
mutual
noncomputable def plD:D->Bool
 | .lst xs=>pls xs
 | .tup xs=>pls xs
 | .obj _=>false
 | .scr _=>false
 | .ty _=>false
 | .exc _ _=>false
 | .dic=>false
 | _=>true
noncomputable def pls:List D->Bool
 | []=>true
 | d :: r=>plD d && pls r
end
theorem Ss {k:Int}(h0:0<=k)(h1:k<=xs.length):B5 xs none (some k)=xs.take k.toNat:=by
 have:HT.sIx xs.length xs.length (some k)=k.toNat:=by simp only [HT.sIx];rw [if_neg (by lia)];lia
 unfold B5;rw [this];simp [HT.sIx]
theorem So {k:Int}(h0:0<=k)(h1:k<=xs.length):B5 xs (some k) none=xs.drop k.toNat:=by
 have:HT.sIx xs.length 0 (some k)=k.toNat:=by simp only [HT.sIx];rw [if_neg (by lia)];lia
 unfold B5;rw [this];simp only [HT.sIx];rw [uc5 (by simp)]
noncomputable def pos (i:Int):Int:=if 0 < i then i else 0
structure ValueRes2 (k c l:Nat)(S:List Ob)(s:Sh)(a b:Int)(r:D)(S':List Ob):Prop where
 fit:Ao s r=true
 lft:∃a' b':Int,S'[l]?=some (.lst [.int a',.int b'])/\((AL s r).length:Int)<=9 * (a - a') + (pos b - pos b')/\pos b'<=pos b/\1<=a - a'/\a - a'<=cnt s + (14 * (s.depth:Int)) * pos a
 deck:DeckAt k c S'
 kp:OE k c l S S'
mutual
noncomputable def szE:D->Nat
 | .lst xs=>1 + Ua xs
 | .tup xs=>1 + Ua xs
 | _=>1
noncomputable def Ua:List D->Nat
 | []=>0
 | d :: r=>szE d + Ua r
end
structure VOk (s:Sh)(v:D):Prop where
 fit:Ao s v=true
 len:(AL s v).length<=14809
local macro_rules | `(tactic| walk_at "y1")=>`(tactic| first
 | walk_at "x1" | clear 31 Fa)
local macro_rules | `(tactic| symm)=>`(tactic| repeat (walk_at "y1"))
noncomputable def wD (w:List Nat):List D:=w.map λ(n:Nat)=>D.int (n:Int)
theorem Bx (w:List Nat):(wD w).length=w.length:=by unfold wD;rw [uj0]
theorem RZ (h:w[a]?=some b):(wD w)[a]?=some (.int (b:Int)):=by unfold wD;rw [ug2,h];rfl
abbrev exS:D:=.exc "Short" []
abbrev exB (a:Nat):D:=.exc "Broken" [.int (a:Int),.non]
noncomputable def rrD:RR->D
 | .told v b=>.tup [v,.int (b:Int)]
 | .short=>exS
 | .broken a=>exB a
noncomputable def byX:Option Nat->D
 | none=>exS
 | some b=>.int (b:Int)
noncomputable def upX (m:Int)(a:Nat):Option Nat->D
 | none=>exS
 | some b=>if (b:Int)<=m then .int (b:Int) else exB a
def sgX (a:Nat):Option Nat->D
 | none=>exS
 | some c=>if BD c=true then .str ⟨#[c]⟩ else exB a
def RX (c:Fn)(s:Sh)(p:Rd):Prop:=∀(w:List Nat) (a:Nat),a<=w.length->Pure1 c [s.d,.lst (wD w),.int (a:Int)] (rrD (p.run w a))
noncomputable def seg (w:List Nat)(a b:Nat):List Nat:=(w.drop a).take (b - a)
theorem Gc (x y:List Nat):wD (x++y)=wD x++wD y:=by unfold wD;rw [uk2]
theorem Oc:∀(r y:Nat),nb (r + 1) y = .int ((y / 256 ^ r % 256:Nat):Int) :: nb r y
 | 0,y=>by rw [nb,nb,nb,Nat.pow_zero,Nat.div_one];rfl
 | r + 1,y=>by
   rw [show nb (r + 1 + 1) y=nb (r + 1) (y / 256)++[.int ((y % 256:Nat):Int)] from rfl,Oc r (y / 256),ui3,show nb (r + 1) y=nb r (y / 256)++[.int ((y % 256:Nat):Int)] from rfl,uc6,show 256 * 256 ^ r=256 ^ (r + 1) by rw [un0,Nat.mul_comm]]
variable {kvs:List (Key×D)}
theorem Br {d:D}(e:t.S[n]?=some (.dct kvs))(e2:A6 kvs (.inr x)=some d)(h:P d t):W (A8 (.obj n) (.str x)) t P:=
 ⟨d,t,by simp only [A8,e,e2];rfl,h⟩
theorem CI {g:M D}{d:D}{U:Unit->T->Prop}(h:W f t λo t1=>W g t1 λi t2=>W (F9 o i d) t2 U):W (DL f g d) t U:=BY (h.mono λo t1 h1=>BY h1)
theorem B3 {d:D}{U:Unit->T->Prop}(e:t.S[n]?=some (.dct kvs))(hl:kvs.length < LIM)(h:U () ⟨t.env,t.S.set n (.dct (Bp kvs (.inr x) d))⟩):W (F9 (.obj n) (.str x) d) t U:=
 ⟨(),_,by simp only [F9,e,if_pos hl],h⟩
theorem LH {l:List (Str×M D)}(h:W (DC l) ⟨t.env,t.S++[.dct []]⟩ λps t1=>t1.S[t.S.length]?=some (.dct [])/\ps.length<=15/\P (.obj t.S.length) ⟨t1.env,t1.S.set t.S.length (.dct (Bc ps))⟩):W (FF l) t P:=by
 obtain ⟨ps,t1,e1,e2,e3,p⟩:=h;refine ⟨_,_,?_,p⟩;unfold FF bnd;simp only [e1];unfold E8;simp only [e2,if_pos e3]
theorem FK {Q:List (Key×D)->T->Prop}(h:Q [] t):W (DC []) t Q:=⟨_,_,rfl,h⟩
theorem B6 {k:Str}{r:List (Str×M D)}{Q:List (Key×D)->T->Prop}(h:W f t λd t1=>W (DC r) t1 λps t2=>Q ((.inr k,d) :: ps) t2):W (DC ((k,f) :: r)) t Q:=
 BY (h.mono λd t1 h1=>BY (h1.mono λps t2 h2=>⟨_,_,rfl,h2⟩))
structure St where
 rest:Int
 mixed:Bool
 turn:Int
noncomputable def St.ob (s:St):Ob:=.dct [(.inr (Str.ofString "rest"),.int s.rest),(.inr (Str.ofString "mixed"),.bl s.mixed),(.inr (Str.ofString "turn"),.int s.turn)]
noncomputable def take (s:St)(m:Int):Int×St:=
 if s.mixed=false then (s.rest % m,⟨s.rest / m,s.mixed,s.turn⟩)
 else
  let stir:=(s.rest % 2147483579 + 70001 * (s.turn + 1)) % 2147483579
  let rest:=(stir * stir % 2147483563 * 50021 + 7) % 2147483579
  (rest / 5 % m,⟨rest,s.mixed,s.turn + 1⟩)
theorem Cw (a:Int)(n:Nat):(rngL a n).length=n:=by simp [rngL]
inductive GS where
 | fin
 | st (side:Str) (ws:List (Str×Sh×Int))
def wdD (w:Str×Sh×Int):D:=.tup [.str w.1,w.2.1.d,.int w.2.2]
def GS.d:GS->D
 | .fin=>.tup [.str (Str.ofString "end")]
 | .st side ws=>.tup [.str side,.lst (ws.map wdD)]
noncomputable def GS.isFin:GS->Bool
 | .fin=>true
 | _=>false
theorem Zj {g:Bool->Bool}{x:GS}(h:P (.bl (g x.isFin)) t):W (eqS g x.d (.tup [.str (Str.ofString "end")])) t P:=by
 cases x with
 | fin=>exact ⟨_,_,by
    show Option.map (λb=>(D.bl (g b),t)) (Option.map (λb=>b && true) (some ((Str.ofString "end" == Str.ofString "end") && true)))=some (D.bl (g true),t);rw [ui6];rfl,h⟩
 | st side ws=>exact ⟨_,_,by
    show Option.map (λb=>(D.bl (g b),t)) (Option.map (λb=>b && false) (some ((side == Str.ofString "end") && true)))=some (D.bl (g false),t)
    cases (side == Str.ofString "end") <;> rfl,h⟩
theorem Fy {a:Int}{d:D}{r:List D}(e:d :: r=(rngL a n).drop j):d = .int (a + j)/\r=(rngL a n).drop (j + 1)/\j < n:=by
 have hj:j < (rngL a n).length:=by
  rcases Nat.lt_or_ge j (rngL a n).length with h | h
  ·exact h
  ·rw [List.drop_eq_nil_of_le h] at e;cases e
 rw [ub3 hj] at e;injection e with e1 e2
 rw [Cw] at hj;refine ⟨?_,e2,hj⟩;rw [e1];simp [rngL]
structure WOk (n:Int)(w:Str×Sh×Int):Prop where
 ok:wf w.2.1=true
 dep:w.2.1.depth<=3
 lo:0<=w.2.2
 hi:w.2.2 < n
 nm:w.1.length<=90000
inductive GSOk (n:Int):GS->Prop
 | fin:GSOk n .fin
 | st {side:Str} {ws:List (Str×Sh×Int)}:(side=Str.ofString "left"\/side=Str.ofString "right")->0 < ws.length->ws.length<=9->(ws.map (·.1)).Nodup->(∀w∈ws,WOk n w)->GSOk n (.st side ws)
structure GOk (g:List GS):Prop where
 ne:0 < g.length
 le:g.length<=30
 all:∀x∈g,GSOk g.length x
def UT (f:Fn):Prop:=∀(n:Int) (x:GS),GSOk n x->Pure1 f [x.d] (.bl x.isFin)
theorem QN:UT (fnOf 1 1 DT):=by
 intro n x hx S;refine Ax rfl ?_;unfold DT
 cases hx with
 | fin=>
   rw [GS.d];right;exact ⟨by simp [GS.isFin],rfl⟩
 | st hs _ _ _ _=>
   rw [GS.d];right;refine ⟨?_,rfl⟩;rcases hs with rfl | rfl <;> simp [GS.isFin]
def GS.words:GS->D
 | .fin=>.tup []
 | .st _ ws=>.lst (ws.map wdD)
noncomputable def GS.ws:GS->List (Str×Sh×Int)
 | .fin=>[]
 | .st _ ws=>ws
theorem Mw {p:α->Bool}{l:List α}(h:∀i (hi:i < l.length),i < j->p l[i]=false){x:α}(hx:l[j]?=some x)(hp:p x=true):l.findIdx? p=some j:=by
 obtain ⟨hj,e⟩:=ub1.mp hx;rw [ua0];exact ⟨hj,by rw [e];exact hp,λi hi=>by simpa using h i (by lia) hi⟩
noncomputable def GS.side:GS->Str
 | .fin=>Str.ofString "end"
 | .st s _=>s
noncomputable def AX (g:List GS)(q:Nat):GS:=g.getD q .fin
def wdAt (g:List GS)(q p:Nat):Str×Sh×Int:=(AX g q).ws.getD p (Str.ofString "",.nothing,0)
def Cr (g:List GS)(q p:Nat):Nat:=(wdAt g q p).2.2.toNat
def EZ (g:List GS)(q p:Nat)(v:D):D:=.tup [.str (AX g q).side,.str (wdAt g q p).1,v]
abbrev Mv:=Nat×D
def lastQ (g:List GS):Nat->List Mv->Nat
 | q,[]=>q
 | q,(p,_) :: r=>lastQ g (Cr g q p) r
def AE (g:List GS):Nat->List Mv->List D
 | _,[]=>[]
 | q,(p,v) :: r=>EZ g q p v :: AE g (Cr g q p) r
def B1 (g:List GS):Nat->List Mv->List D
 | q,[]=>[.int q]
 | q,(p,_) :: r=>.int q :: B1 g (Cr g q p) r
structure MvOk (g:List GS)(q:Nat)(p:Nat)(v:D):Prop where
 lt:q < g.length
 pl:p < (AX g q).ws.length
 fit:Ao (wdAt g q p).2.1 v=true
def okQ (g:List GS):Nat->List Mv->Prop
 | _,[]=>True
 | q,(p,v) :: r=>MvOk g q p v/\okQ g (Cr g q p) r
theorem G0 (g:List GS):∀(q:Nat) (a b:List Mv),lastQ g q (a++b)=lastQ g (lastQ g q a) b
 | q,[],b=>rfl
 | q,(p,v) :: r,b=>by rw [ui3,lastQ,lastQ,G0 g _ r b]
theorem KZ (g:List GS):∀(q:Nat) (a b:List Mv),AE g q (a++b)=AE g q a++AE g (lastQ g q a) b
 | q,[],b=>rfl
 | q,(p,v) :: r,b=>by rw [ui3,AE,AE,lastQ,KZ g _ r b];rfl
theorem Hn (g:List GS):∀(q:Nat) (a:List Mv) (p:Nat) (v:D),B1 g q (a++[(p,v)])=B1 g q a++[.int (Cr g (lastQ g q a) p)]
 | q,[],p,v=>rfl
 | q,(p',v') :: r,p,v=>by rw [ui3,B1,B1,lastQ,Hn g _ r p v];rfl
theorem HN (g:List GS):∀(q:Nat) (a b:List Mv),okQ g q (a++b)↔okQ g q a/\okQ g (lastQ g q a) b
 | q,[],b=>by simp [okQ,lastQ]
 | q,(p,v) :: r,b=>by rw [ui3,okQ,okQ,lastQ,HN g _ r b,and_assoc]
theorem A1 (g:List GS):∀(q:Nat) (a:List Mv),(AE g q a).length=a.length
 | q,[]=>rfl
 | q,(p,v) :: r=>by rw [AE,uh2,A1 g _ r,uh2]
theorem FT (g:List GS):∀(q:Nat) (a:List Mv),(B1 g q a).length=a.length + 1
 | q,[]=>rfl
 | q,(p,v) :: r=>by rw [B1,uh2,FT g _ r,uh2]
theorem JD (g:List GS):∀(q:Nat) (a:List Mv) (i:Nat),(AE g q a).take i=AE g q (a.take i)
 | q,[],i=>by simp [AE]
 | q,(p,v) :: r,0=>rfl
 | q,(p,v) :: r,i + 1=>by rw [AE,ue5,ue5,AE,JD g _ r i]
theorem Iq (g:List GS):∀(q:Nat) (a:List Mv) (i:Nat),i<=a.length->(B1 g q a)[i]?=some (.int (lastQ g q (a.take i)))
 | q,[],0,_=>rfl
 | q,[],i + 1,h=>absurd h (by simp)
 | q,(p,v) :: r,0,_=>rfl
 | q,(p,v) :: r,i + 1,h=>by
   rw [B1,List.getElem?_cons_succ,Iq g _ r i (by simpa using h),ue5,lastQ]
theorem FI (g:List GS):∀(q:Nat) (a:List Mv) (i:Nat) (p:Nat) (v:D),a[i]?=some (p,v)->(AE g q a)[i]?=some (EZ g (lastQ g q (a.take i)) p v)
 | q,[],i,p,v,h=>by simp at h
 | q,(p',v') :: r,0,p,v,h=>by
   simp at h;obtain ⟨rfl,rfl⟩:=h;rfl
 | q,(p',v') :: r,i + 1,p,v,h=>by
   rw [AE,List.getElem?_cons_succ,FI g _ r i p v (by simpa using h),ue5,lastQ]
variable {g:List GS}{q:Nat}
theorem Na {a:List Mv}(h:okQ g q a)(i:Nat):okQ g q (a.take i):=by
 rw [<-ud4 i a,HN] at h;exact h.1
theorem HQ {a:List Mv}(h:okQ g q a){i p:Nat}{v:D}(e:a[i]?=some (p,v)):MvOk g (lastQ g q (a.take i)) p v:=by
 obtain ⟨hi,e'⟩:=ub1.mp e;have hd:a.drop i=(p,v) :: a.drop (i + 1):=by rw [ub3 hi,e']
 rw [<-ud4 i a,HN,hd,okQ] at h;exact h.2.1
theorem Et (h:GOk g){q:Nat}(hq:q < g.length):GSOk g.length (AX g q):=by
 unfold AX;rw [ub0,ub5 hq];exact h.all _ (ui2 hq)
theorem Go (hq:q < g.length):atI (g.map GS.d) q=some (AX g q).d:=by
 unfold atI;rw [B0 (by lia) (by rw [uj0];lia)];show (g.map GS.d)[(q:Int).toNat]?=_;unfold AX;rw [ug8,ug2,ub0,ub5 hq];rfl
variable {p:Nat}
theorem Ia (hp:p < (AX g q).ws.length):∃side ws,AX g q = .st side ws/\p < ws.length/\ws[p]?=some (wdAt g q p):=by
 unfold wdAt
 cases e:AX g q with
 | fin=>rw [e] at hp;simp [GS.ws] at hp
 | st side ws=>
   rw [e] at hp;have hp:p < ws.length:=hp;refine ⟨side,ws,rfl,hp,?_⟩;show ws[p]?=some (ws.getD p _);rw [ub0,ub5 hp];rfl
theorem JW {ws:List (Str×Sh×Int)}{w:Str×Sh×Int}(e:ws[p]?=some w):atI (ws.map wdD) p=some (wdD w):=by
 obtain ⟨hp,_⟩:=ub1.mp e;unfold atI;rw [B0 (by lia) (by rw [uj0];lia)];show (ws.map wdD)[(p:Int).toNat]?=_;rw [ug8,ug2,e];rfl
theorem Ih (h:GOk g){q p:Nat}(hq:q < g.length)(hp:p < (AX g q).ws.length):WOk g.length (wdAt g q p):=by
 obtain ⟨side,ws,e,hp',e2⟩:=Ia hp;have:=Et h hq;rw [e] at this
 cases this with
 | st _ _ _ _ h5=>exact h5 _ (ud8 e2)
theorem VI (h:GOk g){q p:Nat}(hq:q < g.length)(hp:p < (AX g q).ws.length):Cr g q p < g.length:=by
 have:=Ih h hq hp;unfold Cr;have h1:=this.lo;have h2:=this.hi;lia
theorem Kn {g:List GS}(h:GOk g):∀{a:List Mv} {q:Nat},q < g.length->okQ g q a->lastQ g q a < g.length
 | [],q,hq,_=>hq
 | (p,v) :: r,q,hq,hk=>by
   rw [okQ] at hk;rw [lastQ];exact Kn h (VI h hq hk.1.pl) hk.2
theorem OY {ws:List (Str×Sh×Int)}(nd:(ws.map (·.1)).Nodup){p:Nat}{w:Str×Sh×Int}(e:ws[p]?=some w):(ws.findIdx? λx=>x.1 == w.1)=some p:=by
 obtain ⟨hp,ep⟩:=ub1.mp e;refine Mw (λi hi hip=>?_) e (by simp);rw [<-ep];have hne:¬ws[i].1=ws[p].1:=λz=>by
  have h1:i < (ws.map (·.1)).length:=by rw [uj0];exact hi
  have h2:p < (ws.map (·.1)).length:=by rw [uj0];exact hp
  have:(ws.map (·.1))[i]=(ws.map (·.1))[p]:=by rw [List.getElem_map,List.getElem_map];exact z
  have:=(uh1 nd).mp this;lia
 simpa using hne
theorem Oe:∀{xs:List D},(∀d∈xs,okD d=true)->oks xs=true
 | [],_=>by rw [oks]
 | d :: r,h=>by rw [oks,h d ue9,Oe λx m=>h x (ud5 _ m)];rfl
theorem Fj:∀(n:Nat) (s:Sh),s.depth<=n->wf s=true->∀v,Ao s v=true->okD v=true
 | 0,s,h,_,_,_=>absurd s.depth_pos (by lia)
 | n + 1,s,hd,hw,v,h=>by
   cases s with
   | nothing=>cases v <;> first | rfl | (simp [Ao,HH] at h;done)
   | number lo hi=>cases v <;> first | rfl | (simp [Ao] at h;done)
   | text q=>
     simp only [wf,uh6,ug9] at hw
     cases v <;> simp only [Ao,uf4] at h
     simp only [uh6,ug9] at h;rw [okD,ug9];lia
   | list s q=>
     rw [Sh.depth] at hd;simp only [wf,uh6,ug9] at hw
     cases v <;> simp only [Ao,uf4] at h
     simp only [uh6,ug9,ui0] at h;rw [okD];exact Oe λd m=>Fj n s (by lia) hw.2 d (h.2 d m)
   | pair a b=>
     rw [Sh.depth] at hd;simp only [wf,uh6] at hw;unfold Ao at h
     split at h
     ·rw [uh6] at h;rw [okD,oks,oks,oks,Fj n a (by lia) hw.1 _ h.1,Fj n b (by lia) hw.2 _ h.2];rfl
     ·cases h
   | choice ss=>
     rw [Sh.depth] at hd;simp only [wf,uh6,ug9] at hw;unfold Ao at h
     split at h
     ·next o k x=>
      simp only [uh6,ug9] at h;have hk:k.toNat < ss.length:=by lia
      have e1:ss[k.toNat]?=some ss[k.toNat]:=ub5 hk;have h2:=h.2;rw [CJ ss _ _ _ e1] at h2;have ho:o=("of" : Str):=eq_of_beq h.1.1;have hx:=Fj n _ (um4 (CK ss _ _ e1) (by lia)) (D1 hw.2 _ (ui2 hk)) x h2;subst ho;have hl:okD (.str ("of" : Str))=true:=by decide +kernel
      rw [okD,oks,oks,oks,oks,hl,hx];rfl
     ·cases h
abbrev kR:Key:=.inr (Str.ofString "rest")
abbrev kM:Key:=.inr (Str.ofString "mixed")
abbrev kC:Key:=.inr (Str.ofString "count")
theorem kRM:¬kR=kM:=by intro h;injection h with h;rw [Do] at h;exact absurd h (by decide)
theorem kRC:¬kR=kC:=by intro h;injection h with h;rw [Do] at h;exact absurd h (by decide)
theorem kMC:¬kM=kC:=by intro h;injection h with h;rw [Do] at h;exact absurd h (by decide)
theorem kMR:¬kM=kR:=λh=>kRM h.symm
theorem kCR:¬kC=kR:=λh=>kRC h.symm
abbrev BN (a b c:D):List (Key×D):=[(kR,a),(kM,b),(kC,c)]
theorem Oj {a b c:D}:A6 (BN a b c) kR=some a:=by simp [A6,uj6]
theorem TJ {a b c:D}:A6 (BN a b c) kM=some b:=by
 unfold A6 BN;rw [uj6,show decide (kR=kM)=false from uk6 kRM];simp [uj6]
theorem Nh {a b c:D}:A6 (BN a b c) kC=some c:=by
 unfold A6 BN;rw [uj6,show decide (kR=kC)=false from uk6 kRC];dsimp only;rw [uj6,show decide (kM=kC)=false from uk6 kMC];simp [uj6]
theorem Ks {a b c d:D}:Bp (BN a b c) kR d=BN d b c:=by
 unfold Bp BN;rw [if_pos (by simp)];simp only [ul4,um8,if_true,if_neg kMR,if_neg kCR]
theorem TM {a b c d:D}:Bp (BN a b c) kC d=BN a b d:=by
 unfold Bp BN;rw [if_pos (by simp)];simp only [ul4,um8,if_true,if_neg kRC,if_neg kMC]
theorem TH {a b c:D}:Bc (BN a b c)=BN a b c:=by
 unfold Bc;simp only [uj5,List.foldl_nil];have e1:Bp [] kR a=[(kR,a)]:=by simp [Bp]
 rw [e1];have e2:Bp [(kR,a)] kM b=[(kR,a),(kM,b)]:=by
  unfold Bp;rw [if_neg (by simp only [ul7,List.any_nil,ul5,ug9];exact kRM)];rfl
 rw [e2];unfold Bp;rw [if_neg (by
  simp only [ul7,List.any_nil,ul5,uj9,ug9];intro h;rcases h with h | h
  ·exact kRC h
  ·exact kMC h)]
 rfl
def Room (k r:Nat)(S:List Ob):Prop:=∃(a c:Int) (b:Bool),S[k]?=some (.dct (BN (.int a) (.bl b) (.int c)))/\0<=c/\c + r<=1000000000000000000000000000000
variable {r:Nat}
theorem Room.mono {k r':Nat}(h:Room k r S)(e:r'<=r):Room k r' S:=by
 obtain ⟨a,c,b,h1,h2,h3⟩:=h;exact ⟨a,c,b,h1,h2,by lia⟩
variable {m:Nat}
theorem Room.drop {k:Nat}(h:Room k (r + m) S):Room k r S:=h.mono (uh9 _ _)
theorem Room.loop {k:Nat}(h:Room k (r + q * (m + 1)) S):Room k (r + q * m + q) S:=by rw [Nat.mul_succ,<-ul9] at h;exact h
theorem PJ {j:Int}(h1:i.natAbs < 2 ^ 512)(h2:j.natAbs < 2 ^ 512)(h:P (.int (i * j)) t):W (II (.int i) (.int j)) t P:=
 ⟨_,_,by simp only [II,i2C,M5,ul1 h1,ul1 h2];rfl,h⟩
theorem UQ {j:Int}(h1:0 < j)(h2:j < 18446744073709551616)(h:P (.int (i / j)) t):W (HD (.int i) (.int j)) t P:=
 ⟨_,_,by simp only [HD,i2C,Ml,ul1 h1,ul1 h2];rfl,h⟩
theorem JC (h0:0<=i)(h:i < 10000000000000000000000000000000000000000000000000000000000000000000000000000000):i.natAbs < 2 ^ 512:=by
 have:(10000000000000000000000000000000000000000000000000000000000000000000000000000000:Nat)<=2 ^ 512:=by decide
 lia
theorem AT {k:Nat}(h:S[k]?=some o):(S.set k o')[k]?=some o':=Kl h
def PTakeOk (f:Fn):Prop:=∀(k r:Nat) (S:List Ob) (m:Int),0 < m->m < 4611686018427387904->Room k (r + 1) S->Wf f [.obj k,.int m] S λv S'=>(∃i,v = .int i/\0<=i/\i < m)/\Room k r S'
theorem PTakeOk.use {f:Fn}(h:PTakeOk f){k r:Nat}{S:List Ob}{m:Int}(many:Int)(d:Room k (r + 1) S){P:D->List Ob->Prop}(p:∀i S',0<=i->i < many->Room k r S'->P (.int i) S')(e:m=many:=by first | rfl | decide)(h1:0 < many:=by decide)(h2:many < 4611686018427387904:=by decide):Wf f [.obj k,.int m] S P:=by
 subst e;exact (h k r S m h1 h2 d).mono λv S' ⟨⟨i,e,i0,i1⟩,q⟩=>by subst e;exact p i S' i0 i1 q
theorem Bh {x:Ob}:(S++[x])[S.length]?=some x:=by simp
noncomputable def cs:Nat->Nat
 | 0=>10
 | d + 1=>10 + 3 * cs d
theorem Zw (d:Nat):10<=cs d:=by cases d <;> simp [cs]
theorem Hl (h:n<=m)(hm:m<=1000:=by decide):Ch (n:Int)=true:=Ce (by lia) (by lia)
theorem IG {l:List α}{x:α}(h:l.length + (m + 1)=n):(l++[x]).length + m=n:=by rw [uf3,<-h];simp only [uh2,uj7];lia
theorem HK {l:List α}{x:α}{p:α->Prop}(h:∀y∈l,p y)(hx:p x):∀y∈l++[x],p y:=λy hy=>by
 rcases ui8.mp hy with h' | h'
 ·exact h y h'
 ·rw [uf5] at h';subst h';exact hx
theorem MN (h:a<=n)(hn:n<=100000:=by decide):a<=LIM:=um4 h hn
variable {ss:List Sh}
theorem ba (h:∀x∈ss,x.depth<=n):(Sh.choice ss).depth<=n + 1:=by
 rw [Sh.depth];refine ui4 ?_
 induction ss with
 | nil=>rw [EG];exact un6 _
 | cons x r ih=>rw [EG];exact Nat.max_le.mpr ⟨h x ue9,ih λy m=>h y (ud5 _ m)⟩
structure Drawn (k r:Nat)(dp:Nat)(v:D)(S':List Ob):Prop where
 ex:∃s:Sh,v=s.d/\s.depth<=dp/\wf s=true
 pool:Room k r S'
def PShapeOk (f:Fn)(n:Nat):Prop:=∀(d k r:Nat) (S:List Ob),d < n->Room k (r + cs d) S->Wf f [.obj k,.int d] S λv S'=>Drawn k r (d + 1) v S'
theorem PShapeOk.use {f:Fn}(h:PShapeOk f n){d k r:Nat}{S:List Ob}(hd:d < n)(q:Room k (r + cs d) S){P:D->List Ob->Prop}(p:∀s S',s.depth<=d + 1->wf s=true->Room k r S'->P s.d S'):Wf f [.obj k,.int d] S P:=
 (h d k r S hd q).mono λv S' ⟨⟨s,e,h1,h2⟩,q⟩=>by subst e;exact p s S' h1 h2 q
theorem Rm {cr:Fn}(ht:PTakeOk ct)(hr:n=0\/PShapeOk cr n):PShapeOk (fnOf 2 4 (DQ ct cr)) (n + 1):=by
 intro d k r S hd p0;refine Ax rfl ?_;unfold DQ;have hcs:=Zw d;right;refine JS (HL (by decide) (by decide)) ?_;right;refine ht.use (r:=r + (cs d - 1)) (if d=0 then 3 else 6) (p0.mono (by lia)) (λi S1 i0 i1 p1=>?_) ?_ (by split <;> decide) (by split <;> decide)
 ·right;refine CD (λz=>?_) λz=>?_
  ·right;exact ⟨⟨.nothing,by rw [Sh.d],by show 1<=_;lia,rfl⟩,p1.drop⟩
  right;refine CD (λy=>?_) λy=>?_
  ·right;refine ht.use (r:=r + 8) 9 (p1.mono (by lia)) λa S2 a0 a1 p2=>?_;right;refine ht.use (r:=r + 7) 100000000000000000 p2 λb S3 b0 b1 p3=>?_;right;refine ht.use (r:=r + 6) 3 p3 λg S4 z0 z1 p4=>?_;have e16:(10:Int) ^ (16:Int).toNat=10000000000000000:=by decide
   rw [e16];obtain ⟨dd,ed,lo,rfl,l0,l1⟩:=FS (xs:=[D.int 0,D.int (a - 4),D.int (b - 10000000000000000)]) z0 (by simpa using z1) (p:=λd=>∃m:Int,d = .int m/\-100000000000000000<=m/\m<=100000000000000000) (by
    simp only [ud9];clear z0 z1 ht p4 p3 p2 p1 p0;exact ⟨⟨_,rfl,by decide,by decide⟩,⟨_,rfl,by lia,by lia⟩,⟨_,rfl,by lia,by lia⟩,λ_ z=>nomatch z⟩)
   refine Bb ed ?_;right;refine ht.use (r:=r + 5) 100000000000000000 p4 λx S5 x0 x1 p5=>?_;right;refine ht.use (r:=r + 4) 7 p5 λh S6 h0 h1 p6=>?_;obtain ⟨dd,ed,hi,rfl,m0,m1⟩:=FS (xs:=[D.int 0,D.int 1,D.int 255,D.int 256,D.int 300,D.int 70000,D.int x]) h0 (by simpa using h1) (p:=λd=>∃m:Int,d = .int m/\0<=m/\m<=100000000000000000) (by
    simp only [ud9];exact ⟨⟨_,rfl,by decide,by decide⟩,⟨_,rfl,by decide,by decide⟩,⟨_,rfl,by decide,by decide⟩,⟨_,rfl,by decide,by decide⟩,⟨_,rfl,by decide,by decide⟩,⟨_,rfl,by decide,by decide⟩,⟨_,rfl,x0,Int.le_of_lt x1⟩,λ_ z=>nomatch z⟩)
   refine Bb ed ?_;right;refine ⟨⟨.number lo (lo + hi),by rw [Sh.d],by show 1<=_;lia,?_⟩,p6.drop⟩;simp only [wf,uh6,ug9];clear p0 p1 p2 p3 p4 p5 p6;lia
  right;refine CD (λx=>?_) λx=>?_
  ·right;refine ht.use (r:=r + 8) 4 (p1.mono (by lia)) λg S4 z0 z1 p4=>?_;obtain ⟨dd,ed,m,rfl,m0,m1⟩:=FS (xs:=[D.int 0,D.int 1,D.int 5,D.int 250]) z0 (by simpa using z1) (p:=λd=>∃m:Int,d = .int m/\0<=m/\m<=250) (by
    simp only [ud9];exact ⟨⟨_,rfl,by decide,by decide⟩,⟨_,rfl,by decide,by decide⟩,⟨_,rfl,by decide,by decide⟩,⟨_,rfl,by decide,by decide⟩,λ_ z=>nomatch z⟩)
   refine Bb ed ?_;right;refine ⟨⟨.text m,by rw [Sh.d],by show 1<=_;lia,?_⟩,p4.drop⟩;simp only [wf,uh6,ug9];exact ⟨m0,m1⟩
  have i3:3<=i:=by
   have z':¬i=0:=by simpa using z
   have y':¬i=1:=by simpa using y
   have x':¬i=2:=by simpa using x
   lia
  obtain ⟨d,rfl⟩:∃e,d=e + 1:=⟨d - 1,by
   have:¬d=0:=λe=>by rw [if_pos e] at i1;lia
   lia⟩
  have e0:(((d + 1:Nat):Int) - 1)=(d:Int):=by lia
  rcases hr with rfl | hr
  ·exact absurd (Nat.lt_of_succ_lt_succ hd) (uk1 _)
  have hd':=Nat.lt_of_succ_lt_succ hd;have ec:cs (d + 1)=10 + 3 * cs d:=rfl;rw [ec] at p1;replace p1:Room k (r + 9 + 3 * cs d) S1:=p1.mono (by lia);clear p0 hcs ec;right;refine CD (λw=>?_) λw=>?_
  ·right;rw [e0];refine hr.use (r:=r + 9) hd' (p1.mono (by lia)) λs S2 s1 s2 p2=>?_;right;refine ht.use (r:=r + 8) 4 p2 λg S4 z0 z1 p4=>?_;obtain ⟨dd,ed,m,rfl,m0,m1⟩:=FS (xs:=[D.int 0,D.int 2,D.int 6,D.int 250]) z0 (by simpa using z1) (p:=λd=>∃m:Int,d = .int m/\0<=m/\m<=250) (by
    simp only [ud9];exact ⟨⟨_,rfl,by decide,by decide⟩,⟨_,rfl,by decide,by decide⟩,⟨_,rfl,by decide,by decide⟩,⟨_,rfl,by decide,by decide⟩,λ_ z=>nomatch z⟩)
   refine Bb ed ?_;right;refine ⟨⟨.list s m,by rw [Sh.d],by rw [Sh.depth];lia,?_⟩,p4.drop⟩;simp only [wf,uh6,ug9];exact ⟨⟨m0,m1⟩,s2⟩
  right;refine CD (λv=>?_) λv=>?_
  ·right;rw [e0];refine hr.use (r:=r + cs d) hd' (p1.mono (by lia)) λs S2 s1 s2 p2=>?_;right;rw [e0];refine hr.use hd' p2 λs' S3 s3 s4 p3=>?_;right;exact ⟨⟨.pair s s',by rw [Sh.d],by rw [Sh.depth];lia,by simp only [wf,s2,s4,Bool.and_self]⟩,p3⟩
  right;refine ht.use (r:=r + 3 * cs d) 3 (p1.mono (by lia)) λa S3 a0 a1 p3=>?_;right;obtain ⟨m,em⟩:=ub9 (Int.add_nonneg (by decide:(0:Int)<=1) a0);rw [em];have m13:1<=m/\m<=3:=by clear p1 p3;lia
  refine FD (Hl m13.2) ?_;refine (FZ (P:=λxs t'=>∃ss:List Sh,xs=ss.map Sh.d/\ss.length=m/\(∀s∈ss,s.depth<=d + 1/\wf s=true)/\Room k r t'.S) (λacc q t=>∃(ss:List Sh) (S':List Ob) (z:Option Sl),acc=ss.map Sh.d/\ss.length + q.length=m/\(∀s∈ss,s.depth<=d + 1/\wf s=true)/\Room k (r + cs d * q.length) S'/\t=⟨[z,some (.val (.obj k)),some (.val (.int ((d + 1:Nat):Int)))],S'⟩) _ [] _ ⟨[],S3,_,rfl,by simp [rngL],by simp,p3.mono (by rw [Cw,ug8,Nat.mul_comm];exact ue6 (Nat.mul_le_mul_right _ m13.2) _),rfl⟩ ?_ ?_).mono ?_
  ·rintro acc d' q t ⟨ss,S',z,rfl,h1,h2,h3,rfl⟩ _;rw [uh2] at h1 h3;refine FC (KF ?_);rw [if_pos rfl];right;rw [e0];refine hr.use hd' h3.loop λs S5 q1 q2 q3=>?_;exact ⟨ss++[s],S5,_,by rw [uk2];rfl,IG h1,HK h2 ⟨q1,q2⟩,q3,rfl⟩
  ·rintro acc t ⟨ss,S',z,rfl,h1,h2,h3,rfl⟩;exact ⟨ss,rfl,h1,h2,h3⟩
  ·rintro xs t' ⟨ss,hxs,h1,h2,h3⟩;rw [uk3] at hxs;subst hxs;refine BV (MN (n:=3) (by rw [uj0,h1];exact m13.2)) ?_;right;refine ⟨⟨.choice ss,by rw [Sh.d,Nv],ba λx hx=>(h2 x hx).1,?_⟩,h3⟩;simp only [wf,uh6,ug9];exact ⟨⟨by lia,by lia⟩,R6 λx hx=>(h2 x hx).2⟩
 ·by_cases e:d=0
  ·subst e;decide
  ·rw [if_neg e];have:decide ((d:Int) > 0)=true:=ul1 (by lia);rw [this];decide
theorem bf {s:Sh}{q:Int}(h:(Sh.list s q).depth<=m + 1):s.depth<=m:=by rw [Sh.depth] at h;exact uc7 h
theorem Xt {a b:Sh}(h:(Sh.pair a b).depth<=m + 1):a.depth<=m/\b.depth<=m:=by rw [Sh.depth] at h;lia
theorem bb (h:(Sh.choice ss).depth<=m + 1):∀x∈ss,x.depth<=m:=λx hx=>by rw [Sh.depth] at h;exact um4 (K6 hx) (uc7 h)
theorem ZY {k:Nat}(h:k < ss.length):atI (shD ss) (k:Int)=some (ss[k]).d:=by
 unfold atI;rw [B0 (by lia) (by rw [D0];lia)];show (shD ss)[(k:Int).toNat]?=_;rw [ug8,F8,ub5 h];rfl
noncomputable def sg11:Str:=" !#09AZaz~{"
theorem WM (h0:0<=i)(h1:i < 11):∃c,atI sg11.cps.toList i=some c/\BD c=true:=by
 have hl:sg11.cps.toList.length=11:=by decide +kernel
 have ha:sg11.cps.toList.all BD=true:=by decide +kernel
 have hi:i.toNat < sg11.cps.toList.length:=by lia
 refine ⟨sg11.cps.toList[i.toNat],?_,ui0.mp ha _ (ui2 hi)⟩;unfold atI;rw [B0 h0 (by lia)];show sg11.cps.toList[i.toNat]?=_;rw [ub5 hi]
noncomputable def vB:Nat->Nat
 | 0=>10
 | m + 1=>10 + vB m * 3
theorem Room.vA {k:Nat}(h:Room k (r + vB (m + 1)) S):Room k (r + 10) S:=h.mono (by rw [vB];lia)
theorem Room.vL {k:Nat}(h:Room k (r + vB (m + 1)) S):Room k (r + vB m * 3 + 1) S:=h.mono (by rw [vB];lia)
theorem Room.vP {k:Nat}(h:Room k (r + vB (m + 1)) S):Room k (r + vB m + vB m) S:=h.mono (by rw [vB];lia)
theorem Room.vC {k:Nat}(h:Room k (r + vB (m + 1)) S):Room k (r + vB m + 1) S:=h.mono (by rw [vB];lia)
theorem UP (h:n<=10):n<=vB (m + 1):=by rw [vB];lia
theorem bS (h:n<=vB m * 3):n + 1<=vB (m + 1):=by rw [vB];lia
theorem bT (h:n<=vB m)(h2:p<=vB m):n + p<=vB (m + 1):=by rw [vB];lia
theorem bR (h:n<=vB m):n + 1<=vB (m + 1):=by rw [vB];lia
variable {l:Nat}
theorem Vg {A v c:Nat}(h:A + b * (l + 1)<=c)(hv:v<=b):A + v + b * l<=c:=by rw [Nat.mul_succ] at h;lia
theorem Yg (h:wf (.number lo hi)=true):lo<=hi/\0 < hi - lo + 1/\hi - lo + 1 < 4611686018427387904/\wid (hi - lo).toNat<=8:=by
 simp only [wf,uh6,ug9] at h;refine ⟨by lia,by lia,by lia,JU 8 _ ?_⟩;have:(256:Nat) ^ 8=18446744073709551616:=by decide
 lia
theorem VL {g:Int}(z0:0<=g)(z1:g < hi - lo + 1):lo<=lo + g/\lo + g<=hi:=by lia
theorem UD {g q:Int}(c:Nat)(g0:0<=g)(q0:0<=q)(g1:g < (c:Int) + 1):∃m:Nat,(if g < q then g else q)=m/\m<=c/\(m:Int)<=q:=⟨(if g < q then g else q).toNat,by split <;> lia⟩
structure Val (k r:Nat)(s:Sh)(c:Nat)(v:D)(S':List Ob):Prop where
 fit:Ao s v=true
 len:(AL s v).length<=c
 pool:Room k r S'
def PValOk (f:Fn)(m:Nat):Prop:=∀(s:Sh) (k r:Nat) (S:List Ob),s.depth<=m->wf s=true->Room k (r + vB m) S->Wf f [.obj k,s.d] S λv S'=>Val k r s (vB m) v S'
theorem Wk {cv:Fn}(ht:PTakeOk ct)(hv:m=0\/PValOk cv m):PValOk (fnOf 2 5 (DR cv ct)) (m + 1):=by
 intro s k r S hd hw p0;have rec_:∀{s':Sh} {r':Nat} {S':List Ob} {P:D->List Ob->Prop},s'.depth<=m->wf s'=true->Room k (r' + vB m) S'->(∀v S'',Ao s' v=true->(AL s' v).length<=vB m->Room k r' S''->P v S'')->Wf cv [.obj k,s'.d] S' P:=λ{s' r' S' P} h1 h2 q p=>by
  rcases hv with rfl | hv
  ·exact absurd (ue8 s'.depth_pos h1) (uk1 _)
  ·exact (hv s' k r' S' h1 h2 q).mono λv S'' ⟨g1,g2,g3⟩=>p v S'' g1 g2 g3
 refine Ax rfl ?_;unfold DR
 cases s with
 | nothing=>
   rw [Sh.d];right;exact ⟨by rw [Ao];rfl,by rw [AL];exact un6 _,p0.drop⟩
 | number lo hi=>
   obtain ⟨w0,w1,w2,w3⟩:=Yg hw;rw [Sh.d];right;refine ht.use (r:=r + 9) (hi - lo + 1) p0.vA (λg S1 z0 z1 p1=>?_) rfl w1 w2;right;refine ht.use (r:=r + 8) 3 p1 λi S2 i0 i1 p2=>?_;obtain ⟨d,ed,q,rfl,q0,q1⟩:=FS (xs:=[D.int lo,D.int hi,D.int (lo + g)]) i0 (by simpa using i1) (p:=λd=>∃m:Int,d = .int m/\lo<=m/\m<=hi) (by
    simp only [ud9];exact ⟨⟨_,rfl,Int.le_refl _,w0⟩,⟨_,rfl,w0,Int.le_refl _⟩,⟨_,rfl,VL z0 z1⟩,λ_ z=>nomatch z⟩)
   refine Bb ed ?_;exact ⟨by simp only [Ao,uh6,ug9];exact ⟨q0,q1⟩,by rw [AL,M6];exact UP (um4 w3 (by decide)),p2.drop⟩
 | text q=>
   simp only [wf,uh6,ug9] at hw;rw [Sh.d];right;refine ap ?_;right;refine ht.use (r:=r + 9) 7 p0.vA λg S1 z0 z1 p1=>?_;right;obtain ⟨n,en,n3,nq⟩:=UD 6 z0 hw.1 z1;rw [en];refine FD (Hl n3) ?_;refine (FZ (P:=λxs t'=>∃ns:List Nat,xs=ns.map (λn=>D.str ⟨#[n]⟩)/\ns.all BD=true/\ns.length=n/\Room k r t'.S) (λacc q t=>∃(ns:List Nat) (S':List Ob) (z:Option Sl),acc=ns.map (λn=>D.str ⟨#[n]⟩)/\ns.all BD=true/\ns.length + q.length=n/\Room k (r + 1 * q.length) S'/\t=⟨[z,some (.val (.str sg11)),some (.val (.obj k))],S'⟩) _ [] _ ⟨[],S1,_,rfl,rfl,by simp [rngL],p1.mono (by rw [Cw,ug8];exact ue6 (um4 (Nat.mul_le_mul_left 1 n3) (by decide)) _),rfl⟩ ?_ ?_).mono ?_
   ·rintro acc d q t ⟨ns,S',z,rfl,h1,h2,h3,rfl⟩ _;rw [uh2] at h2 h3;refine FC (KF ?_);rw [if_pos rfl];right;refine ht.use 11 h3.loop λi S5 i0 i1 p5=>?_;obtain ⟨c,ec,hc⟩:=WM i0 i1;refine W_ix_str.mpr ⟨by decide +kernel,c,ec,?_⟩;refine ⟨ns++[c],S5,_,by rw [uk2];rfl,by simp [List.all_append,h1,hc],IG h2,p5,rfl⟩
   ·rintro acc t ⟨ns,S',z,rfl,h1,h2,h3,rfl⟩;exact ⟨ns,rfl,h1,h2,h3.drop⟩
   ·rintro xs t' ⟨ns,e,h1,h2,h3⟩;rw [uk3] at e;subst e h2;refine BV (MN (n:=6) (by rw [uj0];exact n3)) ?_;right;refine ⟨_,_,_,rfl,rfl,Hr ns,⟨by decide +kernel,by rw [uj0];clear p0 p1;lia⟩,?_⟩;refine IR ?_;refine ⟨?_,?_,h3⟩
    ·rw [Ao];simp only [uh6,ug9];rw [DY,Jx];exact ⟨nq,h1⟩
    ·rw [AL,uh2,uj0,Jx];exact UP (um4 (ui4 n3) (by decide))
 | list s q=>
   simp only [wf,uh6,ug9] at hw;rw [Sh.d];right;refine ht.use 4 p0.vL λg S1 z0 z1 p1=>?_;right;obtain ⟨n,en,n2,nq⟩:=UD 3 z0 hw.1.1 z1;rw [en];have nb2:vB m * n<=vB m * 3:=Nat.mul_le_mul_left _ n2;refine FD (Hl n2) ?_;refine (FZ (P:=λxs t'=>(∀x∈xs,Ao s x=true)/\xs.length=n/\((xs.map λd=>AL s d).flatten).length<=vB m * 3/\Room k r t'.S) (λacc l t=>∃(S':List Ob) (z:Option Sl),(∀x∈acc,Ao s x=true)/\acc.length + l.length=n/\((acc.map λd=>AL s d).flatten).length + vB m * l.length<=vB m * 3/\Room k (r + vB m * l.length) S'/\t=⟨[z,some (.val (.obj k)),some (.val (.tup [.str "list",s.d,.int q]))],S'⟩) _ [] _ ⟨S1,_,by simp,by simp [rngL],by rw [Cw,ug8];exact um4 (um7 (Nat.zero_add _)) nb2,p1.mono (by rw [Cw,ug8];exact ue6 nb2 _),rfl⟩ ?_ ?_).mono ?_
   ·rintro acc d l t ⟨S',z,h1,h2,h3,h4,rfl⟩ _;rw [uh2] at h2 h3 h4;refine FC (KF ?_);rw [if_pos rfl];right;refine rec_ (bf hd) hw.2 h4.loop λv S5 f1 f2 p5=>?_;refine ⟨S5,_,HK h1 f1,IG h2,?_,p5,rfl⟩;rw [uk2,List.flatten_append,uf3];simp only [ul4,um8,ug3,List.flatten_nil,uj2];exact Vg h3 f2
   ·rintro acc t ⟨S',z,h1,h2,h3,h4,rfl⟩;exact ⟨h1,h2,h3,h4.drop⟩
   ·rintro xs t' ⟨h1,h2,h3,h4⟩;rw [uk3] at h1 h2 h3;subst h2;refine BV (MN (n:=3) n2) ?_;refine ⟨?_,by rw [AL,uh2];exact bS h3,h4⟩;rw [Ao,uh6,ug9,ui0];exact ⟨nq,h1⟩
 | pair a b=>
   simp only [wf,uh6] at hw;rw [Sh.d];right;refine rec_ (Xt hd).1 hw.1 p0.vP λv S1 f1 f2 p1=>?_;right;refine rec_ (Xt hd).2 hw.2 p1 λu S2 g1 g2 p2=>?_;right;exact ⟨by simp only [Ao,f1,g1,Bool.and_self],by rw [AL,uf3];exact bT f2 g2,p2⟩
 | choice ss=>
   simp only [wf,uh6,ug9] at hw;rw [Sh.d];right;rw [D0];refine ht.use (ss.length:Int) p0.vC (λi S1 i0 i1 p1=>?_) rfl (by clear p0;lia) (by clear p0;lia);obtain ⟨j,rfl⟩:=ub9 i0;have hj:j < ss.length:=Int.ofNat_lt.mp i1;have e1:ss[j]?=some ss[j]:=ub5 hj;right;refine IU (ZY hj) ?_;right;refine rec_ (bb hd _ (ui2 hj)) (D1 hw.2 _ (ui2 hj)) p1 λv S2 f1 f2 p2=>?_;right;have hof:GW (Str.ofString "of")=true:=by decide +kernel
   refine ⟨?_,?_,p2⟩
   ·simp only [Ao,uh6,ug9];exact ⟨⟨hof,i0,i1⟩,by rw [ug8,CJ ss _ _ _ e1];exact f1⟩
   ·rw [AL,ug8,EK ss _ _ _ e1,uh2];exact bR f2
def hd1 (x:Str):Option Nat:=x.cps.toList.head?
noncomputable def abc9:Str:="abcdefghi"
noncomputable def xyz3:Str:="xyz"
theorem Xh (h:j < 9):atI abc9.cps.toList (j:Int)=some (97 + j):=by
 have:j=0\/j=1\/j=2\/j=3\/j=4\/j=5\/j=6\/j=7\/j=8:=by lia
 rcases this with rfl | rfl | rfl | rfl | rfl | rfl | rfl | rfl | rfl <;> decide +kernel
theorem Yf {k:Int}(h:k < 8):((⟨#[n]⟩:Str)++Txt.mul ⟨#[m]⟩ k).length<=90000:=by
 rw [DY,EJ,uf3,Tk,ud0];show 1 + _<=_;lia
theorem ZP {k:Int}:hd1 ((⟨#[n]⟩:Str)++Txt.mul ⟨#[m]⟩ k)=some n:=by
 unfold hd1;rw [EJ];rfl
theorem ZO {ws:List (Str×Sh×Int)}(h:ws.map (λw=>hd1 w.1)=(List.range ws.length).map λi=>some (97 + i)):(ws.map (·.1)).Nodup:=by
 have h1:((ws.map (·.1)).map hd1).Nodup:=by
  rw [un2];show (ws.map λw=>hd1 w.1).Nodup;rw [h];refine List.Pairwise.map _ (R:=λa b:Nat=>a≠b) (λa b h e=>?_) List.nodup_range;injection e with e
  lia
 exact (List.pairwise_map.mp h1).imp λh e=>h (congrArg hd1 e)
theorem Vs {ws:List (Str×Sh×Int)}{w:Str×Sh×Int}(h:ws.map (λw=>hd1 w.1)=(List.range ws.length).map λi=>some (97 + i))(hw:hd1 w.1=some (97 + ws.length)):(ws++[w]).map (λw=>hd1 w.1)=(List.range (ws++[w]).length).map λi=>some (97 + i):=by
 rw [uk2,h,uf3,ud1,List.range_succ,uk2];simp [hw]
variable {a0 a1 a2 e4 e5 e7 e8 e9:Option Sl}{X Y:List D}
theorem t10 {e6:Option Sl}(h:X=Y):(⟨[a0,a1,a2,some (.own X),e4,e5,e6,e7,e8,e9],S⟩:T)=⟨[a0,a1,a2,some (.own Y),e4,e5,e6,e7,e8,e9],S⟩:=by subst h;rfl
variable {a3:Option Sl}
theorem bF (h:X=Y):(⟨[a0,a1,a2,a3,e4,e5,some (.own X),e7,e8,e9],S⟩:T)=⟨[a0,a1,a2,a3,e4,e5,some (.own Y),e7,e8,e9],S⟩:=by subst h;rfl
def okB (g:List GS):Nat->List Mv->Prop
 | _,[]=>True
 | q,(p,v) :: r=>(AL (wdAt g q p).2.1 v).length<=400/\okB g (Cr g q p) r
theorem HM (g:List GS):∀(q:Nat) (a b:List Mv),okB g q (a++b)↔okB g q a/\okB g (lastQ g q a) b
 | q,[],b=>by simp [okB,lastQ]
 | q,(p,v) :: r,b=>by rw [ui3,okB,okB,lastQ,HM g _ r b,and_assoc]
theorem IK {a:List Mv}(h:okB g q a)(i:Nat):okB g q (a.take i):=by
 rw [<-ud4 i a,HM] at h;exact h.1
structure TOk (g:List GS)(mv:List Mv):Prop where
 ok:okQ g 0 mv
 bd:okB g 0 mv
 len:mv.length<=60
theorem PValOk.use {f:Fn}(h:PValOk f m){s:Sh}{k r:Nat}{S:List Ob}(hd:s.depth<=m)(hw:wf s=true)(q:Room k (r + vB m) S){P:D->List Ob->Prop}(p:∀v S',Ao s v=true->(AL s v).length<=vB m->P v S'):Wf f [.obj k,s.d] S P:=
 (h s k r S hd hw q).mono λv S' ⟨h1,h2,_⟩=>p v S' h1 h2
variable {y:D}
theorem t14 {e10 e11 e12 e13:Option Sl}{x:D}{X' Y':List D}(h:X=Y)(h2:x=y)(h3:X'=Y'):(⟨[a0,a1,a2,a3,some (.own X),some (.val x),some (.own X'),e7,e8,e9,e10,e11,e12,e13],S⟩:T)=⟨[a0,a1,a2,a3,some (.own Y),some (.val y),some (.own Y'),e7,e8,e9,e10,e11,e12,e13],S⟩:=by subst h h2 h3;rfl
theorem PK {k:Nat}{h:List D->List D->Option (List D)}{g:M (List D)}(w:W f t λo t1=>o = .obj k/\∃xs0,t1.S[k]?=some (.lst xs0)/\W g t1 λds t2=>∃xs ys,t2.S[k]?=some (.lst xs)/\h xs ds=some ys/\P .non ⟨t2.env,t2.S.set k (.lst ys)⟩):W (objM h f g) t P:=by
 unfold objM;refine W_bnd.mpr (w.mono λo t1 z9=>?_);obtain ⟨e,xs0,e1,w⟩:=z9;subst e;obtain ⟨ds,t2,e2,xs,ys,e3,e4,p⟩:=w;refine ⟨_,_,?_,p⟩;simp only [e1,bnd,e2,e3,e4];rfl
def An (g:List GS)(sd:Str):Nat->List Mv->List D
 | _,[]=>[]
 | q,(p,v) :: r=>(if (AX g q).side=sd then .int p :: AL (wdAt g q p).2.1 v else [])++An g sd (Cr g q p) r
theorem Hu (g:List GS)(sd:Str):∀(q:Nat) (a b:List Mv),An g sd q (a++b)=An g sd q a++An g sd (lastQ g q a) b
 | q,[],b=>rfl
 | q,(p,v) :: r,b=>by rw [ui3,An,An,lastQ,Hu g sd _ r b,ug4]
theorem EO (g:List GS)(sd:Str):∀(q:Nat) (a:List Mv),okB g q a->(An g sd q a).length<=401 * a.length
 | q,[],_=>un6 _
 | q,(p,v) :: r,h=>by
   rw [okB] at h;have:=EO g sd _ r h.2;rw [An,uf3,uh2];have h1:(if (AX g q).side=sd then D.int p :: AL (wdAt g q p).2.1 v else []).length<=401:=by
    split
    ·rw [uh2];exact ui4 h.1
    ·exact un6 _
   lia
abbrev kL:Key:=.inr (Str.ofString "left")
abbrev kRt:Key:=.inr (Str.ofString "right")
theorem kLR:¬kL=kRt:=by intro h;injection h with h;rw [Do] at h;exact absurd h (by decide)
theorem kRL:¬kRt=kL:=λh=>kLR h.symm
theorem sLR:¬Str.ofString "left" = Str.ofString "right":=λh=>kLR (congrArg Sum.inr h)
theorem Ko {a b:D}:A6 [(kL,a),(kRt,b)] kL=some a:=by simp [A6,uj6]
theorem Kq {a b:D}:A6 [(kL,a),(kRt,b)] kRt=some b:=by
 unfold A6;rw [uj6,show decide (kL=kRt)=false from uk6 kLR];simp [uj6]
theorem IH {a b:D}:Bc [(kL,a),(kRt,b)]=[(kL,a),(kRt,b)]:=by
 unfold Bc;simp only [uj5,List.foldl_nil];have e1:Bp [] kL a=[(kL,a)]:=by simp [Bp]
 rw [e1];unfold Bp;rw [if_neg (by simp only [ul7,List.any_nil,ul5,ug9];exact kLR)];rfl
theorem VA {a b d:D}:Bp [(kL,a),(kRt,b)] kL d=[(kL,d),(kRt,b)]:=by
 unfold Bp;rw [if_pos (by simp)];simp only [ul4,um8,if_true,if_neg kRL]
theorem VB {a b d:D}:Bp [(kL,a),(kRt,b)] kRt d=[(kL,a),(kRt,d)]:=by
 unfold Bp;rw [if_pos (by simp)];simp only [ul4,um8,if_true,if_neg kLR]
theorem H9 (hg:GOk g){q p:Nat}{v:D}(h:MvOk g q p v):(AX g q).side=Str.ofString "left"\/(AX g q).side=Str.ofString "right":=by
 obtain ⟨side,ws,e,hpl,ew⟩:=Ia h.pl;have:=Et hg h.lt;rw [e] at this ⊢
 cases this with
 | st hs _ _ _ _=>exact hs
abbrev sL:Str:=Str.ofString "left"
abbrev sR:Str:=Str.ofString "right"
structure Wr (K A B:Nat)(S:List Ob)(xs ys:List D):Prop where
 k:S[K]?=some (.dct [(kL,.obj A),(kRt,.obj B)])
 a:S[A]?=some (.lst xs)
 b:S[B]?=some (.lst ys)
 ab:A≠B
 ka:K≠A
 kb:K≠B
def FrO (F:List (Nat×Ob))(k:Nat)(S:List Ob):Prop:=∀p∈F,p.1≠k/\S[p.1]?=some p.2
theorem FrO.set {F:List (Nat×Ob)}{k:Nat}{S:List Ob}{o:Ob}(h:FrO F k S):FrO F k (S.set k o):=λp hp=>⟨(h p hp).1,by rw [ud7 (Ne.symm (h p hp).1)];exact (h p hp).2⟩
def FAll (F:List (Nat×Ob))(S:List Ob):Prop:=∀p∈F,S[p.1]?=some p.2
variable {F:List (Nat×Ob)}{ex:List Ob}
theorem FAll.app (h:FAll F S):FAll F (S++ex):=λp hp=>by rw [ub2 (ub1.mp (h p hp)).1];exact h p hp
theorem FrO.all {k:Nat}(h:FrO F k S):FAll F S:=λp hp=>(h p hp).2
theorem FrO.new {x:Ob}(h:FAll F S):FrO F S.length (S++[x]):=λp hp=>⟨um3 (ub1.mp (h p hp)).1,FAll.app h p hp⟩
def Lv (F:List (Nat×Ob))(k r:Nat)(S:List Ob):Prop:=Room k r S/\FrO F k S
def FW (F:List (Nat×Ob))(f:Fn):Prop:=∀(k r:Nat) (S:List Ob) (m:Int),0 < m->m < 4611686018427387904->Lv F k (r + 1) S->Wf f [.obj k,.int m] S λv S'=>(∃i,v = .int i/\0<=i/\i < m)/\Lv F k r S'
theorem YJ:FW F (fnOf 2 3 Ee):=by
 intro k n S m hm0 hm1 ⟨⟨a,c,b,hS,c0,c1⟩,fr⟩;refine Ax rfl ?_;unfold Ee;right;refine Br hS Oj ?_;right;refine Br hS TJ ?_;right;refine CD (λz=>?_) λz=>?_
 ·right;refine UQ hm0 (by lia) ?_;refine CI ?_;right;refine B3 hS (by show 3 < 100000;decide) ?_;rw [Ks];right;refine Ul hm0 ?_;exact ⟨⟨_,rfl,uk4 _ (by lia),uf6 _ hm0⟩,⟨_,_,_,AT hS,c0,by lia⟩,fr.set⟩
 ·right;refine Br hS Nh ?_;right;refine CI ?_;right;refine B3 hS (by show 3 < 100000;decide) ?_;rw [TM];have g1:(S.set k (.dct (BN (.int a) (.bl b) (.int (c + 1)))))[k]?=some (.dct (BN (.int a) (.bl b) (.int (c + 1)))):=AT hS;have fr1:FrO F k (S.set k (.dct (BN (.int a) (.bl b) (.int (c + 1))))):=fr.set;refine BW ?_
  change W _ ⟨[some (.val (.obj k)),some (.val (.int m)),some (.val (.int a))],S.set k (.dct (BN (.int a) (.bl b) (.int (c + 1))))⟩ _
  generalize S.set k (.dct (BN (.int a) (.bl b) (.int (c + 1))))=S1 at g1 fr1 ⊢;right;have a0:=uk4 a (b:=1000000000163) (by decide);have a1:=uf6 a (b:=1000000000163) (by decide);generalize a % 1000000000163=x at a0 a1;refine Br g1 Nh ?_;obtain ⟨s,es⟩:∃s,s=c + 1:=⟨_,rfl⟩;rw [<-es];rw [<-es] at g1;have s0:0<=s:=by lia
  have s1:s<=1000000000000000000000000000000:=by lia
  refine PJ (by decide) (JC s0 (by lia)) ?_;right;refine PJ (JC (by lia) (by lia)) (JC (by lia) (by lia)) ?_;right;have b0:=uk4 ((x + 70001 * s) * (x + 70001 * s + 29)) (b:=1000000000193) (by decide);have b1:=uf6 ((x + 70001 * s) * (x + 70001 * s + 29)) (b:=1000000000193) (by decide);generalize (x + 70001 * s) * (x + 70001 * s + 29) % 1000000000193=y at b0 b1;refine PJ (JC (by lia) (by lia)) (JC (by lia) (by lia)) ?_;right;refine CI ?_;right;refine B3 g1 (by show 3 < 100000;decide) ?_;rw [Ks];right;refine UQ (by decide) (by decide) ?_;right;refine Ul hm0 ?_;exact ⟨⟨_,rfl,uk4 _ (by lia),uf6 _ hm0⟩,⟨_,_,_,AT g1,by lia,by lia⟩,fr1.set⟩
structure ValF (F:List (Nat×Ob))(k r:Nat)(s:Sh)(c:Nat)(v:D)(S':List Ob):Prop where
 fit:Ao s v=true
 len:(AL s v).length<=c
 pool:Lv F k r S'
noncomputable def GS.sd:GS->Str
 | .fin=>Str.ofString "end"
 | .st s _=>s
inductive Odd (x:GS):D->Prop
 | non:Odd x .non
 | lst {ds:List D}:Odd x (.lst ds)
 | two {a b:D}:Odd x (.tup [a,b])
 | four {a b c d:D}:Odd x (.tup [a,b,c,d])
 | sideN {b c:D}:Odd x (.tup [.non,b,c])
 | side {s:Str} {b c:D}:¬s=x.sd->Odd x (.tup [.str s,b,c])
 | nmN {s:Str} {c:D}:Odd x (.tup [.str s,.non,c])
 | nmI {s:Str} {i:Int} {c:D}:Odd x (.tup [.str s,.int i,c])
 | nm {s nm:Str} {c:D}:(x.ws.findIdx? λw=>w.1 == nm)=none->Odd x (.tup [.str s,.str nm,c])
 | val {s nm:Str} {c:D} {p:Nat} {w:Str×Sh×Int}:(x.ws.findIdx? λw=>w.1 == nm)=some p->x.ws[p]?=some w->okD c=true->Ao w.2.1 c=false->Odd x (.tup [.str s,.str nm,c])
def Rq (n:Nat)(d:D):Prop:=∀m,n<=m->eqN m d d=some true
theorem Nt:Rq n (.int i):=λm _=>by cases m <;> (show some (i == i)=some true;rw [ui6])
theorem Rv {i:Str}:Rq n (.str i):=λm _=>by cases m <;> (show some (i == i)=some true;rw [ui6])
theorem Ru:Rq n .non:=λm _=>by cases m <;> rfl
theorem YX (h:∀x∈xs,Rq n x):Rq (n + 1) (.tup xs):=λm hm=>by
 obtain ⟨k,rfl⟩:∃k,m=k + 1:=Nat.exists_eq_add_of_le' (by lia);have e:Di (eqN k) xs xs=some true:=GQ λx hx=>h x hx k (by lia);rw [eqN,e];simp
theorem Rt (h:∀x∈xs,Rq n x):Rq (n + 1) (.lst xs):=λm hm=>by
 obtain ⟨k,rfl⟩:∃k,m=k + 1:=Nat.exists_eq_add_of_le' (by lia);rw [eqN,if_pos rfl];exact GQ λx hx=>h x hx k (by lia)
def mB:Nat->Nat
 | 0=>0
 | m + 1=>10 + vB m * 2 + mB m * 2
structure Mis (n:Nat)(s:Sh)(v:D):Prop where
 ok:okD v=true
 no:Ao s v=false
 rq:Rq n v
structure Fit (n:Nat)(s:Sh)(v:D):Prop where
 ok:okD v=true
 fit:Ao s v=true
 rq:Rq n v
def Gr (S S':List Ob):Prop:=S.length<=S'.length/\∀i,i < S.length->S'[i]?=S[i]?
theorem Gr.refl:Gr S S:=⟨un5 _,λ_ _=>rfl⟩
theorem Gr.trans {S S1 S2:List Ob}(a:Gr S S1)(b:Gr S1 S2):Gr S S2:=⟨um4 a.1 b.1,λi h=>(b.2 i (ue8 h a.1)).trans (a.2 i h)⟩
theorem Gr.app:Gr S (S++ex):=⟨by rw [uf3];lia,λi h=>ub2 h⟩
theorem Gr.set {S S':List Ob}{k:Nat}{o:Ob}(a:Gr S S')(h:S.length<=k):Gr S (S'.set k o):=⟨by rw [uk5];exact a.1,λi hi=>by rw [ud7 (by lia)];exact a.2 i hi⟩
theorem Gr.get {S S':List Ob}{k:Nat}{o:Ob}(a:Gr S S')(h:S[k]?=some o):S'[k]?=some o:=by rw [a.2 k (ub1.mp h).1];exact h
abbrev lr (a b:D):List (Key×D):=[(kL,a),(kRt,b)]
abbrev dW (l r:List Nat):List (Key×D):=lr (.lst (wD l)) (.lst (wD r))
abbrev dP (a b:Nat):List (Key×D):=lr (.int a) (.int b)
noncomputable def onS {α:Type}(s:Str)(a b:α):α:=if s=sL then a else b
variable {s:Str}
theorem BO {a b:D}(h:s=sL\/s=sR):A6 (lr a b) (.inr s)=some (onS s a b):=by
 unfold onS;rcases h with rfl | rfl
 ·rw [if_pos rfl];exact Ko
 ·rw [if_neg (Ne.symm sLR)];exact Kq
theorem JA {a b d:D}(h:s=sL\/s=sR):Bp (lr a b) (.inr s) d=lr (onS s d a) (onS s b d):=by
 unfold onS;rcases h with rfl | rfl
 ·rw [if_pos rfl,if_pos rfl];exact VA
 ·rw [if_neg (Ne.symm sLR),if_neg (Ne.symm sLR)];exact VB
inductive Sr where
 | stop
 | brk (k:Nat) (s:Str)
 | next (m:D) (h a b:Nat)
def msgR (side:Str)(ws:List (Str×Sh×Int))(w:List Nat)(p:Nat):RR×Nat:=match w[p]? with
 | none=>(.short,0)
 | some c=>match ws[c]? with
   | none=>(.broken p,0)
   | some wd=>((pSh 3 wd.2.1).run w (p + 1),c)
def Cy (g:List GS)(wl wr:List Nat)(h a b:Nat):Sr:=match AX g h with
 | .fin=>.stop
 | .st side ws=>match msgR side ws (onS side wl wr) (onS side a b) with
   | (.short,_)=>.stop
   | (.broken k,_)=>.brk k side
   | (.told v e,c)=>.next (.tup [.str side,.str (ws.getD c (Str.ofString "",.nothing,0)).1,v]) (ws.getD c (Str.ofString "",.nothing,0)).2.2.toNat (onS side e a) (onS side b e)
abbrev Rs:=List D×Nat×Nat×Nat×Option (Nat×Str)
def walkR (g:List GS)(wl wr:List Nat):Nat->Nat->Nat->Nat->List D->Rs
 | 0,h,a,b,t=>(t,h,a,b,none)
 | f + 1,h,a,b,t=>match Cy g wl wr h a b with
   | .stop=>(t,h,a,b,none)
   | .brk k s=>(t,h,a,b,some (k,s))
   | .next m h' a' b'=>walkR g wl wr f h' a' b' (t++[m])
structure Pl (g:List GS)(wl wr:List Nat)(h a b:Nat):Prop where
 h:h < g.length
 a:a<=wl.length
 b:b<=wr.length
variable {wl wr:List Nat}
theorem Yj (ha:a<=wl.length)(hb:b<=wr.length):onS s a b<=(onS s wl wr).length:=by unfold onS;split <;> assumption
variable {h:Nat}
theorem Ho (hg:GOk g)(p:Pl g wl wr h a b){m:D}{h' a' b':Nat}(e:Cy g wl wr h a b = .next m h' a' b'):Pl g wl wr h' a' b'/\a + b < a' + b':=by
 have hgs:=Et hg p.h;unfold Cy at e
 cases eg:AX g h with
 | fin=>rw [eg] at e;cases e
 | st side ws=>
   rw [eg] at e hgs
   cases hgs with
   | @st _ _ hs1 hs2 hs3 hs4 hs5=>
   dsimp only at e;unfold msgR at e
   cases hb:(onS side wl wr)[onS side a b]? with
   | none=>rw [hb] at e;cases e
   | some c=>
     rw [hb] at e;dsimp only at e
     cases hw:ws[c]? with
     | none=>rw [hw] at e;cases e
     | some wd=>
       rw [hw] at e;dsimp only at e;obtain ⟨hpl,_⟩:=ub1.mp hb;have hwo:=hs5 wd (ud8 hw);have hlo:=hwo.lo;have hhi:=hwo.hi;have hgd:ws.getD c (Str.ofString "",.nothing,0)=wd:=by rw [ub0,hw];rfl
       cases er:(pSh 3 wd.2.1).run (onS side wl wr) (onS side a b + 1) with
       | short=>rw [er] at e;cases e
       | broken k=>rw [er] at e;cases e
       | told v x=>
         rw [er] at e;dsimp only at e;rw [hgd] at e;injection e with e1 e2 e3 e4
         obtain ⟨l1,l2⟩:=Ga _ _ hpl er;have pa:=p.a;have pb:=p.b;subst e2;unfold onS at e3 e4 l1 l2
         by_cases q:side=sL
         ·rw [if_pos q] at e3 e4 l1 l2;exact ⟨⟨by lia,by lia,by lia⟩,by lia⟩
         ·rw [if_neg q] at e3 e4 l1 l2;exact ⟨⟨by lia,by lia,by lia⟩,by lia⟩
theorem Zn {neg:Bool}(e:t.S[n]?=some (.dct kvs))(h:P (.bl (if neg then !(A6 kvs (.inr x)).isSome else (A6 kvs (.inr x)).isSome)) t):W (inS neg (.str x) (.obj n)) t P:=
 ⟨_,_,by simp only [inS,e],h⟩
theorem Zh (e:t.S[n]?=some (.dct kvs))(h:P (.obj t.S.length) ⟨t.env,t.S++[.dct kvs]⟩):W (Hz [.obj n]) t P:=
 ⟨_,_,by simp only [Hz,e],h⟩
theorem Sv {a b:D}:A6 (lr a b) (.inr (Str.ofString "end"))=none:=by
 have h1:decide (kL=(Sum.inr (Str.ofString "end"):Key))=false:=by decide +kernel
 have h2:decide (kRt=(Sum.inr (Str.ofString "end"):Key))=false:=by decide +kernel
 unfold A6;rw [uj6,show decide ((kL,a).1=(Sum.inr (Str.ofString "end"):Key))=false from h1];dsimp only;rw [uj6,show decide ((kRt,b).1=(Sum.inr (Str.ofString "end"):Key))=false from h2];rfl
theorem U1 {l:List α}{d:α}{r:List α}(e:d :: r=l.drop j):l[j]?=some d/\r=l.drop (j + 1):=by
 constructor
 ·have:=congrArg (λx=>x[0]?) e;simp only [List.getElem?_cons_zero,List.getElem?_drop,um9] at this;exact this.symm
 ·have:=congrArg List.tail e;rw [List.tail_drop] at this;exact this
def isB (l:List D):Prop:=∀d∈l,∃x:Nat,d = .int (x:Int)/\x < 256
theorem QK:∀{l:List D},isB l->∃w:List Nat,l=wD w/\∀x∈w,x < 256
 | [],_=>⟨[],rfl,λx z=>nomatch z⟩
 | d :: r,h=>by
   obtain ⟨x,rfl,hx⟩:=h d ue9;obtain ⟨w,rfl,hw⟩:=QK λd m=>h d (ud5 _ m);refine ⟨x :: w,rfl,λy hy=>?_⟩;rcases ul3.mp hy with rfl | hy
   ·exact hx
   ·exact hw y hy
theorem N7 {a b:List D}(ha:isB a)(hb:isB b):isB (a++b):=λd h=>(ui8.mp h).elim (ha d) (hb d)
theorem Gs {x:Nat}{b:List D}(hx:x < 256)(hb:isB b):isB (.int (x:Int) :: b):=λd h=>by
 rcases ul3.mp h with rfl | h
 ·exact ⟨x,rfl,hx⟩
 ·exact hb d h
theorem Q3:∀(w n:Nat),isB (nb w n)
 | 0,n=>λd h=>nomatch h
 | w + 1,n=>N7 (Q3 w _) (Gs (Nat.mod_lt _ (by decide)) λd h=>nomatch h)
theorem Fd:∀(n:Nat) (s:Sh),s.depth<=n->wf s=true->∀v,Ao s v=true->isB (AL s v)
 | 0,s,h,_,_,_=>absurd s.depth_pos (by lia)
 | n + 1,s,hs,hw,v,hf=>by
   cases s with
   | nothing=>rw [AL];exact λd h=>nomatch h
   | number lo hi=>
     cases v <;> simp [Ao] at hf
     rw [AL];exact Q3 _ _
   | text q=>
     simp only [wf,uh6,ug9] at hw
     cases v <;> simp only [Ao,uf4] at hf
     rename_i x;simp only [uh6,ug9,ui0] at hf;rw [AL];refine Gs (by lia) λd h=>?_;obtain ⟨c,hc,rfl⟩:=un1.mp h;have:=hf.2 c hc;simp only [BD,uh6,ug9] at this;exact ⟨c,rfl,by lia⟩
   | list s q=>
     simp only [wf,uh6,ug9] at hw;rw [Sh.depth] at hs
     cases v <;> simp only [Ao,uf4] at hf
     rename_i ds;simp only [uh6,ug9,ui0] at hf;rw [AL];refine Gs (by lia) λd h=>?_;obtain ⟨l,hl,hd⟩:=List.mem_flatten.mp h;obtain ⟨e,he,rfl⟩:=un1.mp hl;exact Fd n s (by lia) hw.2 e (hf.2 e he) d hd
   | pair s r=>
     simp only [wf,uh6] at hw;rw [Sh.depth] at hs;unfold Ao at hf
     split at hf
     ·rw [uh6] at hf;rw [AL];exact N7 (Fd n s (by lia) hw.1 _ hf.1) (Fd n r (by lia) hw.2 _ hf.2)
     ·cases hf
   | choice ss=>
     simp only [wf,uh6,ug9] at hw;rw [Sh.depth] at hs;unfold Ao at hf
     split at hf
     ·next o k x=>
      simp only [uh6,ug9] at hf;obtain ⟨j,rfl⟩:=ub9 hf.1.2.1;have hj:j < ss.length:=by have:=hf.1.2.2;lia
      have e1:ss[j]?=some ss[j]:=ub5 hj;have h2:=hf.2;rw [ug8,CJ ss _ _ _ e1] at h2;rw [AL,ug8,EK ss _ _ _ e1];exact Gs (by lia) (Fd n _ (um4 (CK ss _ _ e1) (by lia)) (D1 hw.2 _ (ui2 hj)) x h2)
     ·cases hf
theorem cq {g:M (List D)}(h:W f t λo t1=>W g t1 λas t2=>∃ds y j,o = .lst ds/\as=[y]/\(Gk y=true/\ds.all Gk=true)/\MG (toV y) (ds.map toV)=some j/\P (.int (j:Nat)) t2):W (idxM f g) t P:=by
 obtain ⟨o,t1,e1,as,t2,e2,ds,y,j,rfl,rfl,hf,hj,p⟩:=h;refine ⟨_,_,?_,p⟩;simp only [idxM,bnd,e1,e2,if_pos hf,hj]
theorem QH {ws:List (Str×Sh×Int)}(nd:(ws.map (·.1)).Nodup){p:Nat}{w:Str×Sh×Int}(e:ws[p]?=some w):MG (toV (.str w.1)) ((ws.map λw=>D.str w.1).map toV)=some p:=by
 unfold MG;rw [un2,List.findIdx?_map];rw [<-OY nd e]
 congr 1
theorem OZ {ws:List (Str×Sh×Int)}:(ws.map λw=>D.str w.1).all Gk=true:=by
 rw [List.all_map,ui0];intro w _;rfl
theorem OJ {l:List α}{ι f:α->D}{fr:List (Option Sl)}{z:Option Sl}(h:∀a∈l,W elt ⟨some (.val (ι a)) :: fr,S⟩ λx t'=>x=f a/\t'=⟨some (.val (ι a)) :: fr,S⟩) :
 W (B4 (AQ 0) DV elt (l.map ι)) ⟨z :: fr,S⟩ λxs t'=>xs=l.map f/\t'.S=S:=by
 induction l generalizing z with
 | nil=>exact W_compL_nil.mpr ⟨rfl,rfl⟩
 | cons a r ih=>
   rw [ul4,D3];refine FC (KF ?_);rw [if_pos rfl];refine (h a ue9).mono λx t' z9=>?_;obtain ⟨e1,e2⟩:=z9;subst e1 e2;refine (ih (z:=some (.val (ι a))) λb hb=>h b (ud5 _ hb)).mono λxs t' z9=>?_;obtain ⟨e1,e2⟩:=z9;subst e1;exact ⟨rfl,e2⟩
def aS (w:List Nat):Prop:=∀x∈w,x < 256
def VBF (f:Fn):Prop:=∀(s:Sh),s.depth<=3->wf s=true->∀d,Ao s d=true->(AL s d).length<=400->Pure1 f [s.d,d] (.lst (AL s d))
variable {cf:Fn}
theorem Ze (hc:Hv c 3)(hf:FU cf 3):VBF (fnOf 2 2 (DU c cf)):=by
 intro s hs hwf d h hlen S;have hd:okD d=true:=Fj 3 s hs hwf d h;refine Ax rfl ?_;unfold DU;left;refine (hf s hs d hd).use ?_;rw [h];left;refine Gb ?_;left;exact (hc s hs hwf d h (um4 hlen (by decide))).use ⟨_,rfl,rfl,rfl,rfl⟩
theorem t9s {e6:Option Sl}{x:D}(h1:X=Y)(h2:x=y):(⟨[a0,a1,some (.own X),some (.val x),e4,e5,e6,e7,e8],S⟩:T)=⟨[a0,a1,some (.own Y),some (.val y),e4,e5,e6,e7,e8],S⟩:=by subst h1 h2;rfl
structure Mvs (g:List GS)(wl wr:List Nat)(mv:List Mv)(h a b:Nat)(t:List D):Prop where
 t:t=AE g 0 mv
 ok:okQ g 0 mv
 h:lastQ g 0 mv=h
 a:An g sL 0 mv=wD (wl.take a)
 b:An g sR 0 mv=wD (wr.take b)
theorem EE {side:Str}(h:side=sL\/side=sR):(side=sL/\¬side=sR)\/(¬side=sL/\side=sR):=by
 rcases h with rfl | rfl
 ·exact .inl ⟨rfl,sLR⟩
 ·exact .inr ⟨Ne.symm sLR,rfl⟩
def Agr (c:Nat)(w w2:List Nat):Prop:=∀i,i < c->w2[i]?=w[i]?
theorem Tc {w2:List Nat}{c:Nat}(hw:Agr c w w2):∀(p:Rd) (a:Nat),p.run w a = .told v b->b<=c->p.run w2 a = .told v b:=by
 intro p
 induction p with
 | done v'=>intro a h _;exact h
 | need ok nx ih=>
   intro a h hb
   cases e:w[a]? with
   | none=>rw [BC e] at h;cases h
   | some x=>
     rw [A5 e] at h;have hl:=(ub1.mp e).1
     by_cases q:ok x=true
     ·rw [if_pos q] at h;have hlt:a < c:=by have:=(Ga _ (a + 1) hl h).1;lia
      rw [A5 ((hw a hlt).trans e),if_pos q];exact ih x (a + 1) h hb
     ·rw [if_neg q] at h;cases h
theorem QY {side:Str}{ws:List (Str×Sh×Int)}{w2:List Nat}{c e x:Nat}(hw:Agr c w w2)(h:msgR side ws w p=(.told v e,x))(he:e<=c):msgR side ws w2 p=(.told v e,x):=by
 unfold msgR at h ⊢
 cases hb:w[p]? with
 | none=>rw [hb] at h;cases h
 | some y=>
   rw [hb] at h;dsimp only at h;obtain ⟨hpl,_⟩:=ub1.mp hb
   cases hws:ws[y]? with
   | none=>rw [hws] at h;cases h
   | some wd=>
     rw [hws] at h;injection h with h1 h2
     have hlt:p < c:=by have:=(Ga _ _ hpl h1).1;lia
     rw [(hw p hlt).trans hb];dsimp only;rw [hws];dsimp only;rw [Tc hw _ _ h1 he,h2]
variable {vl vr:List Nat}
theorem VO {side:Str}(h1:Agr a wl vl)(h2:Agr b wr vr):Agr (onS side a b) (onS side wl wr) (onS side vl vr):=by unfold onS;split <;> assumption
theorem RJ {ca cb:Nat}(hl:Agr ca vl wl)(hr:Agr cb vr wr){m:D}{h' a' b':Nat}(e:Cy g vl vr h a b = .next m h' a' b')(ha:a'<=ca)(hb:b'<=cb):Cy g wl wr h a b = .next m h' a' b':=by
 unfold Cy at e ⊢
 cases eg:AX g h with
 | fin=>rw [eg] at e;cases e
 | st side ws=>
   rw [eg] at e;dsimp only at e ⊢;generalize hm:msgR side ws (onS side vl vr) (onS side a b)=r at e;obtain ⟨r0,c⟩:=r
   cases r0 with
   | short=>cases e
   | broken k'=>cases e
   | told v x=>
     have hx:x<=onS side ca cb:=by
      injection e with e1 e2 e3 e4
      unfold onS at e3 e4 ⊢
      split at e3
      ·next q=>rw [if_pos q] at e4 ⊢;lia
      ·next q=>rw [if_neg q] at e4 ⊢;lia
     rw [QY (VO hl hr) hm hx];exact e
theorem Q2 {g:List GS}(hg:GOk g):∀(q:Nat) (mv:List Mv),okQ g q mv->mv.length<=(An g sL q mv).length + (An g sR q mv).length
 | q,[],_=>un6 _
 | q,(p,v) :: r,h=>by
   rw [okQ] at h;have ih:=Q2 hg _ r h.2;rw [An,An,uf3,uf3,uh2];rcases H9 hg h.1 with e | e
   ·rw [if_pos e,uh2];lia
   ·rw [if_pos (show (AX g q).side=sR from e),uh2];lia
def At (w:List Nat)(a:Nat)(xs:List D):Prop:=∃p q,wD w=p++(xs++q)/\p.length=a
theorem At.left (h:At w a (xs++ys)):At w a xs:=by
 obtain ⟨p,q,e,l⟩:=h;exact ⟨p,ys++q,by rw [e,ug4],l⟩
theorem At.right (h:At w a (xs++ys)):At w (a + xs.length) ys:=by
 obtain ⟨p,q,e,l⟩:=h;exact ⟨p++xs,q,by rw [e,ug4,ug4],by rw [uf3,l]⟩
theorem At.head {c:Nat}(h:At w a (.int (c:Int) :: xs)):w[a]?=some c/\At w (a + 1) xs:=by
 refine ⟨?_,At.right (xs:=[.int (c:Int)]) h⟩;obtain ⟨p,q,e,l⟩:=h;have e1:(wD w)[a]?=some (.int (c:Int)):=by rw [e,ua7 (by lia),l,un3];rfl
 unfold wD at e1;rw [ug2] at e1
 cases e2:w[a]? with
 | none=>rw [e2] at e1;cases e1
 | some x=>
   rw [e2] at e1;injection e1 with e1
   injection e1 with e1
   rw [show x=c by lia]
theorem M7 {lo:Int}{M:Nat}{w:List Nat}:∀(r x y a:Nat),y / 256 ^ r=x->y<=M->At w a (nb r y)->(EB lo M r x).run w a = .told (.int (lo + y)) (a + r)
 | 0,x,y,a,hx,hy,h=>by
   rw [Nat.pow_zero,Nat.div_one] at hx;subst hx;rfl
 | r + 1,x,y,a,hx,hy,h=>by
   rw [Oc] at h;obtain ⟨h1,h2⟩:=h.head;have e:x * 256 + y / 256 ^ r % 256=y / 256 ^ r:=by
    rw [<-hx,un0,<-uc6];lia
   rw [EB,A5 h1,if_pos (ul1 (by rw [e,Nat.pow_mul];exact Nat.div_le_div_right hy)),M7 r _ y (a + 1) e.symm hy h2]
   congr 1
   lia
theorem Nx {w:List Nat}:∀(xs cs:List Nat) (a:Nat),(∀c∈xs,BD c=true)->At w a (xs.map λ(n:Nat)=>D.int (n:Int))->(Ft xs.length cs).run w a = .told (.str ⟨(cs++xs).toArray⟩) (a + xs.length)
 | [],cs,a,_,_=>by rw [uj2];rfl
 | x :: r,cs,a,hs,h=>by
   obtain ⟨h1,h2⟩:=At.head h;rw [uh2,Ft,A5 h1,if_pos (hs x ue9),Nx r (cs++[x]) (a + 1) (λc hc=>hs c (ud5 _ hc)) h2,ug4]
   congr 1
   lia
theorem MP {w:List Nat}{s:Sh}{p:Rd}(hp:∀(v:D) (a:Nat),Ao s v=true->At w a (AL s v)->p.run w a = .told v (a + (AL s v).length)):∀(es ds:List D) (a:Nat),(∀e∈es,Ao s e=true)->At w a (es.map λd=>AL s d).flatten->(Gx p es.length ds).run w a = .told (.lst (ds++es)) (a + ((es.map λd=>AL s d).flatten).length)
 | [],ds,a,_,_=>by rw [uj2];rfl
 | e :: r,ds,a,hf,h=>by
   rw [ul4,ug3] at h;rw [uh2,Gx,DZ,hp e a (hf e ue9) h.left,RR.thn,MP hp r (ds++[e]) _ (λx hx=>hf x (ud5 _ hx)) h.right,ug4,ul4,ug3,uf3]
   congr 1
   lia
theorem R8:∀(k n:Nat),wid n<=k->n < 256 ^ k
 | 0,n,h=>by
   by_cases z:n=0
   ·subst z;decide
   ·rw [IX (by lia)] at h;lia
 | k + 1,n,h=>by
   by_cases z:n=0
   ·subst z;exact Nat.pow_pos (by decide)
   ·rw [IX (by lia)] at h;have:=R8 k (n / 256) (by lia);rw [Nat.div_lt_iff_lt_mul (by decide)] at this;rw [un0];exact this
theorem Vw {o:Str}(h:GW o=true):o=Str.ofString "of":=by
 unfold GW at h;simpa using h
theorem back:∀(n:Nat) (s:Sh),s.depth<=n->wf s=true->∀(w:List Nat) (v:D) (a:Nat),Ao s v=true->At w a (AL s v)->(pSh n s).run w a = .told v (a + (AL s v).length)
 | 0,s,hs,_,_,_,_,_,_=>absurd s.depth_pos (by lia)
 | n + 1,s,hs,hwf,w,v,a,hf,h=>by
   cases s with
   | nothing=>
     have:v = .non:=by cases v <;> simp [Ao,HH] at hf <;> rfl
     subst this;rfl
   | number lo hi=>
     simp only [wf,uh6,ug9] at hwf
     cases v with
     | int i=>
       simp only [Ao,uh6,ug9] at hf;rw [AL] at h ⊢;rw [pSh,M7 (wid (hi - lo).toNat) 0 (i - lo).toNat a ?_ (by lia) h,M6]
       ·congr 2;lia
       ·exact Nat.div_eq_of_lt (Nat.lt_of_le_of_lt (show (i - lo).toNat<=(hi - lo).toNat by lia) (R8 _ _ (un5 _)))
     | _=>simp [Ao] at hf
   | text q=>
     cases v with
     | str x=>
       simp only [Ao,uh6,ug9,ui0] at hf;rw [AL] at h ⊢;obtain ⟨h1,h2⟩:=At.head h;rw [pSh,A5 h1,if_pos (ul1 hf.1)];have hl:x.length=x.cps.toList.length:=rfl;rw [hl,Nx x.cps.toList [] (a + 1) hf.2 h2,uk3,uh2,uj0]
       congr 1
       lia
     | _=>simp [Ao] at hf
   | list s q=>
     simp only [wf,uh6,ug9] at hwf;rw [Sh.depth] at hs
     cases v with
     | lst ds=>
       rw [Ao,uh6,ug9,ui0] at hf;rw [AL] at h ⊢;obtain ⟨h1,h2⟩:=At.head h;rw [pSh,A5 h1,if_pos (ul1 hf.1),MP (λv a=>back n s (by lia) hwf.2 w v a) ds [] (a + 1) hf.2 h2,uk3,uh2]
       congr 1
       lia
     | _=>simp [Ao] at hf
   | pair s r=>
     simp only [wf,uh6] at hwf;rw [Sh.depth] at hs;unfold Ao at hf
     split at hf
     ·rw [uh6] at hf;rw [AL] at h ⊢;rw [pSh,DZ,back n s (by lia) hwf.1 w _ a hf.1 h.left,RR.thn,DZ,back n r (by lia) hwf.2 w _ _ hf.2 h.right,RR.thn,Rd.run,uf3,ul9]
     ·cases hf
   | choice ss=>
     simp only [wf,uh6,ug9] at hwf;rw [Sh.depth] at hs;unfold Ao at hf
     split at hf
     ·next o k x=>
      simp only [uh6,ug9] at hf;obtain ⟨j,rfl⟩:=ub9 hf.1.2.1;have hj:j < ss.length:=by have:=hf.1.2.2;lia
      have e1:ss[j]?=some ss[j]:=ub5 hj;have h2:=hf.2;rw [ug8,CJ ss _ _ _ e1] at h2;rw [AL,ug8,EK ss _ _ _ e1] at h ⊢;obtain ⟨h3,h4⟩:=At.head h;have ho:o=Str.ofString "of":=Vw hf.1.1;subst ho;rw [pSh,A5 h3,if_pos (ul1 hj),ub0,e1,Option.getD_some,DZ,back n _ (um4 (CK ss _ _ e1) (by lia)) (D1 hwf.2 _ (ui2 hj)) w x (a + 1) h2 h4,RR.thn,Rd.run,uh2]
      congr 1
      lia
     ·cases hf
theorem Ue {c:Nat}:∀(p:Rd) (a:Nat),p.run w a = .told v b->a<=c->c < b->p.run (w.take c) a = .short:=by
 intro p
 induction p with
 | done v'=>intro a h h1 h2;rw [Rd.run] at h;cases h;lia
 | need ok nx ih=>
   intro a h h1 h2
   cases e:w[a]? with
   | none=>rw [BC e] at h;cases h
   | some x=>
     rw [A5 e] at h
     by_cases q:ok x=true
     ·rw [if_pos q] at h
      by_cases hac:a < c
      ·rw [A5 (b:=x) (by rw [uf7,if_pos hac];exact e),if_pos q];exact ih x (a + 1) h hac h2
      ·exact BC (by rw [uf7,if_neg hac])
     ·rw [if_neg q] at h;cases h
theorem RD (hg:GOk g){q p a b:Nat}{v:D}(hm:MvOk g q p v)(ha:At wl a (if (AX g q).side=sL then .int (p:Int) :: AL (wdAt g q p).2.1 v else []))(hb:At wr b (if (AX g q).side=sR then .int (p:Int) :: AL (wdAt g q p).2.1 v else [])) :
 Cy g wl wr q a b = .next (EZ g q p v) (Cr g q p) (a + (if (AX g q).side=sL then D.int (p:Int) :: AL (wdAt g q p).2.1 v else []).length) (b + (if (AX g q).side=sR then D.int (p:Int) :: AL (wdAt g q p).2.1 v else []).length):=by
 have hw:=Ih hg hm.lt hm.pl;have hsd:=H9 hg hm;have hfit:=hm.fit;obtain ⟨side,ws,e,hpl,ew⟩:=Ia hm.pl;have es:(AX g q).side=side:=by rw [e];rfl
 have hgd:ws.getD p (Str.ofString "",.nothing,0)=wdAt g q p:=by rw [ub0,ew];rfl
 rw [es] at ha hb hsd;have key:∀(w:List Nat) (c:Nat),At w c (.int (p:Int) :: AL (wdAt g q p).2.1 v)->msgR side ws w c=(.told v (c + (AL (wdAt g q p).2.1 v).length + 1),p):=λw c h=>by
  obtain ⟨h1,h2⟩:=At.head h;unfold msgR;rw [h1];dsimp only;rw [ew];dsimp only;rw [back 3 _ hw.dep hw.ok w v (c + 1) hfit h2]
  congr 2
  lia
 unfold Cy;rw [e];dsimp only;unfold EZ Cr;rw [es];rcases EE hsd with ⟨q1,q2⟩ | ⟨q1,q2⟩
 ·rw [if_pos q1] at ha;unfold onS;simp only [if_pos q1,key wl a ha,hgd];rw [show (GS.st side ws).side=side from rfl,if_pos q1,if_neg q2,uh2,uj7];rfl
 ·rw [if_pos q2] at hb;unfold onS;simp only [if_neg q1,key wr b hb,hgd];rw [show (GS.st side ws).side=side from rfl,if_neg q1,if_pos q2,uh2,uj7];rfl
theorem La {g:List GS}{wl wr:List Nat}(hg:GOk g):∀(mv:List Mv) (q a b F:Nat) (t:List D),okQ g q mv->At wl a (An g sL q mv)->At wr b (An g sR q mv)->walkR g wl wr (F + mv.length) q a b t=walkR g wl wr F (lastQ g q mv) (a + (An g sL q mv).length) (b + (An g sR q mv).length) (t++AE g q mv)
 | [],q,a,b,F,t,_,_,_=>by rw [AE,uj2];rfl
 | (p,v) :: r,q,a,b,F,t,hk,ha,hb=>by
   rw [okQ] at hk;rw [An] at ha hb;rw [uh2,<-ul9,walkR,RD hg hk.1 ha.left hb.left];dsimp only;rw [La hg r _ _ _ F _ hk.2 ha.right hb.right,An,An,AE,lastQ,uf3,uf3,ug4,List.singleton_append,ul9,ul9]
theorem R3 {t:List D}(e:Cy g wl wr h a b = .stop):∀F,walkR g wl wr F h a b t=(t,h,a,b,none)
 | 0=>rfl
 | F + 1=>by unfold walkR;rw [e]
def Gw (S S':List Ob):Prop:=S.length<=S'.length/\∀i,i < S.length->S'[i]?=S[i]?
theorem Gw.refl:Gw S S:=⟨un5 _,λ_ _=>rfl⟩
theorem Gw.trans {S S1 S2:List Ob}(a:Gw S S1)(b:Gw S1 S2):Gw S S2:=⟨um4 a.1 b.1,λi h=>(b.2 i (ue8 h a.1)).trans (a.2 i h)⟩
theorem Gw.app:Gw S (S++ex):=⟨by rw [uf3];lia,λi h=>ub2 h⟩
theorem Gw.set {S S':List Ob}{k:Nat}{o:Ob}(a:Gw S S')(h:S.length<=k):Gw S (S'.set k o):=⟨by rw [uk5];exact a.1,λi hi=>by rw [ud7 (by lia)];exact a.2 i hi⟩
theorem Gw.get {S S':List Ob}{k:Nat}{o:Ob}(a:Gw S S')(h:S[k]?=some o):S'[k]?=some o:=by rw [a.2 k (ub1.mp h).1];exact h
theorem Xj {x:Ob}:(S++[x])[S.length]?=some x:=by simp
theorem PL {k:Nat}{h:List D->List D->Option (List D)}{g:M (List D)}(w:W f t λo t1=>o = .obj k/\∃xs0,t1.S[k]?=some (.lst xs0)/\W g t1 λds t2=>∃xs ys,t2.S[k]?=some (.lst xs)/\h xs ds=some ys/\P .non ⟨t2.env,t2.S.set k (.lst ys)⟩):W (objM h f g) t P:=by
 unfold objM;refine W_bnd.mpr (w.mono λo t1 z9=>?_);obtain ⟨e,xs0,e1,w⟩:=z9;subst e;obtain ⟨ds,t2,e2,xs,ys,e3,e4,p⟩:=w;refine ⟨_,_,?_,p⟩;simp only [e1,bnd,e2,e3,e4];rfl
mutual
inductive Ow (S:List Ob):D->D->List Nat->Prop
 | non:Ow S .non .non []
 | int (i:Int):Ow S (.int i) (.int i) []
 | str (x:Str):Ow S (.str x) (.str x) []
 | tup {ds vs:List D} {fp:List Nat}:Ows S ds vs fp->Ow S (.tup ds) (.tup vs) fp
 | obj {k:Nat} {ds vs:List D} {fp:List Nat}:S[k]?=some (.lst ds)->Ows S ds vs fp->k∉fp->Ow S (.obj k) (.lst vs) (k :: fp)
inductive Ows (S:List Ob):List D->List D->List Nat->Prop
 | nil:Ows S [] [] []
 | cons {d v:D} {fp fp':List Nat} {ds vs:List D}:Ow S d v fp->Ows S ds vs fp'->(∀k∈fp,k∉fp')->Ows S (d :: ds) (v :: vs) (fp++fp')
end
mutual
theorem Ow.mono {S S':List Ob}{d v:D}{fp:List Nat}(h:∀k∈fp,S'[k]?=S[k]?)(r:Ow S d v fp):Ow S' d v fp:=by
 cases r with
 | non=>exact .non
 | int i=>exact .int i
 | str x=>exact .str x
 | tup o=>exact .tup (Ows.mono h o)
 | obj e o n=>exact .obj ((h _ ue9).trans e) (Ows.mono (λk hk=>h k (ud5 _ hk)) o) n
theorem Ows.mono {S S':List Ob}{ds vs:List D}{fp:List Nat}(h:∀k∈fp,S'[k]?=S[k]?)(r:Ows S ds vs fp):Ows S' ds vs fp:=by
 cases r with
 | nil=>exact .nil
 | cons a b n=>exact .cons (Ow.mono (λk hk=>h k (ud6 _ hk)) a) (Ows.mono (λk hk=>h k (uc8 _ hk)) b) n
end
mutual
theorem Ow.lt {S:List Ob}{d v:D}{fp:List Nat}(r:Ow S d v fp):∀k∈fp,k < S.length:=by
 cases r with
 | tup o=>exact Ows.lt o
 | obj e o n=>exact λk h=>(ul3.mp h).elim (λz=>by rw [z];exact (ub1.mp e).1) (Ows.lt o k)
 | _=>exact λk h=>nomatch h
theorem Ows.lt {S:List Ob}{ds vs:List D}{fp:List Nat}(r:Ows S ds vs fp):∀k∈fp,k < S.length:=by
 cases r with
 | nil=>exact λk h=>nomatch h
 | cons a b n=>exact λk h=>(ui8.mp h).elim (Ow.lt a k) (Ows.lt b k)
end
theorem Ows.length {S:List Ob}{ds vs:List D}{fp:List Nat}(r:Ows S ds vs fp):ds.length=vs.length:=by
 cases r with
 | nil=>rfl
 | cons _ b _=>rw [uh2,uh2,Ows.length b]
theorem Ows.snoc {S:List Ob}{d v:D}{fp1:List Nat}(o:Ow S d v fp1){ds vs:List D}{fp:List Nat}(r:Ows S ds vs fp)(h:∀k∈fp,k∉fp1):Ows S (ds++[d]) (vs++[v]) (fp++fp1):=by
 cases r with
 | nil=>
   have:=Ows.cons o .nil (λ_ _ z=>nomatch z);rw [uj2] at this;exact this
 | cons a b n=>
   have:=Ows.cons a (Ows.snoc o b λk hk=>h k (uc8 _ hk)) (λk hk z=>(ui8.mp z).elim (n k hk) (h k (ud6 _ hk)));rw [<-ug4] at this;exact this
variable {S':List Ob}
theorem Ow.gr {d:D}{fp:List Nat}(o:Ow S d v fp)(g:Gw S S'):Ow S' d v fp:=o.mono λk hk=>g.2 k (o.lt k hk)
theorem Ows.gr {vs:List D}{fp:List Nat}(o:Ows S ds vs fp)(g:Gw S S'):Ows S' ds vs fp:=o.mono λk hk=>g.2 k (o.lt k hk)
def roO (S S':List Ob)(r:D):RR->Prop
 | .told v b=>∃d fp,r = .tup [d,.int (b:Int)]/\Ow S' d v fp/\∀k∈fp,S.length<=k
 | .short=>r=exS
 | .broken a=>r=exB a
theorem Od {lo:Int}{M:Nat}{w:List Nat}{v:D}{b:Nat}:∀(r x a:Nat),(EB lo M r x).run w a = .told v b->∃i,v = .int i
 | 0,x,a,h=>by rw [EB,Rd.run] at h;cases h;exact ⟨_,rfl⟩
 | r + 1,x,a,h=>by
   rw [EB] at h
   cases e:w[a]? with
   | none=>rw [BC e] at h;cases h
   | some c=>
     rw [A5 e] at h
     split at h
     ·exact Od r _ _ h
     ·cases h
theorem Oz {w:List Nat}{v:D}{b:Nat}:∀(r:Nat) (cs:List Nat) (a:Nat),(Ft r cs).run w a = .told v b->∃x,v = .str x
 | 0,cs,a,h=>by rw [Ft,Rd.run] at h;cases h;exact ⟨_,rfl⟩
 | r + 1,cs,a,h=>by
   rw [Ft] at h
   cases e:w[a]? with
   | none=>rw [BC e] at h;cases h
   | some c=>
     rw [A5 e] at h
     split at h
     ·exact Oz r _ _ h
     ·cases h
theorem Tn {M x:Nat}(e:(EB lo M r x).run w a = .told v b):Ow S v v []:=by
 obtain ⟨i,rfl⟩:=Od _ _ _ e;exact .int i
theorem RQ {q:Int}(e:(pSh (n + 1) (.text q)).run w a = .told v b):Ow S v v []:=by
 rw [pSh] at e
 cases e0:w[a]? with
 | none=>rw [BC e0] at e;cases e
 | some c=>
   rw [A5 e0] at e
   split at e
   ·obtain ⟨x,rfl⟩:=Oz _ _ _ e;exact .str x
   ·cases e
theorem PC {d:D}{m:String}(e:MJ d=false)(h:W (Dk [d,.ty m]) t P):W (Gu [d,.ty m]) t P:=by
 cases d <;> first | exact h | cases e
theorem R0 {k:Nat}{m:String}{b:Bool}(e:t.S[k]?=some (.lst ds))(h:Dc "list" m=some b)(q:P (.bl b) t):W (Gu [.obj k,.ty m]) t P:=⟨_,_,by simp only [Gu,e,h];rfl,q⟩
variable {tst:M Bool}
theorem Ii {g:Gd}{st:D->M Unit}{P:List D->T->Prop}(h:Gon g t.S)(q:P [] t):W (compG g st tst elt []) t P:=by
 unfold compG;exact W_bnd.mpr ⟨_,_,Qa h,W_ret.mpr q⟩
theorem Fc {g:Gd}{st:D->M Unit}{d:D}{r:List D}{P:List D->T->Prop}(h:Gon g t.S)(q:W (st d) t λ_ t1=>W tst t1 λk t2=>
 if k=true then W elt t2 λx t3=>W (compG g st tst elt r) t3 λxs t4=>P (x :: xs) t4 else W (compG g st tst elt r) t2 P):W (compG g st tst elt (d :: r)) t P:=by
 rw [compG];refine W_bnd.mpr ⟨_,_,Qa h,W_bnd.mpr (q.mono λ_ t1 q=>W_bnd.mpr (q.mono λk t2 q=>?_))⟩
 split
 ·next hk=>
  rw [if_pos hk] at q;exact W_bnd.mpr (q.mono λx t3 q=>W_bnd.mpr (q.mono λxs t4 q=>W_ret.mpr q))
 ·next hk=>
  rw [if_neg hk] at q;exact q
theorem NF {fr:List Nat}{f:M (Gd×List D)}{st:D->M Unit}{P:List D->T->Prop}(h:W f t λp t1=>W (compG p.1 st tst elt p.2) ⟨cenv n fr t1.env,t1.S⟩ λxs t2=>Gv xs.length (P xs { t1 with S:=t2.S })):W (Fh n fr f st tst elt) t P:=by
 refine W_bnd.mpr (h.mono λp t1 h=>?_);obtain ⟨xs,t2,e,l,q⟩:=h;refine ⟨xs,_,?_,q⟩;simp only [e,if_pos l]
theorem SU:Gon none S:=λ_ _ z=>nomatch z
theorem ME {k:Nat}(h:S[k]?=some (.lst xs)):Gon (some (k,xs)) S:=λ_ _ z=>by cases z;exact h
theorem Ows.at {S:List Ob}{ds vs:List D}{fp:List Nat}(r:Ows S ds vs fp)(i:Nat)(d v:D)(h1:ds[i]?=some d)(h2:vs[i]?=some v):∃f,Ow S d v f:=by
 cases r with
 | nil=>cases h1
 | cons a b n=>
   cases i with
   | zero=>cases h1;cases h2;exact ⟨_,a⟩
   | succ i=>exact Ows.at b i d v h1 h2
variable {Q:List D->T->Prop}
theorem PF {k:Nat}(e:t.S[k]?=some (.lst ds))(h:Q ds t):W (D9 [.obj k]) t Q:=⟨_,_,by simp only [D9,e],h⟩
def msO (S S':List Ob)(r:D)(side:Str)(ws:List (Str×Sh×Int)):RR×Nat->Prop
 | (.short,_)=>r = .non
 | (.broken k,_)=>r = .exc "Broken" [.int k,.str side]
 | (.told v e,c)=>∃d fp,r = .tup [.tup [.str side,.str (ws.getD c (Str.ofString "",.nothing,0)).1,d],.int (ws.getD c (Str.ofString "",.nothing,0)).2.2,.int e]/\Ow S' d v fp/\∀k∈fp,S.length<=k
theorem t9b {a4 a6:Option Sl}{x:D}(h:x=y):(⟨[a0,a1,a2,a3,a4,some (.val x),a6,e7,e8],S⟩:T)=⟨[a0,a1,a2,a3,a4,some (.val y),a6,e7,e8],S⟩:=by subst h;rfl
def prt (g:List GS)(mv:List Mv)(i:Nat):List D:=match mv[i]? with
 | some (p,v)=>.int (p:Int) :: AL (wdAt g (lastQ g 0 (mv.take i)) p).2.1 v
 | none=>[]
def PsX (g:List GS)(mv:List Mv)(n:Nat)(ps:List (List Nat)):Prop:=ps.length=n/\∀(i:Nat) (w:List Nat),ps[i]?=some w->wD w=prt g mv i/\w.length<=401/\aS w
def JX (f:Fn):Prop:=∀(g:List GS) (mv:List Mv) (S:List Ob),GOk g->TOk g mv->Wf f [.lst (g.map GS.d),.lst (AE g 0 mv)] S λr S'=>S'=S/\∃ps,PsX g mv mv.length ps/\r = .lst (ps.map λw=>.lst (wD w))
theorem O7 (hc:VBF c):JX (fnOf 2 9 (EV c)):=by
 intro g mv S hg hT;have hL:LIM=100000:=rfl;have hlen:=hT.len;refine Ax rfl ?_;unfold EV;left;obtain ⟨I,hI⟩:∃I:List D->T->Prop,∀r t,I r t↔∃(j:Nat) (ps:List (List Nat)) (e4 e5 e6 e7 e8:Option Sl),j<=mv.length/\r=(AE g 0 mv).drop j/\PsX g mv j ps/\t=⟨[some (.val (.lst (g.map GS.d))),some (.val (.lst (AE g 0 mv))),some (.own (ps.map λw=>.lst (wD w))),some (.val (.int (lastQ g 0 (mv.take j)))),e4,e5,e6,e7,e8],S⟩:=⟨_,λ_ _=>.rfl⟩;refine CL I _ _ ((hI _ _).mpr ⟨0,[],none,none,none,none,none,un6 _,rfl,⟨rfl,λi w z=>by simp at z⟩,rfl⟩) ?_ ?_
 ·rintro d r t h0 _;obtain ⟨j,ps,e4,e5,e6,e7,e8,hjl,hr,hps,rfl⟩:=(hI _ _).mp h0;obtain ⟨hdj,hr'⟩:=U1 hr;have hjn:j < mv.length:=by
   obtain ⟨h,_⟩:=ub1.mp hdj;rw [A1] at h;exact h
  cases em:mv[j]? with
  | none=>rw [ub4] at em;lia
  | some x=>
  obtain ⟨p,v⟩:=x;have hm:=HQ hT.ok em;have htk:mv.take (j + 1)=mv.take j++[(p,v)]:=by
   rw [List.take_succ,em];rfl
  have hprt:prt g mv j = .int (p:Int) :: AL (wdAt g (lastQ g 0 (mv.take j)) p).2.1 v:=by unfold prt;rw [em]
  have hbd:(AL (wdAt g (lastQ g 0 (mv.take j)) p).2.1 v).length<=400:=by
   have:=IK hT.bd (j + 1);rw [htk,HM] at this;exact this.2.1
  rw [FI g 0 mv j p v em] at hdj
  cases hdj
  have nQ:lastQ g 0 (mv.take (j + 1))=Cr g (lastQ g 0 (mv.take j)) p:=by rw [htk,G0];rfl
  have hlt:=hm.lt;obtain ⟨side,ws,egs,hpl,ew⟩:=Ia hm.pl;have hgs:=Et hg hlt;have hw:=Ih hg hlt hm.pl;have hfit:=hm.fit;have hget:=Go hlt;have hnx:D.int (wdAt g (lastQ g 0 (mv.take j)) p).2.2=D.int (lastQ g 0 (mv.take (j + 1)):Nat):=by
   have:=hw.lo;rw [nQ];unfold Cr
   congr 1
   lia
  unfold EZ;have hpc:p < 9:=by
   rw [egs] at hgs
   cases hgs with
   | st _ _ h3 _ _=>lia
  obtain ⟨bs,hbs,hb256⟩:=QK (Fd 3 _ hw.dep hw.ok v hfit);have hvb:=hc _ hw.dep hw.ok v hfit hbd;generalize lastQ g 0 (mv.take j)=q at *;generalize wdAt g q p=w at *;rw [egs] at hgs hget;obtain ⟨nd,h9⟩:(ws.map (·.1)).Nodup/\ws.length<=9:=by
   cases hgs with
   | st _ _ h3 h4 _=>exact ⟨h4,h3⟩
  rw [GS.d] at hget;rw [hbs] at hvb hbd;rw [Bx] at hbd;left;refine Bb hget ?_;left;refine cq ?_;left;refine (OJ (f:=λw=>.str w.1) (fr:=[]) ?_).mono ?_
  ·intro w' _;unfold wdD;left;exact ⟨rfl,rfl⟩
  rintro xs tc ⟨rfl,hS⟩;refine BV (by rw [uj0,hL];lia) ?_;rw [hS];left;refine ⟨_,_,p,rfl,rfl,⟨rfl,OZ⟩,QH nd ew,?_⟩;left;refine Bb (JW ew) ?_;unfold wdD;dsimp only;left;refine Jb (hvb.use ⟨rfl,?_⟩);left;refine BV (by rw [Bx,hL];show 1 + _<=_;lia) ?_;left;refine BV (by rw [uj0,hps.1,hL];lia) ?_;left;refine Bb (JW ew) ?_;unfold wdD;dsimp only;left;refine (hI _ _).mpr ?_;refine ⟨j + 1,ps++[p :: bs],_,_,_,_,_,hjn,hr',⟨by rw [uf3,hps.1];rfl,λi x hx=>?_⟩,t9s (by rw [uk2];rfl) hnx⟩
  by_cases hi:i < ps.length
  ·rw [ub2 hi] at hx;exact hps.2 i x hx
  ·have hi':i=j:=by
    have:=(ub1.mp hx).1;rw [uf3,ud1] at this;have:=hps.1;lia
   subst hi';rw [ua7 (by lia),hps.1,un3] at hx;have hx:p :: bs=x:=ui9 hx;subst hx;exact ⟨by rw [hprt];exact congrArg _ hbs.symm,by rw [uh2];lia,λy hy=>(ul3.mp hy).elim (λe=>by rw [e];lia) (hb256 y)⟩
 ·rintro t h0;obtain ⟨j,ps,e4,e5,e6,e7,e8,hjl,hr,hps,rfl⟩:=(hI _ _).mp h0;have hj':j=mv.length:=by
   have:=congrArg List.length hr;rw [uj7,uh5,A1] at this;lia
  subst hj';left;exact ⟨rfl,ps,hps,rfl⟩
variable {mv:List Mv}
theorem D2 (sd:Str)(em:mv[j]?=some (p,v)):An g sd 0 (mv.take (j + 1))=An g sd 0 (mv.take j)++(if (AX g (lastQ g 0 (mv.take j))).side=sd then prt g mv j else []):=by
 rw [show mv.take (j + 1)=mv.take j++[(p,v)] by rw [List.take_succ,em];rfl,Hu,An,An,uj2];unfold prt;rw [em]
structure Due (g:List GS)(mv:List Mv)(rl rr k:Nat):Prop where
 le:k<=mv.length
 a:(An g sL 0 (mv.take k)).length<=rl
 b:(An g sR 0 (mv.take k)).length<=rr
 z:k=mv.length\/(k < mv.length/\onS (AX g (lastQ g 0 (mv.take k))).side rl rr < onS (AX g (lastQ g 0 (mv.take k))).side (An g sL 0 (mv.take k)).length (An g sR 0 (mv.take k)).length + (prt g mv k).length)
theorem WW (w:List Nat)(r:Nat):wD (w.take r)=(wD w).take r:=by unfold wD;rw [List.map_take]
theorem P4 {m:List Nat}{R:List D}(e:wD w=xs++R)(h:xs.length<=r):At (w.take r++m) 0 xs:=by
 refine ⟨[],R.take (r - xs.length)++wD m,?_,rfl⟩;rw [uk3,Gc,WW,e,List.take_append,uc5 h,ug4]
theorem GI (sd:Str)(k:Nat):An g sd 0 mv=An g sd 0 (mv.take k)++An g sd (lastQ g 0 (mv.take k)) (mv.drop k):=by
 have e:An g sd 0 mv=An g sd 0 (mv.take k++mv.drop k):=by rw [ud4]
 rw [e,Hu]
theorem Ya {k:Nat}{sd:Str}(em:mv[k]?=some (p,v))(es:(AX g (lastQ g 0 (mv.take k))).side=sd)(e:wD w=An g sd 0 mv):At w (An g sd 0 (mv.take k)).length (prt g mv k):=by
 have hk:=(ub1.mp em).1;have ed:mv.drop k=(p,v) :: mv.drop (k + 1):=by
  rw [ub3 hk];rw [ub5 hk] at em;rw [ui9 em]
 refine ⟨An g sd 0 (mv.take k),An g sd (Cr g (lastQ g 0 (mv.take k)) p) (mv.drop (k + 1)),?_,rfl⟩;rw [e,GI sd k,ed,An,if_pos es];unfold prt;rw [em]
theorem Sq {k:Nat}{side:Str}{ws:List (Str×Sh×Int)}(hg:GOk g)(hok:okQ g 0 mv)(em:mv[k]?=some (p,v))(eg:AX g (lastQ g 0 (mv.take k)) = .st side ws)(e:wD w=An g side 0 mv)(h:r < (An g side 0 (mv.take k)).length + (prt g mv k).length):(msgR side ws (w.take r) (An g side 0 (mv.take k)).length).1 = .short:=by
 have hm:=HQ hok em;have hw:=Ih hg hm.lt hm.pl;have hfit:=hm.fit;have hA:=Ya em (by rw [eg];rfl) e;have hp:prt g mv k = .int (p:Int) :: AL (wdAt g (lastQ g 0 (mv.take k)) p).2.1 v:=by unfold prt;rw [em]
 rw [hp] at hA h;rw [uh2] at h;obtain ⟨h1,h2⟩:=At.head hA;have hrun:=back 3 _ hw.dep hw.ok w v _ hfit h2;generalize (An g side 0 (mv.take k)).length=a at *;obtain ⟨side',ws',eg',hpl,ew⟩:=Ia hm.pl;rw [eg] at eg'
 cases eg'
 unfold msgR
 by_cases hr:a < r
 ·rw [show (w.take r)[a]?=some p by rw [uf7,if_pos hr];exact h1];dsimp only;rw [ew];dsimp only;exact Ue _ _ hrun hr (by lia)
 ·rw [show (w.take r)[a]?=none by rw [uf7,if_neg hr]]
variable {rl rr:Nat}
theorem Up {ml mr:List Nat}{k:Nat}(hg:GOk g)(hok:okQ g 0 mv)(el:wD wl=An g sL 0 mv)(er:wD wr=An g sR 0 mv)(hrl:rl<=wl.length)(hrr:rr<=wr.length)(hD:Due g mv rl rr k)(hml:ml=[]\/(AX g (lastQ g 0 (mv.take k))).side≠sL)(hmr:mr=[]\/(AX g (lastQ g 0 (mv.take k))).side≠sR) :
 walkR g (wl.take rl++ml) (wr.take rr++mr) ((wl.take rl++ml).length + (wr.take rr++mr).length + 1) 0 0 0 []=(AE g 0 (mv.take k),lastQ g 0 (mv.take k),(An g sL 0 (mv.take k)).length,(An g sR 0 (mv.take k)).length,none):=by
 have hokk:=Na hok k;have hlen:=Q2 hg 0 (mv.take k) hokk;have ha:=hD.a;have hb:=hD.b;have l1:(wl.take rl).length=rl:=by rw [uh4];lia
 have l2:(wr.take rr).length=rr:=by rw [uh4];lia
 obtain ⟨F,hF⟩:∃F,(wl.take rl++ml).length + (wr.take rr++mr).length + 1=F + (mv.take k).length:=⟨(wl.take rl++ml).length + (wr.take rr++mr).length + 1 - (mv.take k).length,by rw [uf3,uf3];lia⟩;rw [hF,La hg (mv.take k) 0 0 0 F [] hokk (P4 (el.trans (GI sL k)) ha) (P4 (er.trans (GI sR k)) hb),Nat.zero_add,Nat.zero_add,uk3];refine R3 ?_ F;unfold Cy
 cases eg:AX g (lastQ g 0 (mv.take k)) with
 | fin=>rfl
 | st side ws=>
   rw [eg] at hml hmr;have hz:=hD.z;rw [eg] at hz;have hs:side=sL\/side=sR:=by
    have hgs:=Et hg (Kn hg hg.ne hokk);rw [eg] at hgs
    cases hgs with
    | st h1 _ _ _ _=>exact h1
   dsimp only;have key:(msgR side ws (onS side (wl.take rl++ml) (wr.take rr++mr)) (onS side (An g sL 0 (mv.take k)).length (An g sR 0 (mv.take k)).length)).1 = .short:=by
    have one:∀(w:List Nat) (r:Nat),wD w=An g side 0 mv->r<=w.length->(An g side 0 (mv.take k)).length<=r->(k=mv.length\/(k < mv.length/\r < (An g side 0 (mv.take k)).length + (prt g mv k).length))->(msgR side ws (w.take r) (An g side 0 (mv.take k)).length).1 = .short:=λw r e h1 h2 h3=>by
     rcases h3 with h3 | ⟨h3,h4⟩
     ·subst h3;rw [ui5] at h2 ⊢;rw [<-e,Bx] at h2 ⊢;unfold msgR;rw [show (w.take r)[w.length]?=none by rw [uf7];split <;> first | exact List.getElem?_eq_none (un5 _) | rfl]
     ·obtain ⟨p,v,hpv⟩:∃p v,mv[k]?=some (p,v):=⟨mv[k].1,mv[k].2,ub5 h3⟩;exact Sq hg hok hpv eg e h4
    have hsd:(GS.st side ws).side=side:=rfl;rw [hsd] at hml hmr hz;unfold onS at hz ⊢;rcases EE hs with ⟨q1,q2⟩ | ⟨q1,q2⟩
    ·rw [if_pos q1,if_pos q1] at hz ⊢;have hml:ml=[]:=by rcases hml with h | h;exact h;exact absurd q1 h
     rw [hml,uj2];subst q1;exact one wl rl el hrl ha hz
    ·rw [if_neg q1,if_neg q1] at hz ⊢;have hmr:mr=[]:=by rcases hmr with h | h;exact h;exact absurd q2 h
     rw [hmr,uj2];subst q2;exact one wr rr er hrr hb hz
   generalize msgR side ws (onS side (wl.take rl++ml) (wr.take rr++mr)) (onS side (An g sL 0 (mv.take k)).length (An g sR 0 (mv.take k)).length)=mr' at key;obtain ⟨r0,c0⟩:=mr';have key:r0 = .short:=key;subst key;rfl
noncomputable def nvO:Nat->D->Bool
 | _,.non=>true
 | _,.int _=>true
 | _,.str _=>true
 | n + 1,.lst xs=>decide (xs.length<=1000) && xs.all (nvO n)
 | n + 1,.tup xs=>decide (xs.length<=1000) && xs.all (nvO n)
 | _,_=>false
theorem Fi:∀(n:Nat) (s:Sh),s.depth<=n->wf s=true->∀v,Ao s v=true->nvO n v=true
 | 0,s,h,_,_,_=>absurd s.depth_pos (by lia)
 | n + 1,s,hs,hw,v,hf=>by
   cases s with
   | nothing=>cases v <;> simp [Ao,HH] at hf;rfl
   | number lo hi=>cases v <;> simp [Ao] at hf;rfl
   | text q=>cases v <;> simp only [Ao,uf4] at hf;rfl
   | list s q=>
     simp only [wf,uh6,ug9] at hw;rw [Sh.depth] at hs
     cases v <;> simp only [Ao,uf4] at hf
     rename_i ds;simp only [uh6,ug9,ui0] at hf;rw [nvO,uh6,ug9,ui0];exact ⟨by lia,λd hd=>Fi n s (by lia) hw.2 d (hf.2 d hd)⟩
   | pair s r=>
     simp only [wf,uh6] at hw;rw [Sh.depth] at hs;unfold Ao at hf
     split at hf
     ·rw [uh6] at hf;have h1:=Fi n s (by lia) hw.1 _ hf.1;have h2:=Fi n r (by lia) hw.2 _ hf.2;simp [nvO,h1,h2]
     ·cases hf
   | choice ss=>
     simp only [wf,uh6,ug9] at hw;rw [Sh.depth] at hs;unfold Ao at hf
     split at hf
     ·next o k x=>
      simp only [uh6,ug9] at hf;obtain ⟨j,rfl⟩:=ub9 hf.1.2.1;have hj:j < ss.length:=by have:=hf.1.2.2;lia
      have e1:ss[j]?=some ss[j]:=ub5 hj;have h2:=hf.2;rw [ug8,CJ ss _ _ _ e1] at h2;have h3:=Fi n _ (um4 (CK ss _ _ e1) (by lia)) (D1 hw.2 _ (ui2 hj)) x h2;have g1:∀o:Str,nvO n (.str o)=true:=λo=>by cases n <;> rfl
      have g2:∀i:Int,nvO n (.int i)=true:=λo=>by cases n <;> rfl
      simp [nvO,h3,g1,g2]
     ·cases hf
theorem M8:∀(n:Nat) (v:D),nvO n v=true->nvO (n + 1) v=true
 | 0,v,h=>by cases v <;> first | rfl | (simp [nvO] at h;done)
 | n + 1,v,h=>by
   cases v <;> first | rfl | (simp [nvO] at h;done) | skip
   all_goals
    rw [nvO,uh6,ui0] at h;rw [nvO,uh6,ui0];exact ⟨h.1,λd hd=>M8 n d (h.2 d hd)⟩
theorem Da {n:Nat}{v:D}(h:nvO n v=true):∀m,nvO (n + m) v=true
 | 0=>h
 | m + 1=>M8 _ _ (Da h m)
theorem Kt:∀{xs:List D},(∀x∈xs,Bq x=true)->Gz xs=true
 | [],_=>rfl
 | x :: r,h=>by rw [Gz,h x ue9,Kt λy m=>h y (ud5 _ m)];rfl
theorem Nl:∀(n:Nat) (v:D),nvO n v=true->Bq v=true
 | 0,v,h=>by cases v <;> first | rfl | (simp [nvO] at h;done)
 | n + 1,v,h=>by
   cases v <;> first | rfl | (simp [nvO] at h;done) | skip
   all_goals
    rw [nvO,uh6,ui0] at h;rw [Bq];exact Kt λx hx=>Nl n x (h.2 x hx)
theorem JK:∀(n:Nat) (v:D),nvO n v=true->Rq n v
 | 0,v,h=>by cases v <;> first | exact Ru | exact Nt | exact Rv | (simp [nvO] at h;done)
 | n + 1,v,h=>by
   cases v <;> first | exact Ru | exact Nt | exact Rv | (simp [nvO] at h;done) | skip
   ·rw [nvO,uh6,ui0] at h;exact YX λx hx=>JK n x (h.2 x hx)
   ·rw [nvO,uh6,ui0] at h;exact Rt λx hx=>JK n x (h.2 x hx)
theorem EC {S:List Ob}{n:Nat}(ih:∀{d v:D} {fp:List Nat},Ow S d v fp->nvO n v=true->Ba S n d=v):∀{ds vs:List D} {fp:List Nat},Ows S ds vs fp->(∀v∈vs,nvO n v=true)->ds.map (Ba S n)=vs
 | _,_,_,.nil,_=>rfl
 | _,_,_,.cons a b _,h=>by rw [ul4,ih a (h _ ue9),EC ih b λv hv=>h v (ud5 _ hv)]
theorem DG {S:List Ob}:∀(n:Nat) {d v:D} {fp:List Nat},Ow S d v fp->nvO n v=true->Ba S n d=v
 | 0,d,v,fp,o,h=>by
   cases o <;> first | rfl | (simp [nvO] at h;done)
 | n + 1,d,v,fp,o,h=>by
   cases o with
   | non=>rfl
   | int i=>rfl
   | str x=>rfl
   | tup o=>
     rw [nvO,uh6,ui0] at h;rw [Ba,EC (λa b=>DG n a b) o h.2]
   | obj e o _=>
     rw [nvO,uh6,ui0] at h;unfold Ba;rw [e];dsimp only;rw [EC (λa b=>DG n a b) o h.2]
theorem HW {S:List Ob}:∀(n:Nat) (v:D),nvO n v=true->Ba S n v=v
 | 0,v,h=>by cases v <;> first | rfl | (simp [nvO] at h;done)
 | n + 1,v,h=>by
   cases v <;> first | rfl | (simp [nvO] at h;done) | skip
   all_goals
    rw [nvO,uh6,ui0] at h;rw [Ba]
    congr 1
    rw [ue4 λx hx=>HW n x (h.2 x hx),List.map_id']
theorem GG {g:Bool->Bool}{x d:D}(hx:Ba t.S 16 x=d)(hy:Ba t.S 16 y=d)(hn:nvO 16 d=true)(h:P (.bl (g true)) t):W (eqO g x y) t P:=
 ⟨_,_,by unfold eqO;rw [hx,hy,Nl 16 d hn,JK 16 d hn EQD (by decide)];rfl,h⟩
theorem am {d:D}{n m1 m2:String}{b1 b2:Bool}(h0:MJ d=false)(h1:tyD d=some n)(h2:Dc n m1=some b1)(h3:Dc n m2=some b2)(h:P (.bl (b1 || b2)) t):W (GY [d,.tup [.ty m1,.ty m2]]) t P:=by
 refine ⟨_,_,?_,h⟩
 cases d <;> first | (simp only [GY,h1,h2,h3];done) | cases h0
theorem Zo {k:Nat}{m1 m2:String}{b1 b2:Bool}(e:t.S[k]?=some (.lst ds))(h2:Dc "list" m1=some b1)(h3:Dc "list" m2=some b2)(h:P (.bl (b1 || b2)) t):W (GY [.obj k,.tup [.ty m1,.ty m2]]) t P:=⟨_,_,by simp only [GY,e,h2,h3],h⟩
local macro_rules | `(tactic| walk_at "y1")=>`(tactic| first
 | walk_at "x1" | clear 32 PC | ((with_reducible refine' am ?wv ?wu ?wt ?ws ?_);(case wv=>exact rfl);(case wu=>exact rfl);(case wt=>exact rfl);(case ws=>exact rfl)))
def FX (f:Fn)(n:Nat):Prop:=∀(S:List Ob) (d v:D) (fp:List Nat),Ow S d v fp->nvO n v=true->Wf f [d] S λr S'=>r = .bl true/\S'=S
theorem Hi {c:Fn}{g:Gd}{S:List Ob}(hg:Gon g S):∀{ds:List D} {z:Option Sl},(∀d∈ds,Wf c [d] S λr S'=>r = .bl true/\S'=S)->W (compG g (AQ 0) (Cu (Au (Aj c (Aa (Ab 0) Ad)))) (Ab 0) ds) ⟨[z],S⟩ λxs t'=>xs=[]/\t'.S=S
 | [],z,_=>Ii hg ⟨rfl,rfl⟩
 | d :: ds,z,h=>by
   refine Fc hg ?_;refine FC ?_;symm;refine (h d ue9).mono ?_;rintro r S' ⟨rfl,rfl⟩;symm;rw [if_neg (by decide)];exact Hi hg λx hx=>h x (ud5 _ hx)
theorem Uj {P:Gd×List D->T->Prop}(h:W f t λd t1=>W (F3 d) t1 P):W (Mq f) t P:=W_bnd.mpr h
theorem US {k:Nat}{P:Gd×List D->T->Prop}(e:t.S[k]?=some (.lst ds))(h:P (some (k,ds),ds) t):W (F3 (.obj k)) t P:=⟨_,_,by simp only [F3,e],h⟩
theorem ao {P:Gd×List D->T->Prop}(h:P (none,ds) t):W (F3 (.tup ds)) t P:=⟨_,_,rfl,h⟩
theorem K1 (hc:n=0\/FX c (n - 1)):FX (fnOf 1 1 (EU c)) n:=by
 intro S d v fp ho hn;have hL:LIM=100000:=rfl;refine Ax rfl ?_;unfold EU
 cases ho with
 | non=>symm;exact ⟨rfl,rfl⟩
 | int i=>symm;exact ⟨rfl,rfl⟩
 | str x=>symm;exact ⟨rfl,rfl⟩
 | @tup ds vs _ o=>
   obtain ⟨m,rfl⟩:∃m,n=m + 1:=by cases n with | zero=>simp [nvO] at hn | succ m=>exact ⟨m,rfl⟩
   rw [nvO,uh6,ug9,ui0] at hn;have hcc:FX c m:=by rcases hc with h | h;cases h;exact h
   symm;refine NF ?_;refine Uj ?_;symm;refine ao ?_;refine (Hi SU λd hd=>?_).mono ?_
   ·obtain ⟨i,hi⟩:=List.mem_iff_getElem?.mp hd;obtain ⟨hi1,_⟩:=ub1.mp hi;have hi2:i < vs.length:=by rw [<-o.length];exact hi1
    obtain ⟨f,q⟩:=o.at i _ _ hi (ub5 hi2);exact hcc S _ _ f q (hn.2 _ (ui2 hi2))
   rintro xs t' ⟨rfl,hS⟩;symm;refine GG rfl rfl rfl ?_;exact ⟨rfl,hS⟩
 | @obj k ds vs fp e o nk=>
   obtain ⟨m,rfl⟩:∃m,n=m + 1:=by cases n with | zero=>simp [nvO] at hn | succ m=>exact ⟨m,rfl⟩
   rw [nvO,uh6,ug9,ui0] at hn;have hcc:FX c m:=by rcases hc with h | h;cases h;exact h
   symm;refine Zo e rfl rfl ?_;symm;refine NF ?_;refine Uj ?_;symm;refine US e ?_;refine (Hi (ME e) λd hd=>?_).mono ?_
   ·obtain ⟨i,hi⟩:=List.mem_iff_getElem?.mp hd;obtain ⟨hi1,_⟩:=ub1.mp hi;have hi2:i < vs.length:=by rw [<-o.length];exact hi1
    obtain ⟨f,q⟩:=o.at i _ _ hi (ub5 hi2);exact hcc S _ _ f q (hn.2 _ (ui2 hi2))
   rintro xs t' ⟨rfl,hS⟩;symm;refine GG rfl rfl rfl ?_;exact ⟨rfl,hS⟩
local macro_rules | `(tactic| walk_at "y1")=>`(tactic| first
 | walk_at "x1")
local macro_rules | `(tactic| walk_at "y1")=>`(tactic| first
 | walk_at "x1" | clear 32 PC)
theorem Ows.split {S:List Ob}:∀{ds vs:List D} {fp:List Nat},Ows S ds vs fp->∀(k:Nat) (d v:D),ds[k]?=some d->vs[k]?=some v->∃f f2,Ow S d v f/\Ows S (ds.eraseIdx k) (vs.eraseIdx k) f2/\(∀x∈f,x∉f2)/\(∀x∈f,x∈fp)/\∀x∈f2,x∈fp
 | _,_,_,.nil,k,d,v,h,_=>by simp at h
 | _,_,_,.cons a b n,0,d,v,h1,h2=>by
   simp at h1 h2;subst h1 h2;exact ⟨_,_,a,b,n,λx hx=>ud6 _ hx,λx hx=>uc8 _ hx⟩
 | _,_,_,.cons a b n,k + 1,d,v,h1,h2=>by
   obtain ⟨f,f2,o1,o2,h3,h4,h5⟩:=Ows.split b k d v (by simpa using h1) (by simpa using h2);refine ⟨f,_++f2,o1,.cons a o2 λx hx z=>n x hx (h5 x z),λx hx z=>?_,λx hx=>uc8 _ (h4 x hx),λx hx=>?_⟩
   ·rcases ui8.mp z with z | z
    ·exact n x z (h4 x hx)
    ·exact h3 x hx z
   ·rcases ui8.mp hx with z | z
    ·exact ud6 _ z
    ·exact uc8 _ (h5 x z)
def Xd (m:D):Prop:=nvO 5 m=true/\∃a b v,m = .tup [.str a,.str b,v]
theorem Ti {d:D}{a b:Str}{f:List Nat}(o:Ow S d (.tup [.str a,.str b,v]) f):∃d' f',d = .tup [.str a,.str b,d']/\Ow S d' v f'/\∀x∈f',x∈f:=by
 cases o with
 | tup o=>
   cases o with
   | cons o1 o=>
     cases o1
     cases o with
     | cons o2 o=>
       cases o2
       cases o with
       | cons o3 o=>
         cases o
         exact ⟨_,_,rfl,o3,λx hx=>by simpa using hx⟩
theorem az {k:Nat}(h:W f t λo t1=>o = .obj k/\t1.S[k]?=some (.lst (xs++[y]))/\P y ⟨t1.env,t1.S.set k (.lst xs)⟩):W (Pf f) t P:=by
 refine W_bnd.mpr (h.mono λo t1 z9=>?_);obtain ⟨e,e1,p⟩:=z9;subst e;refine ⟨_,_,?_,p⟩;simp [e1]
theorem T6 (h:S[j]?=some o):(S.set j o').set j o=S:=by
 rw [List.set_set];obtain ⟨hl,rfl⟩:=ub1.mp h;exact List.set_getElem_self hl
def Wir (S:List Ob)(d:D)(w:List Nat):Prop:=d = .lst (wD w)\/∃k,d = .obj k/\S[k]?=some (.lst (wD w))
def PureS (S:List Ob)(f:Fn)(ds:List D)(r:D):Prop:=Wf f ds S λr' S'=>r'=r/\S'=S
theorem PureS.use {f:Fn}{r:D}(h:PureS S f ds r){P:D->List Ob->Prop}(p:P r S):Wf f ds S P:=h.mono λ_ _ ⟨e1,e2⟩=>by subst e1 e2;exact p
theorem JQ {d:D}(h:Wir t.S d w)(p:P (.int (w.length:Nat)) t):W (A0 [d]) t P:=by
 rcases h with rfl | ⟨k,rfl,e⟩
 ·refine PD ?_;rw [Bx];exact p
 ·refine ar e ?_;rw [Bx];exact p
theorem Uk {d:D}(h:Wir t.S d w)(e:w[a]?=some b)(p:P (.int (b:Int)) t):W (ixD d (.int (a:Int))) t P:=by
 rcases h with rfl | ⟨k,rfl,e'⟩
 ·exact Bb (Hy (RZ e)) p
 ·exact W_ix_obj.mpr ⟨_,e',_,Hy (RZ e),p⟩
def BXw (f:Fn):Prop:=∀(S:List Ob) (wv:D) (w:List Nat) (a:Nat),Wir S wv w->PureS S f [wv,.int (a:Int)] (byX w[a]?)
theorem Xp:BXw (fnOf 2 2 Fl):=by
 intro S wv w a hv;refine Ax rfl ?_;unfold Fl;have hl:=Bx w
 cases h:w[a]? with
 | none=>
   have:=ub4.mp h;symm;refine JQ hv ?_;symm;refine FN (ul1 (by lia)) ?_;symm;exact ⟨rfl,rfl⟩
 | some b=>
   obtain ⟨hj,_⟩:=ub1.mp h;symm;refine JQ hv ?_;symm;refine FM (uk6 (by lia)) ?_;symm;refine Uk hv h ?_;exact ⟨rfl,rfl,rfl⟩
def UXw (f:Fn):Prop:=∀(S:List Ob) (wv:D) (m:Int) (w:List Nat) (a:Nat),Wir S wv w->PureS S f [.int m,wv,.int (a:Int)] (upX m a w[a]?)
theorem Zd (hc:BXw c):UXw (fnOf 3 4 (Ec c)):=by
 intro S wv m w a hv;refine Ax rfl ?_;unfold Ec;have hb:=hc S wv w a hv
 cases h:w[a]? with
 | none=>
   rw [h,byX] at hb;symm;refine hb.use ?_;symm;exact ⟨rfl,rfl⟩
 | some b=>
   rw [h,byX] at hb;symm;refine hb.use ?_;symm;rw [upX]
   by_cases q:(b:Int)<=m
   ·rw [if_pos q];refine FM (uk6 (by lia)) ?_;symm;exact ⟨rfl,rfl,rfl⟩
   ·rw [if_neg q];refine FN (ul1 (by lia)) ?_;symm;exact ⟨rfl,rfl⟩
def SXw (f:Fn):Prop:=∀(S:List Ob) (wv:D) (w:List Nat) (a:Nat),Wir S wv w->PureS S f [wv,.int (a:Int)] (sgX a w[a]?)
variable {cb:Fn}
theorem Y6 {cs:Fn}(hs:Ja cs)(hb:BXw cb):SXw (fnOf 2 3 (Fo cs cb)):=by
 intro S wv w a hv;refine Ax rfl ?_;unfold Fo;have hb:=hb S wv w a hv
 cases h:w[a]? with
 | none=>
   rw [h,byX] at hb;symm;refine hb.use ?_;symm;exact ⟨rfl,rfl⟩
 | some c=>
   rw [h,byX] at hb;symm;refine hb.use ?_;symm;refine (hs c).use ?_;rw [sgX]
   by_cases q:BD c=true
   ·rw [if_pos q,q];symm;refine W_ix_str.mpr ⟨by decide +kernel,c,Y2 q,?_⟩;exact ⟨rfl,rfl,rfl⟩
   ·have q':BD c=false:=by simpa using q
    rw [if_neg q,q'];symm;exact ⟨rfl,rfl⟩
theorem YW (hl:GK cl)(hb:BXw cb)(hw:Jc cw){lo hi:Int}(hwf:wf (.number lo hi)=true)(w:List Nat)(a:Nat){S:List Ob}{wv:D}(hv:Wir S wv w):PureS S (fnOf 3 7 (CY cl cb cw)) [(Sh.number lo hi).d,wv,.int (a:Int)] (rrD ((EB lo (hi - lo).toNat (wid (hi - lo).toNat) 0).run w a)):=by
 have hsp:=OA hwf;have hwd:=JU 9 _ hsp;refine Ax rfl ?_;unfold CY;rw [Sh.d];have em:hi - lo=(((hi - lo).toNat:Nat):Int):=by
  simp only [wf,uh6,ug9] at hwf;lia
 have hww:=λS P p=>(hw (hi - lo).toNat hsp).use (S:=S) (P:=P) p;rw [<-em] at hww;generalize (hi - lo).toNat=M at *;generalize hW:wid M=n at *;symm;refine hww _ _ ?_;rw [em];symm;refine FD (Ce (by lia) (by lia)) ?_;refine CL (λr t=>∃(j x:Nat) (e6:Option Sl),j<=n/\r=(rngL 0 ((n:Nat):Int).toNat).drop j/\(EB lo M n 0).run w a=(EB lo M (n - j) x).run w (a + j)/\t=⟨[some (.val (.tup [.str "number",.int lo,.int hi])),some (.val wv),some (.val (.int a)),some (.val (.int M)),some (.val (.int n)),some (.val (.int x)),e6],S⟩) _ _ ⟨0,0,none,un6 _,rfl,rfl,rfl⟩ ?_ ?_
 ·rintro d r t ⟨j,x,e6,hj,hr,hrun,rfl⟩ _;obtain ⟨rfl,hr',hjn⟩:=Kv hr;rw [ug8] at hjn;rw [un4];obtain ⟨e,he⟩:∃e,n - j=e + 1:=⟨n - j - 1,by lia⟩;rw [he,EB] at hrun;have hby:=hb S wv w (a + j) hv;symm;refine JS (VG (by decide) (by decide)) ?_;symm;rw [show ((a:Int) + (j:Int))=((a + j:Nat):Int) by lia]
  cases h:w[a + j]? with
  | none=>
    rw [h,byX] at hby;rw [BC h] at hrun;refine hby.use ?_;symm;exact ⟨by rw [hrun];rfl,rfl⟩
  | some b=>
    rw [h,byX] at hby;rw [A5 h] at hrun;refine hby.use ?_;symm;refine ⟨rfl,?_⟩;symm;rw [show ((n:Int) - 1 - (j:Int))=((e:Nat):Int) by lia,show ((x:Int) * 256 + (b:Int))=((x * 256 + b:Nat):Int) by lia];refine (hl M e (by lia)).use ?_;symm
    by_cases q:x * 256 + b<=M / 2 ^ (8 * e)
    ·rw [if_pos (ul1 q)] at hrun;refine FM (uk6 (by lia)) ?_;symm;exact ⟨j + 1,x * 256 + b,_,hjn,hr',by rw [show n - (j + 1)=e by lia,hrun,ul9],rfl⟩
    ·rw [if_neg (by rw [ug9];exact q)] at hrun;refine FN (ul1 (by lia)) ?_;symm;exact ⟨by rw [hrun];rfl,rfl⟩
 ·rintro t ⟨j,x,e6,hj,hr,hrun,rfl⟩;have hj':j=n:=by
   have:=congrArg List.length hr;rw [uj7,uh5,JJ,ug8] at this;lia
  subst hj';rw [un3,EB,Rd.run] at hrun;symm;exact ⟨rfl,by rw [hrun];rfl,rfl⟩
variable {cu:Fn}
theorem Wq {ca:Fn}(ha:SXw ca)(hu:UXw cu){q:Int}(hwf:wf (.text q)=true)(n:Nat)(w:List Nat)(a:Nat){S:List Ob}{wv:D}(hv:Wir S wv w):PureS S (fnOf 3 7 (Dv ca cu)) [(Sh.text q).d,wv,.int (a:Int)] (rrD ((pSh (n + 1) (.text q)).run w a)):=by
 have hL:LIM=100000:=rfl;refine Ax rfl ?_;unfold Dv;rw [Sh.d,pSh];simp only [wf,uh6,ug9] at hwf;have hup:=hu S wv q w a hv;symm
 cases h:w[a]? with
 | none=>
   rw [h,upX] at hup;rw [BC h];refine hup.use ?_;symm;exact ⟨rfl,rfl⟩
 | some b=>
   rw [h,upX] at hup;rw [A5 h]
   by_cases hb:(b:Int)<=q
   ·rw [if_pos hb] at hup;rw [if_pos (ul1 hb)];refine hup.use ?_;symm;refine FD (Ce (by lia) (by lia)) ?_;refine CL (λr t=>∃(j:Nat) (y:Str) (e6:Option Sl),j<=b/\r=(rngL 0 ((b:Nat):Int).toNat).drop j/\y.cps.toList.length=j/\(Ft b []).run w (a + 1)=(Ft (b - j) y.cps.toList).run w (a + 1 + j)/\t=⟨[some (.val (.tup [.str "text",.int q])),some (.val wv),some (.val (.int a)),some (.val (.int b)),some (.val (.int ((a:Int) + 1))),some (.val (.str y)),e6],S⟩) _ _ ⟨0,Str.ofString "",none,un6 _,rfl,by decide +kernel,by rw [Nat.sub_zero,um9,show (Str.ofString "").cps.toList=[] by decide +kernel],rfl⟩ ?_ ?_
    ·rintro d r t ⟨j,y,e6,hj,hr,hyl,hrun,rfl⟩ _;obtain ⟨rfl,hr',hjn⟩:=Kv hr;rw [ug8] at hjn;rw [un4];obtain ⟨e,he⟩:∃e,b - j=e + 1:=⟨b - j - 1,by lia⟩;rw [he,Ft] at hrun;have hsg:=ha S wv w (a + 1 + j) hv;symm;rw [show ((a:Int) + 1 + (j:Int))=((a + 1 + j:Nat):Int) by lia]
     cases h2:w[a + 1 + j]? with
     | none=>
       rw [h2,sgX] at hsg;rw [BC h2] at hrun;refine hsg.use ?_;symm;exact ⟨by rw [hrun];rfl,rfl⟩
     | some c=>
       rw [h2,sgX] at hsg;rw [A5 h2] at hrun
       by_cases hc:BD c=true
       ·rw [if_pos hc] at hsg hrun;refine hsg.use ?_;symm;refine BV (by rw [DY y,hyl,hL];show j + 1<=_;lia) ?_;refine ⟨rfl,?_⟩;symm;refine ⟨j + 1,_,_,hjn,hr',?_,?_,rfl⟩
        ·rw [EJ,uf3,hyl];rfl
        ·rw [hrun,EJ,show b - (j + 1)=e by lia,ul9 (a + 1)]
       ·rw [if_neg hc] at hsg hrun;refine hsg.use ?_;symm;exact ⟨by rw [hrun];rfl,rfl⟩
    ·rintro t ⟨j,y,e6,hj,hr,hyl,hrun,rfl⟩;have hj':j=b:=by
      have:=congrArg List.length hr;rw [uj7,uh5,JJ,ug8] at this;lia
     subst hj';rw [un3,Ft,Rd.run] at hrun;have ey:(⟨y.cps.toList.toArray⟩:Str)=y:=WO (by simp);rw [ey] at hrun;symm;refine ⟨rfl,?_,rfl⟩;rw [hrun,rrD,show ((a:Int) + 1 + (j:Int))=((a + 1 + j:Nat):Int) by lia]
   ·rw [if_neg hb] at hup;rw [if_neg (by rw [ug9];exact hb)];refine hup.use ?_;symm;exact ⟨rfl,rfl⟩
def RXw (c:Fn)(s:Sh)(p:Rd):Prop:=∀(S:List Ob) (wv:D) (w:List Nat) (a:Nat),Wir S wv w->a<=w.length->PureS S c [s.d,wv,.int (a:Int)] (rrD (p.run w a))
theorem Wir.gr {d:D}(h:Wir S d w)(g:Gr S S'):Wir S' d w:=h.imp id λ⟨k,e1,e2⟩=>⟨k,e1,g.get e2⟩
theorem GH (g:List GS)(wl wr:List Nat):∀(F h a b:Nat) (t:List D),walkR g wl wr F h a b t=(t++(walkR g wl wr F h a b []).1,(walkR g wl wr F h a b []).2)
 | 0,h,a,b,t=>by show (t,h,a,b,none)=(t++[],h,a,b,none);rw [uj2]
 | F + 1,h,a,b,t=>by
   unfold walkR
   cases Cy g wl wr h a b with
   | stop=>show (t,_)=(t++[],_);rw [uj2]
   | brk k s=>show (t,_)=(t++[],_);rw [uj2]
   | next m h' a' b'=>
     dsimp only;rw [GH g wl wr F h' a' b' (t++[m]),GH g wl wr F h' a' b' ([]++[m])];rw [uk3,ug4]
theorem JT {g:List GS}{wl wr:List Nat}(hg:GOk g):∀(F F' h a b:Nat) (t:List D),Pl g wl wr h a b->wl.length + wr.length + 1<=F + (a + b)->wl.length + wr.length + 1<=F' + (a + b)->walkR g wl wr F h a b t=walkR g wl wr F' h a b t
 | 0,F',h,a,b,t,p,hf,_=>by have:=p.a;have:=p.b;lia
 | F + 1,0,h,a,b,t,p,_,hf=>by have:=p.a;have:=p.b;lia
 | F + 1,F' + 1,h,a,b,t,p,h1,h2=>by
   unfold walkR
   cases e:Cy g wl wr h a b with
   | stop=>rfl
   | brk k s=>rfl
   | next m h' a' b'=>
     obtain ⟨p',hlt⟩:=Ho hg p e;exact JT hg F F' h' a' b' (t++[m]) p' (by lia) (by lia)
abbrev Fu (wl wr:List Nat):Nat:=wl.length + wr.length + 1
theorem LX {v x:List Nat}:Agr v.length v (v++x):=λi hi=>ub2 hi
theorem Pl.more (p:Pl g vl vr h a b)(xl xr:List Nat):Pl g (vl++xl) (vr++xr) h a b:=
 ⟨p.h,um4 p.a (by rw [uf3];lia),um4 p.b (by rw [uf3];lia)⟩
theorem IW {g:List GS}{vl vr:List Nat}(hg:GOk g)(xl xr:List Nat):∀(F h a b:Nat) (t t':List D) (h' a' b':Nat),Pl g vl vr h a b->walkR g vl vr F h a b t=(t',h',a',b',none)->
 Pl g vl vr h' a' b'/\walkR g (vl++xl) (vr++xr) (Fu (vl++xl) (vr++xr)) h a b t=walkR g (vl++xl) (vr++xr) (Fu (vl++xl) (vr++xr)) h' a' b' t'
 | 0,h,a,b,t,t',h',a',b',p,e=>by cases e;exact ⟨p,rfl⟩
 | F + 1,h,a,b,t,t',h',a',b',p,e=>by
   unfold walkR at e
   cases es:Cy g vl vr h a b with
   | stop=>rw [es] at e;cases e;exact ⟨p,rfl⟩
   | brk k s=>rw [es] at e;cases e
   | next m h1 a1 b1=>
     rw [es] at e;obtain ⟨p1,hlt⟩:=Ho hg p es;obtain ⟨q1,q2⟩:=IW hg xl xr F h1 a1 b1 (t++[m]) t' h' a' b' p1 e;refine ⟨q1,?_⟩;rw [<-q2];have e2:=RJ LX LX es p1.a p1.b (wl:=vl++xl) (wr:=vr++xr);have hs:walkR g (vl++xl) (vr++xr) (Fu (vl++xl) (vr++xr)) h a b t=walkR g (vl++xl) (vr++xr) ((vl++xl).length + (vr++xr).length) h1 a1 b1 (t++[m]):=by
      show walkR g (vl++xl) (vr++xr) ((vl++xl).length + (vr++xr).length + 1) h a b t=_;rw [walkR,e2]
     rw [hs];exact JT hg _ _ _ _ _ _ (p1.more xl xr) (by lia) (by show _<=(vl++xl).length + (vr++xr).length + 1 + _;lia)
def Rch (g:List GS)(vl vr:List Nat)(tk:List D)(h a b:Nat):Prop:=Pl g vl vr h a b/\∀xl xr:List Nat,walkR g (vl++xl) (vr++xr) (Fu (vl++xl) (vr++xr)) 0 0 0 []=walkR g (vl++xl) (vr++xr) (Fu (vl++xl) (vr++xr)) h a b tk
theorem Rch.start (hg:GOk g):Rch g [] [] [] 0 0 0:=⟨⟨hg.ne,un6 _,un6 _⟩,λ_ _=>rfl⟩
theorem Rch.more {g:List GS}{vl vr:List Nat}{tk:List D}{h a b:Nat}(r:Rch g vl vr tk h a b)(xl xr:List Nat):Rch g (vl++xl) (vr++xr) tk h a b:=
 ⟨r.1.more xl xr,λyl yr=>by rw [ug4,ug4];exact r.2 _ _⟩
theorem Rch.all {tk:List D}(r:Rch g vl vr tk h a b):walkR g vl vr (Fu vl vr) 0 0 0 []=(tk++(walkR g vl vr (Fu vl vr) h a b []).1,(walkR g vl vr (Fu vl vr) h a b []).2):=by
 have:=r.2 [] [];rw [uj2,uj2] at this;rw [this,GH]
theorem Rch.step (hg:GOk g){vl vr:List Nat}{tk t:List D}{h a b h' a' b':Nat}(r:Rch g vl vr tk h a b)(e:walkR g vl vr (Fu vl vr) h a b []=(t,h',a',b',none)):Rch g vl vr (tk++t) h' a' b':=by
 have e1:walkR g vl vr (Fu vl vr) h a b tk=(tk++t,h',a',b',none):=by rw [GH,e]
 refine ⟨(IW hg [] [] _ _ _ _ _ _ _ _ _ r.1 e1).1,λxl xr=>?_⟩;rw [r.2 xl xr];exact (IW hg xl xr _ _ _ _ _ _ _ _ _ r.1 e1).2
def Fed (g:List GS)(vl vr:List Nat)(tk:List D)(h a b:Nat)(fl:D):Prop:=Rch g vl vr tk h a b/\match walkR g vl vr (Fu vl vr) 0 0 0 [] with
 | (t',h',a',b',none)=>tk=t'/\h=h'/\a=a'/\b=b'/\fl = .non
 | (_,_,_,_,some (k,s))=>fl = .tup [.int (k:Nat),.str s]
section
variable {f:Str}{t:T}{P:D->T->Prop}{O:Out->T->Prop}{k:Nat}{n:Str}{fs:List (Str×D)}{v:D}
def SK (f:Str)(d:D):M D:=Fk d λ_ _ fs t=>(fs.lookup f).map λv=>(v,t)
def KB (f:Str)(v d:D):M Out:=Fk d λk n fs t=>if fs.length < 1000 then some (.next,{ t with S:=t.S.set k (.ins n (Fv f v fs)) }) else none
theorem PB {a:M D}(h:W a t λd t1=>W (SK f d) t1 P):W (Ep f a) t P:=BY h
theorem DN (e:t.S[k]?=some (.ins n fs))(l:fs.lookup f=some v)(h:P v t):W (SK f (.obj k)) t P:=⟨_,_,by simp only [SK,Fk,e,l];rfl,h⟩
theorem Ig {gv ga:M D}(h:W gv t λv t1=>W ga t1 λd t2=>W (KB f v d) t2 O):W (Ek f gv ga) t O:=BY (h.mono λ_ _ z=>BY z)
theorem EF (e:t.S[k]?=some (.ins n fs))(l:fs.length < 1000)(h:O .next ⟨t.env,t.S.set k (.ins n (Fv f v fs))⟩):W (KB f v (.obj k)) t O:=⟨_,_,by simp only [KB,Fk,e,if_pos l],h⟩
theorem JR {g:Fn}{fl:M (List D)}(h:W fl t λds t1=>Wf g (.obj t1.S.length :: ds) (t1.S++[.ins n []]) λr S'=>r = .non/\P (.obj t1.S.length) ⟨t1.env,S'⟩):W (Jq n g fl) t P:=
 BY (h.mono λds t1 ⟨r,S',e,e2,p⟩=>by subst e2;exact ⟨_,_,by simp only [e],p⟩)
theorem LI {g:Fn}{o:M D}{fl:M (List D)}(h:W o t λd t1=>∃k fs,d = .obj k/\t1.S[k]?=some (.ins n fs)/\W fl t1 λds t2=>Wf g (d :: ds) t2.S λr S'=>P r ⟨t2.env,S'⟩):W (BZ n g o fl) t P:=by
 refine BY (h.mono λd t1 z=>?_);obtain ⟨k,fs,e1,e2,w⟩:=z;subst e1;obtain ⟨ds,t2,w1,r,S',w2,p⟩:=w;refine ⟨r,_,?_,p⟩;simp only [Fk,e2,if_pos,bnd,w1,w2]
theorem NG (h:P (.obj t.S.length) ⟨t.env,t.S++[.dct []]⟩):W (EN []) t P:=by
 refine ⟨_,_,?_,h⟩;simp [EN,HC,bnd,F2.ret,E8,Bc]
end
local macro_rules | `(tactic| walk_at "y1")=>`(tactic| first
 | walk_at "x1" | clear 31 Fa PB Ig NG CI)
abbrev rdF (g:List GS)(h W P:Nat):List (Str×D):=[("grammar",.lst (g.map GS.d)),("standing",.int (h:Nat)),("wires",.obj W),("places",.obj P)]
structure Rdr (n0:Nat)(S:List Ob)(k:Nat)(g:List GS)(vl vr:List Nat)(h a b W P l r:Nat):Prop where
 k0:n0<=k
 l0:n0<=l
 r0:n0<=r
 ne:l≠r
 k:S[k]?=some (.ins "Reader" (rdF g h W P))
 w:S[W]?=some (.dct (lr (.obj l) (.obj r)))
 p:S[P]?=some (.dct (dP a b))
 l:S[l]?=some (.lst (wD vl))
 r:S[r]?=some (.lst (wD vr))
def Low (n0:Nat)(S S':List Ob):Prop:=n0<=S'.length/\∀i,i < n0->S'[i]?=S[i]?
variable {n0:Nat}
theorem Rdr.gr {k:Nat}{W P:Nat}(R:Rdr n0 S k g vl vr h a b W P l r)(G:Gr S S'):Rdr n0 S' k g vl vr h a b W P l r:=
 ⟨R.k0,R.l0,R.r0,R.ne,G.get R.k,G.get R.w,G.get R.p,G.get R.l,G.get R.r⟩
variable {u:Ob}
theorem Ap {i:Nat}(h:S[i]?=some u)(n:j≠i):(S.set j o)[i]?=some u:=by rw [ud7 n];exact h
theorem AU {i:Nat}(h:S[i]?=some o)(h':S[j]?=some u)(n:o≠u):i≠j:=λe=>by subst e;rw [h] at h';exact n (ui9 h')
theorem Rdr.ext {k:Nat}{W P:Nat}{side:Str}(x:List Nat)(R:Rdr n0 S k g vl vr h a b W P l r) :
 S[onS side l r]?=some (.lst (wD (onS side vl vr)))/\Rdr n0 (S.set (onS side l r) (.lst (wD (onS side vl vr)++wD x))) k g (onS side (vl++x) vl) (onS side vr (vr++x)) h a b W P l r:=by
 unfold onS
 split
 ·refine ⟨R.l,R.k0,R.l0,R.r0,R.ne,Ap R.k (AU R.l R.k (by simp)),Ap R.w (AU R.l R.w (by simp)),Ap R.p (AU R.l R.p (by simp)),?_,Ap R.r R.ne⟩;rw [<-Gc];exact AT R.l
 ·refine ⟨R.r,R.k0,R.l0,R.r0,R.ne,Ap R.k (AU R.r R.k (by simp)),Ap R.w (AU R.r R.w (by simp)),Ap R.p (AU R.r R.p (by simp)),Ap R.l (Ne.symm R.ne),?_⟩;rw [<-Gc];exact AT R.r
theorem Rdr.put {k:Nat}{h' a' b' W P Q:Nat}(R:Rdr n0 S k g vl vr h a b W P l r)(e:S[Q]?=some (.dct (dP a' b'))):Rdr n0 (S.set k (.ins "Reader" (rdF g h' W Q))) k g vl vr h' a' b' W Q l r:=
 ⟨R.k0,R.l0,R.r0,R.ne,AT R.k,Ap R.w (AU R.k R.w (by simp)),Ap e (AU R.k e (by simp)),Ap R.l (AU R.k R.l (by simp)),Ap R.r (AU R.k R.r (by simp))⟩
def Kp (k:Nat)(S S':List Ob):Prop:=S.length<=S'.length/\∀i,i < S.length->i≠k->S'[i]?=S[i]?
theorem Kp.refl {k:Nat}:Kp k S S:=⟨un5 _,λ_ _ _=>rfl⟩
theorem Kp.setk {k:Nat}(a:Kp k S S'):Kp k S (S'.set k o):=⟨by rw [uk5];exact a.1,λi h n=>by rw [ud7 (Ne.symm n)];exact a.2 i h n⟩
theorem Kp.set {k j:Nat}{S S':List Ob}{o:Ob}(a:Kp k S S')(h:S.length<=j):Kp k S (S'.set j o):=⟨by rw [uk5];exact a.1,λi hi n=>by rw [ud7 (by lia)];exact a.2 i hi n⟩
theorem Kp.app {k:Nat}(a:Kp k S S'):Kp k S (S'++[o]):=⟨by rw [uf3];exact um4 a.1 (uh9 _ _),λi hi n=>by rw [ub2 (ue8 hi a.1)];exact a.2 i hi n⟩
theorem Bs {i:Nat}(h:S[i]?=some u):(S++[o])[i]?=some u:=by rw [ub2 (ub1.mp h).1];exact h
theorem Bj {i:Nat}(h:S[i]?=some u):i < S.length:=(ub1.mp h).1
theorem K4 {k:Nat}{W P:Nat}(R:Rdr n0 S k g vl vr h a b W P l r):PureS S (fnOf 1 1 CG) [.obj k] (.int (h:Nat)):=by
 refine Ax rfl ?_;unfold CG;symm;refine DN R.k rfl ?_;symm;exact ⟨rfl,rfl⟩
local macro_rules | `(tactic| walk_at "y1")=>`(tactic| first
 | walk_at "x1" | clear 31 Fa PB Ig NG CI LI JR)
section
variable {n0:Nat}{S:List Ob}{k:Nat}{g:List GS}{vl vr:List Nat}{h a b W P l r:Nat}
theorem Ht (R:Rdr n0 S k g vl vr h a b W P l r){side:Str}(hs:side=sL\/side=sR):PureS S (fnOf 2 2 By) [.obj k,.str side] (.int (((onS side vl vr).length:Nat) - ((onS side a b:Nat):Int))):=by
 have hon:(onS side (D.int (a:Int)) (D.int (b:Int))) = .int ((onS side a b:Nat):Int):=by unfold onS;split <;> rfl
 have hon2:Wir S (onS side (D.obj l) (D.obj r)) (onS side vl vr):=by unfold onS;split;exact .inr ⟨l,rfl,R.l⟩;exact .inr ⟨r,rfl,R.r⟩
 refine Ax rfl ?_;unfold By;symm;refine DN R.k rfl ?_;symm;refine Br R.w (BO hs) ?_;symm;refine JQ hon2 ?_;symm;refine DN R.k rfl ?_;symm;refine Br R.p (BO hs) ?_;rw [hon];symm;exact ⟨rfl,rfl⟩
theorem K8 (R:Rdr n0 S k g vl vr h a b W P l r):PureS S (fnOf 1 1 (Cq (fnOf 2 2 By))) [.obj k] (.tup [.int ((vl.length:Nat) - (a:Int)),.int ((vr.length:Nat) - (b:Int))]):=by
 refine Ax rfl ?_;unfold Cq;symm;refine ⟨k,_,rfl,R.k,?_⟩;symm;refine (Ht R (.inl rfl)).use ?_;symm;refine ⟨k,_,rfl,R.k,?_⟩;symm;refine (Ht R (.inr rfl)).use ?_;symm;refine ⟨?_,rfl⟩;rw [show onS sL vl vr=vl from if_pos rfl,show onS sR vl vr=vr from if_neg (Ne.symm sLR),show onS sL a b=a from if_pos rfl,show onS sR a b=b from if_neg (Ne.symm sLR)]
end
theorem bx {side:Str}(v x:List Nat):onS side (v++x) v=v++(if side=sL then x else []):=by
 unfold onS
 split
 ·rfl
 ·rw [uj2]
theorem bz {side:Str}(hs:side=sL\/side=sR)(v x:List Nat):onS side v (v++x)=v++(if side=sR then x else []):=by
 unfold onS;rcases hs with rfl | rfl
 ·rw [if_pos rfl,if_neg sLR,uj2]
 ·rw [if_neg (Ne.symm sLR),if_pos rfl]
def Ir (c:Fn)(s:Sh)(p:Rd):Prop:=∀(w:List Nat) (a:Nat) (S:List Ob) (wv:D),Wir S wv w->a<=w.length->Wf c [s.d,wv,.int (a:Int)] S λr S'=>Gw S S'/\roO S S' r (p.run w a)
theorem Ol {s:Sh}{p:Rd}(h:RXw c s p)(hl:∀w a v b,p.run w a = .told v b->∀S,Ow S v v []):Ir c s p:=by
 intro w a S wv hv ha;refine (h S wv w a hv ha).mono λr S' z9=>?_;obtain ⟨e1,e2⟩:=z9;subst e1 e2;refine ⟨.refl,?_⟩
 cases e:p.run w a with
 | told v b=>exact ⟨v,[],rfl,hl w a v b e _,λ_ z=>nomatch z⟩
 | short=>rfl
 | broken k=>rfl
theorem Zm {m:M Out}{P:Out->T->Prop}(h:∀C:Out->T->Prop,(∀o t,P o t->C o t)->F2.W m t C):F2.W m t P:=h P λ_ _ h=>h
theorem Wo {s:Sh}{p:Rd}{q:Int}(hu:UXw cu)(hq2:q<=250)(hc:Ir c s p)(w:List Nat)(a:Nat)(S:List Ob)(wv:D)(hv:Wir S wv w):Wf (fnOf 3 8 (Dt c cu)) [(Sh.list s q).d,wv,.int (a:Int)] S λr S'=>Gw S S'/\roO S S' r ((Rd.need (λb=>decide ((b:Int)<=q)) λb=>Gx p b []).run w a):=by
 have hL:LIM=100000:=rfl;refine Ax rfl ?_;unfold Dt;rw [Sh.d];have hup:=hu S wv q w a hv;symm
 cases h:w[a]? with
 | none=>
   rw [h,upX] at hup;rw [BC h];refine hup.use ?_;symm;exact ⟨.refl,rfl⟩
 | some b=>
   have hal:=(ub1.mp h).1;rw [h,upX] at hup;rw [A5 h]
   by_cases hb:(b:Int)<=q
   ·rw [if_pos hb] at hup;rw [if_pos (ul1 hb)];refine hup.use ?_;symm;refine FD (Ce (by lia) (by lia)) ?_;obtain ⟨I,hI⟩:∃I:List D->T->Prop,∀r t,I r t↔∃(j a':Nat) (ds vs:List D) (fp:List Nat) (S':List Ob) (e6 e7:Option Sl),j<=b/\r=(rngL 0 ((b:Nat):Int).toNat).drop j/\vs.length=j/\a'<=w.length/\(Gx p b []).run w (a + 1)=(Gx p (b - j) vs).run w a'/\Gw S S'/\S'[S.length]?=some (.lst ds)/\Ows S' ds vs fp/\(∀k∈fp,S.length < k)/\t=⟨[some (.val (.tup [.str "list",s.d,.int q])),some (.val wv),some (.val (.int a)),some (.val (.int b)),some (.val (.int (a':Int))),some (.val (.obj S.length)),e6,e7],S'⟩:=⟨_,λ_ _=>.rfl⟩;refine CL I _ _ ((hI _ _).mpr ⟨0,a + 1,[],[],[],S++[.lst []],none,none,un6 _,rfl,rfl,hal,rfl,.app,Xj,.nil,(λ_ z=>nomatch z),rfl⟩) ?_ ?_
    ·rintro d r t h0 _;obtain ⟨j,a',ds,vs,fp,S',e6,e7,hj,hr,hdl,ha',hrun,hG,hK,ho,hfp,rfl⟩:=(hI _ _).mp h0;obtain ⟨rfl,hr',hjn⟩:=Kv hr;rw [ug8] at hjn;obtain ⟨e,he⟩:∃e,b - j=e + 1:=⟨b - j - 1,by lia⟩;rw [he,Gx,DZ] at hrun;have hKl:=(ub1.mp hK).1;symm;refine (hc w a' S' wv (hv.gr hG) ha').mono λr1 S1 z9=>?_;obtain ⟨hG1,h1⟩:=z9
     cases h2:p.run w a' with
     | short=>
       rw [h2] at hrun h1;have h1:r1=exS:=h1;subst h1;symm;exact ⟨hG.trans hG1,by rw [hrun];rfl⟩
     | broken k=>
       rw [h2] at hrun h1;have h1:r1=exB k:=h1;subst h1;symm;exact ⟨hG.trans hG1,by rw [hrun];rfl⟩
     | told v a2=>
       have hle:=Ga p a' ha' h2;rw [h2] at hrun h1;obtain ⟨d1,fp1,e1,ho1,hf1⟩:=h1;subst e1;have hK1:=hG1.get hK;symm;refine PL (k:=S.length) ?_;symm;refine ⟨rfl,_,hK1,?_⟩;symm;refine ⟨_,_,hK1,if_pos (by rw [ho.length,hdl,hL];lia),?_⟩;symm;refine (hI _ _).mpr ?_;refine ⟨j + 1,a2,ds++[d1],vs++[v],fp++fp1,_,_,_,hjn,hr',by rw [uf3,hdl];rfl,hle.2,by rw [hrun,show b - (j + 1)=e by lia];rfl,(hG.trans hG1).set (un5 _),Kl hK1,?_,λk hk=>?_,rfl⟩
       ·refine Ows.snoc (ho1.mono λk hk=>?_) ((ho.gr hG1).mono λk hk=>?_) λk hk z=>?_
        ·exact ud7 (by have:=hf1 k hk;lia)
        ·exact ud7 (by have:=hfp k hk;lia)
        ·have:=hf1 k z;have:=ho.lt k hk;lia
       ·rcases ui8.mp hk with z | z
        ·exact hfp k z
        ·have:=hf1 k z;lia
    ·rintro t h0;obtain ⟨j,a',ds,vs,fp,S',e6,e7,hj,hr,hdl,ha',hrun,hG,hK,ho,hfp,rfl⟩:=(hI _ _).mp h0;have hj':j=b:=by
      have:=congrArg List.length hr;rw [uj7,uh5,JJ,ug8] at this;lia
     subst hj';rw [un3,Gx,Rd.run] at hrun;symm;refine ⟨rfl,hG,?_⟩;rw [hrun];exact ⟨_,_,rfl,.obj hK ho (λz=>ul2 _ (hfp _ z)),λk hk=>(ul3.mp hk).elim (λz=>by rw [z];exact un5 _) λz=>um5 (hfp k z)⟩
   ·rw [if_neg hb] at hup;rw [if_neg (by rw [ug9];exact hb)];refine hup.use ?_;symm;exact ⟨.refl,rfl⟩
theorem Wp {s r:Sh}{p p':Rd}(hs:Ir c s p)(hr:Ir c r p')(w:List Nat)(a:Nat)(S:List Ob)(wv:D)(hv:Wir S wv w)(ha:a<=w.length):Wf (fnOf 3 5 (Du c)) [(Sh.pair s r).d,wv,.int (a:Int)] S λx S'=>Gw S S'/\roO S S' x ((p.bnd λv=>p'.bnd λu=>.done (.tup [v,u])).run w a):=by
 refine Ax rfl ?_;unfold Du;rw [Sh.d,DZ];symm;refine (hs w a S wv hv ha).mono λr1 S1 z9=>?_;obtain ⟨hG1,h1⟩:=z9
 cases e1:p.run w a with
 | short=>
   rw [e1] at h1;have h1:r1=exS:=h1;subst h1;symm;exact ⟨hG1,rfl⟩
 | broken k=>
   rw [e1] at h1;have h1:r1=exB k:=h1;subst h1;symm;exact ⟨hG1,rfl⟩
 | told v a'=>
   have hle:=Ga p a ha e1;rw [e1] at h1;obtain ⟨d1,fp1,e,ho1,hf1⟩:=h1;subst e;rw [RR.thn,DZ];symm;refine (hr w a' S1 wv (hv.gr hG1) hle.2).mono λr2 S2 z9=>?_;obtain ⟨hG2,h2⟩:=z9
   cases e2:p'.run w a' with
   | short=>
     rw [e2] at h2;have h2:r2=exS:=h2;subst h2;symm;exact ⟨hG1.trans hG2,rfl⟩
   | broken k=>
     rw [e2] at h2;have h2:r2=exB k:=h2;subst h2;symm;exact ⟨hG1.trans hG2,rfl⟩
   | told u a2=>
     rw [e2] at h2;obtain ⟨d2,fp2,e,ho2,hf2⟩:=h2;subst e;symm;refine ⟨rfl,hG1.trans hG2,_,_,rfl,.tup (.cons (ho1.gr hG2) (.cons ho2 .nil (λ_ _ z=>nomatch z)) λk hk z=>?_),λk hk=>?_⟩
     ·rw [uj2] at z;have:=ho1.lt k hk;have:=hf2 k z;lia
     ·rw [uj2] at hk;rcases ui8.mp hk with z | z
      ·exact hf1 k z
      ·exact um4 hG1.1 (hf2 k z)
theorem Rp {p:Nat->Rd}(hu:UXw cu)(hc:∀(k:Nat) (h:k < ss.length),Ir c ss[k] (p k))(w:List Nat)(a:Nat)(S:List Ob)(wv:D)(hv:Wir S wv w):Wf (fnOf 3 5 (CW c cu)) [(Sh.choice ss).d,wv,.int (a:Int)] S λx S'=>Gw S S'/\roO S S' x ((Rd.need (λb=>decide (b < ss.length)) λb=>(p b).bnd λv=>.done (.tup [.str "of",.int b,v])).run w a):=by
 refine Ax rfl ?_;unfold CW;rw [Sh.d];have hup:=hu S wv ((ss.length:Int) - 1) w a hv;symm;rw [D0];refine hup.use ?_
 cases h:w[a]? with
 | none=>
   rw [BC h,upX];symm;exact ⟨.refl,rfl⟩
 | some b=>
   have hal:=(ub1.mp h).1;rw [A5 h,upX]
   by_cases hb:b < ss.length
   ·rw [if_pos (show (b:Int)<=(ss.length:Int) - 1 by lia),if_pos (ul1 hb),DZ];have e0:ss[b]?=some ss[b]:=ub5 hb;have hsd:atI (shD ss) (b:Int)=some ss[b].d:=Hy (by rw [F8,e0];rfl);symm;refine IU hsd ?_;symm;rw [show ((a:Int) + 1)=((a + 1:Nat):Int) by lia];refine (hc b hb w (a + 1) S wv hv hal).mono λr1 S1 z9=>?_;obtain ⟨hG1,h1⟩:=z9
    cases e2:(p b).run w (a + 1) with
    | short=>
      rw [e2] at h1;have h1:r1=exS:=h1;subst h1;symm;exact ⟨hG1,rfl⟩
    | broken k=>
      rw [e2] at h1;have h1:r1=exB k:=h1;subst h1;symm;exact ⟨hG1,rfl⟩
    | told u a2=>
      rw [e2] at h1;obtain ⟨d1,fp1,e,ho1,hf1⟩:=h1;subst e;symm;refine ⟨rfl,hG1,_,_,rfl,.tup (.cons (.str _) (.cons (.int _) (.cons ho1 .nil (λ_ _ z=>nomatch z)) (λ_ z=>nomatch z)) (λ_ z=>nomatch z)),λk hk=>?_⟩;rw [uk3,uk3,uj2] at hk;exact hf1 k hk
   ·rw [if_neg (show ¬(b:Int)<=(ss.length:Int) - 1 by lia),if_neg (by rw [ug9];exact hb)];symm;exact ⟨.refl,rfl⟩
def I9 (f:Fn)(n:Nat):Prop:=∀s:Sh,s.depth<=n->wf s=true->Ir f s (pSh n s)
theorem Ps {cn:Fn}{ca cl':Fn}(e1:cc=fnOf 3 5 (CW c cu))(e2:cp=fnOf 3 5 (Du c))(e3:cl=fnOf 3 8 (Dt c cu))(e4:ct=fnOf 3 7 (Dv ca cu))(e5:cn=fnOf 3 7 (CY cl' cb cw))
 (hu:UXw cu) (ha:SXw ca) (hl':GK cl') (hb:BXw cb) (hw:Jc cw) (hc:I9 c n):I9 (fnOf 3 4 (Eh cc cp cl ct cn)) (n + 1):=by
 subst e1 e2 e3 e4 e5;intro s hs hwf w a S wv hv ha';refine Ax rfl ?_;unfold Eh
 cases s with
 | nothing=>
   rw [Sh.d,pSh,Rd.run];symm;exact ⟨rfl,.refl,_,_,rfl,.non,λ_ z=>nomatch z⟩
 | number lo hi=>
   have h:=Ol (λS wv w a hv _=>YW hl' hb hw hwf w a hv) (λw a v b e S=>Tn e) w a S wv hv ha';rw [Sh.d] at h ⊢;rw [pSh];symm;exact h.mono λr S' z=>z
 | text q=>
   have h:=Ol (p:=pSh (n + 1) (.text q)) (λS wv w a hv _=>Wq ha hu hwf n w a hv) (λw a v b e S=>RQ e) w a S wv hv ha';rw [Sh.d] at h ⊢;symm;exact h.mono λr S' z=>z
 | list s q=>
   simp only [wf,uh6,ug9] at hwf;rw [Sh.depth] at hs;have h:=Wo hu hwf.1.2 (hc s (by lia) hwf.2) w a S wv hv;rw [Sh.d] at h ⊢;rw [pSh];symm;exact h.mono λr S' z=>z
 | pair s r=>
   simp only [wf,uh6] at hwf;rw [Sh.depth] at hs;have h:=Wp (hc s (by lia) hwf.1) (hc r (by lia) hwf.2) w a S wv hv ha';rw [Sh.d] at h ⊢;rw [pSh];symm;exact h.mono λr S' z=>z
 | choice ss=>
   simp only [wf,uh6,ug9] at hwf;rw [Sh.depth] at hs;have hcs:∀(k:Nat) (hk:k < ss.length),Ir c ss[k] (pSh n (ss.getD k .nothing)):=by
    intro k hk;rw [ub0,ub5 hk,Option.getD_some];exact hc _ (um4 (CK ss _ _ (ub5 hk)) (by lia)) (D1 hwf.2 _ (ui2 hk))
   have h:=Rp hu (p:=λb=>pSh n (ss.getD b .nothing)) hcs w a S wv hv;rw [Sh.d] at h ⊢;rw [pSh];symm;exact h.mono λr S' z=>z
def OF (f:Fn):Prop:=∀(n:Int) (side:Str) (ws:List (Str×Sh×Int)) (w:List Nat) (p:Nat) (S:List Ob) (wv:D),Wir S wv w->GSOk n (.st side ws)->p<=w.length->w.length<=50000->Wf f [(GS.st side ws).d,wv,.int p] S λr S'=>Gr S S'/\msO S S' r side ws (msgR side ws w p)
theorem Th (hc:I9 c 3):OF (fnOf 3 6 (Ey c)):=by
 intro n side ws w p S wv hv hgs hp hwl
 cases hgs with
 | @st _ _ hs1 hs2 hs3 hs4 hs5=>
 refine Ax rfl ?_;unfold Ey;rw [GS.d]
 cases hb:w[p]? with
 | none=>
   have hpl:¬p < w.length:=by rw [ub4] at hb;lia
   rw [show msgR side ws w p=(.short,0) by unfold msgR;rw [hb]];symm;refine JQ hv ?_;symm;refine FN (by simp;lia) ?_;symm;refine ⟨rfl,?_⟩;symm;exact ⟨.refl,rfl⟩
 | some cc=>
   obtain ⟨hpl,_⟩:=ub1.mp hb;symm;refine JQ hv ?_;symm;refine FM (by simp;lia) ?_;symm;refine Uk hv hb ?_;symm;rw [uj0]
   cases hw:ws[cc]? with
   | none=>
     have hcl:¬cc < ws.length:=by rw [ub4] at hw;lia
     rw [show msgR side ws w p=(.broken p,0) by unfold msgR;simp only [hb,hw]];refine FN (by simp;lia) ?_;symm;exact ⟨.refl,rfl⟩
   | some wd=>
     obtain ⟨hcl,_⟩:=ub1.mp hw;have hwo:=hs5 wd (ud8 hw);have hgd:ws.getD cc (Str.ofString "",.nothing,0)=wd:=by rw [ub0,hw];rfl
     have hrd:=hc wd.2.1 hwo.dep hwo.ok w (p + 1) S wv hv hpl;rw [show msgR side ws w p=((pSh 3 wd.2.1).run w (p + 1),cc) by unfold msgR;simp only [hb,hw]];refine FM (by simp;lia) ?_;symm;refine Uk hv hb ?_;symm;refine Bb (JW hw) ?_;unfold wdD;dsimp only;symm;refine hrd.mono λr1 S1 z9=>?_;obtain ⟨hG1,h1⟩:=z9
     cases e:(pSh 3 wd.2.1).run w (p + 1) with
     | told v b=>
       rw [e] at h1;obtain ⟨d1,fp1,e1,ho1,hf1⟩:=h1;subst e1;symm;exact ⟨rfl,hG1,d1,fp1,by rw [hgd],ho1,hf1⟩
     | short=>
       rw [e] at h1;have h1:r1=exS:=h1;subst h1;symm;refine ⟨rfl,?_⟩;symm;exact ⟨hG1,rfl⟩
     | broken k=>
       rw [e] at h1;have h1:r1=exB k:=h1;subst h1;symm;exact ⟨hG1,rfl⟩
def Rd.tells (P:D->Prop):Rd->Prop
 | .done v=>P v
 | .need _ nx=>∀b,(nx b).tells P
local macro_rules | `(tactic| walk_at "y1")=>`(tactic| first
 | walk_at "x1" | clear 31 Fa PB Ig CI LI JR)
def KpR (k l r:Nat)(S S':List Ob):Prop:=S.length<=S'.length/\∀i,i < S.length->i≠k->i≠l->i≠r->S'[i]?=S[i]?
section
variable {n0:Nat}{S S1 S2:List Ob}{k:Nat}{g:List GS}{vl vr:List Nat}{h a b W P l r:Nat}{o:Ob}
theorem KpR.get (h:KpR k l r S S1){i:Nat}(e:S[i]?=some o)(h1:i≠k)(h2:i≠l)(h3:i≠r):S1[i]?=some o:=(h.2 i (Bj e) h1 h2 h3).trans e
theorem KpR.gr (a:KpR k l r S S1)(b:Gr S1 S2):KpR k l r S S2:=⟨um4 a.1 b.1,λi h h1 h2 h3=>(b.2 i (ue8 h a.1)).trans (a.2 i h h1 h2 h3)⟩
theorem KpR.setk (a:KpR k l r S S1):KpR k l r S (S1.set k o):=⟨by rw [uk5];exact a.1,λi h h1 h2 h3=>by rw [ud7 (Ne.symm h1)];exact a.2 i h h1 h2 h3⟩
end
def fdK (n0:Nat)(S':List Ob)(k:Nat)(g:List GS)(vl vr:List Nat)(h a b W P l r:Nat)(q:D):Rs->Prop
 | (t,h',a',b',none)=>q = .lst [.str "told",.lst t]/\∃P',Rdr n0 S' k g vl vr h' a' b' W P' l r
 | (_,_,_,_,some (c,s))=>q = .lst [.str "refused",.tup [.int (c:Nat),.str s]]/\Rdr n0 S' k g vl vr h a b W P l r
def dM (f:Fn):Prop:=∀(n0:Nat) (S:List Ob) (k:Nat) (g:List GS) (vl vr x:List Nat) (h a b W P l r:Nat) (side:Str),GOk g->Pl g vl vr h a b->(onS side (vl++x) vl).length<=25000->(onS side vr (vr++x)).length<=25000->(side=sL\/side=sR)->Rdr n0 S k g vl vr h a b W P l r->
 Wf f [.obj k,.str side,.lst (wD x)] S λq S'=>KpR k l r S S'/\fdK n0 S' k g (onS side (vl++x) vl) (onS side vr (vr++x)) h a b W P l r q (walkR g (onS side (vl++x) vl) (onS side vr (vr++x)) (Fu (onS side (vl++x) vl) (onS side vr (vr++x))) h a b [])
def Bk (g:List GS)(vl vr:List Nat)(h a b c:Nat)(s:Str):Prop:=Pl g vl vr h a b/\∃t h' a' b',walkR g vl vr (Fu vl vr) h a b []=(t,h',a',b',some (c,s))
def dU (g:List GS)(vl vr:List Nat)(k h a b W P l r:Nat):List (Nat×Ob):=[(k,.ins "Reader" (rdF g h W P)),(W,.dct (lr (.obj l) (.obj r))),(P,.dct (dP a b)),(l,.lst (wD vl)),(r,.lst (wD vr))]
section
variable {F:List (Nat×Ob)}{n0:Nat}{S S1:List Ob}{k:Nat}{g:List GS}{vl vr:List Nat}{h a b W P l r m R:Nat}
end
def bC (S S':List Ob)(r:D):Rs->Prop
 | (t,h,a,b,none)=>∃T fp K,r = .tup [.obj T,.int h,.obj K]/\S'[K]?=some (.dct (dP a b))/\Ow S' (.obj T) (.lst t) fp/\(∀k∈fp,S.length<=k)/\S.length<=K
 | (_,_,_,_,some (k,s))=>r = .exc "Broken" [.int k,.str s]
def Iu (f:Fn):Prop:=∀(g:List GS) (wl wr:List Nat) (dl dr:D) (h a b W P:Nat) (S:List Ob),GOk g->Pl g wl wr h a b->wl.length<=25000->wr.length<=25000->Wir S dl wl->Wir S dr wr->S[W]?=some (.dct (lr dl dr))->S[P]?=some (.dct (dP a b))->
 Wf f [.lst (g.map GS.d),.int h,.obj W,.obj P] S λr S'=>Gr S S'/\bC S S' r (walkR g wl wr (wl.length + wr.length + 1) h a b [])
theorem No (hc:OF c):Iu (fnOf 4 9 (Fm c)):=by
 intro g wl wr dl dr h a b Wd P S hg p hl1 hl2 hvl hvr hW hP;have hL:LIM=100000:=rfl;refine Ax rfl ?_;unfold Fm;symm;have hP1:(S++[Ob.lst []])[P]?=some (.dct (dP a b)):=Gr.app.get hP;refine Zh hP1 ?_;symm;generalize hR:walkR g wl wr (wl.length + wr.length + 1) h a b []=R;obtain ⟨K,hK⟩:∃K,K=(S++[Ob.lst []]).length:=⟨_,rfl⟩;obtain ⟨T0,hT0⟩:∃T0,T0=S.length:=⟨_,rfl⟩;have hKT:K=T0 + 1:=by rw [hK,hT0,uf3];rfl
 show W _ ⟨[some (.val (.lst (g.map GS.d))),some (.val (.int h)),some (.val (.obj Wd)),some (.val (.obj P)),some (.val (.obj S.length)),some (.val (.int h)),some (.val (.obj (S++[Ob.lst []]).length)),none,none],S++[Ob.lst []]++[.dct (dP a b)]⟩ _;rw [<-hK,<-hT0];refine Zm λC hC=>?_;obtain ⟨I,hI⟩:∃I:Nat->T->Prop,∀n t,I n t↔∃(h' a' b':Nat) (ds tk:List D) (fp:List Nat) (S':List Ob) (e7 e8:Option Sl),Pl g wl wr h' a' b'/\wl.length + wr.length + 1<=n + (a' + b')/\tk.length + n<=wl.length + wr.length + 1/\walkR g wl wr n h' a' b' tk=R/\Gr S S'/\S'[K]?=some (.dct (dP a' b'))/\S'[T0]?=some (.lst ds)/\Ows S' ds tk fp/\(∀k∈fp,K < k)/\t=⟨[some (.val (.lst (g.map GS.d))),some (.val (.int h)),some (.val (.obj Wd)),some (.val (.obj P)),some (.val (.obj T0)),some (.val (.int h')),some (.val (.obj K)),e7,e8],S'⟩:=⟨_,λ_ _=>.rfl⟩;refine Gf I ?_ Ly (wl.length + wr.length + 1) _ ?_ ?_
 ·rintro n t h0;obtain ⟨h',a',b',ds,tk,fp,S',e7,e8,p',hn,ht,hR',hG,hK',hT',hO,hfp,rfl⟩:=(hI _ _).mp h0;have pa:=p'.a;have pb:=p'.b;have hend:Ow S' (.obj T0) (.lst tk) (T0 :: fp):=.obj hT' hO λz=>by have:=hfp _ z;lia
  have hfe:∀k∈T0 :: fp,S.length<=k:=λk hk=>by
   rcases ul3.mp hk with rfl | hk
   ·lia
   ·have:=hfp k hk;lia
  obtain ⟨m,rfl⟩:∃m,n=m + 1:=Nat.exists_eq_add_of_le' (by lia);have hgs:=Et hg p'.h;have hix:=Go p'.h;have hW':=hG.get hW;unfold walkR Cy at hR'
  cases eg:AX g h' with
  | fin=>
    rw [eg] at hix hR';rw [GS.d] at hix;symm;refine Bb hix ?_;symm;refine Zn hW' ?_;rw [Sv];symm;refine hC _ _ ?_;show Dr _ _ Out.next _;symm;subst hR';exact ⟨rfl,hG,T0,_,K,rfl,hK',hend,hfe,by lia⟩
  | st side ws=>
    rw [eg] at hix hR' hgs;have hs:side=sL\/side=sR:=by cases hgs with | st hs1 _ _ _ _=>exact hs1
    have hix2:=hix;rw [GS.d] at hix2;symm;refine Bb hix2 ?_;symm;refine Zn hW' ?_;rw [BO hs];symm;refine ⟨m,rfl,?_⟩;symm;refine Bb hix2 ?_;symm;refine Bb hix ?_;symm;refine Br hW' (BO hs) ?_;symm;refine Br hK' (BO hs) ?_;symm;have hon:(onS side (D.int (a':Int)) (D.int (b':Int))) = .int ((onS side a' b':Nat):Int):=by unfold onS;split <;> rfl
    have hon2:Wir S' (onS side dl dr) (onS side wl wr):=by unfold onS;split;exact hvl.gr hG;exact hvr.gr hG
    rw [hon];have hle:=Yj (s:=side) pa pb;refine (hc g.length side ws (onS side wl wr) (onS side a' b') S' (onS side dl dr) hon2 hgs hle (by unfold onS;split <;> lia)).mono λr1 S1 ⟨hG1,h1⟩=>?_
    have hK1:=hG1.get hK';have hT1:=hG1.get hT';have hO1:Ows S1 ds tk fp:=hO.gr hG1;dsimp only at hR';generalize hmr:msgR side ws (onS side wl wr) (onS side a' b')=mr at h1 hR';obtain ⟨r0,c0⟩:=mr
    cases r0 with
    | short=>
      have h1:r1 = .non:=h1;subst h1;dsimp only at hR';symm;refine W_ret.mpr ?_;refine hC _ _ ?_;show Dr _ _ Out.next _;symm;subst hR';exact ⟨rfl,hG.trans hG1,T0,_,K,rfl,hK1,hend.gr hG1,hfe,by lia⟩
    | broken k=>
      have h1:r1 = .exc "Broken" [.int k,.str side]:=h1;subst h1;dsimp only at hR';symm;subst hR';refine hC _ _ ?_;refine IR ?_;exact ⟨hG.trans hG1,rfl⟩
    | told v e=>
      obtain ⟨d1,fp1,e1,ho1,hf1⟩:=h1;subst e1;dsimp only at hR';have hst:Cy g wl wr h' a' b' = .next (.tup [.str side,.str (ws.getD c0 (Str.ofString "",.nothing,0)).1,v]) (ws.getD c0 (Str.ofString "",.nothing,0)).2.2.toNat (onS side e a') (onS side b' e):=by
       unfold Cy;rw [eg];dsimp only;rw [hmr]
      obtain ⟨p2,hlt⟩:=Ho hg p' hst;have hKl:=(ub1.mp hK').1;symm;refine PL (k:=T0) ?_;symm;refine ⟨rfl,_,hT1,?_⟩;symm;refine ⟨_,_,hT1,if_pos (by rw [hO.length,hL];lia),?_⟩;symm;refine B3 (kvs:=dP a' b') (by rw [ud7 (by lia)];exact hK1) (by show 2 < 100000;decide) ?_;rw [JA hs];have hwl:(0:Int)<=(ws.getD c0 (Str.ofString "",.nothing,0)).2.2:=by
       cases hgs with
       | st _ h2 _ _ h5=>
         cases hq:ws[c0]? with
         | none=>rw [ub0,hq];exact Int.le_refl _
         | some wd=>rw [ub0,hq];exact (h5 wd (ud8 hq)).lo
      have hd:lr (onS side (D.int (e:Int)) (D.int (a':Int))) (onS side (D.int (b':Int)) (D.int (e:Int)))=dP (onS side e a') (onS side b' e):=by unfold onS;split <;> rfl
      rw [hd];have hoff:∀k,K < k->((S1.set T0 (.lst (ds++[.tup [.str side,.str (ws.getD c0 (Str.ofString "",.nothing,0)).1,d1]]))).set K (.dct (dP (onS side e a') (onS side b' e))))[k]?=S1[k]?:=λk hk=>by rw [ud7 (by lia),ud7 (by lia)]
      have hom:Ow S1 (.tup [.str side,.str (ws.getD c0 (Str.ofString "",.nothing,0)).1,d1]) (.tup [.str side,.str (ws.getD c0 (Str.ofString "",.nothing,0)).1,v]) fp1:=by
       have q:=Ow.tup (.cons (.str side) (.cons (.str (ws.getD c0 (Str.ofString "",.nothing,0)).1) (.cons ho1 .nil (λ_ _ z=>nomatch z)) (λ_ z=>nomatch z)) (λ_ z=>nomatch z));rw [uk3,uk3,uj2] at q;exact q
      have hG2:Gr S ((S1.set T0 (.lst (ds++[.tup [.str side,.str (ws.getD c0 (Str.ofString "",.nothing,0)).1,d1]]))).set K (.dct (dP (onS side e a') (onS side b' e)))):=((hG.trans hG1).set (k:=T0) (by lia)).set (k:=K) (by lia);have hK2:((S1.set T0 (.lst (ds++[.tup [.str side,.str (ws.getD c0 (Str.ofString "",.nothing,0)).1,d1]]))).set K (.dct (dP (onS side e a') (onS side b' e))))[K]?=some (.dct (dP (onS side e a') (onS side b' e))):=AT (o:=.dct (dP a' b')) (by rw [ud7 (by lia)];exact hK1);have hT2:((S1.set T0 (.lst (ds++[.tup [.str side,.str (ws.getD c0 (Str.ofString "",.nothing,0)).1,d1]]))).set K (.dct (dP (onS side e a') (onS side b' e))))[T0]?=some (.lst (ds++[.tup [.str side,.str (ws.getD c0 (Str.ofString "",.nothing,0)).1,d1]])):=by rw [ud7 (by lia)];exact AT hT1
      refine (hI _ _).mpr ?_;refine ⟨_,_,_,ds++[_],tk++[_],fp++fp1,_,_,_,p2,by lia,by rw [uf3,ud1];lia,hR',hG2,hK2,hT2,?_,λk hk=>?_,t9b (congrArg D.int (ue7 hwl).symm)⟩
      ·refine Ows.snoc (hom.mono λk hk=>hoff k (by have:=hf1 k hk;lia)) (hO1.mono λk hk=>hoff k (hfp k hk)) λk hk z=>?_;have:=hf1 k z;have:=hO.lt k hk;lia
      ·rcases ui8.mp hk with z | z
       ·exact hfp k z
       ·have:=hf1 k z;lia
 ·show _ < 1000000;lia
 ·refine (hI _ _).mpr ?_;refine ⟨h,a,b,[],[],[],_,none,none,p,by lia,by simp,hR,Gr.app.trans Gr.app,by rw [hK];exact Bh,by rw [hT0,ub2 (by simp)];exact Bh,.nil,(λ_ z=>nomatch z),rfl⟩
theorem aA {k:Nat}{xs0:List D}{g:M (List D)}(w:W f t λo t1=>o = .obj k/\(∃xs0,t1.S[k]?=some (.lst xs0))/\W g t1 λds t2=>ds=[.obj j]/\∃xs ys,t2.S[k]?=some (.lst xs)/\t2.S[j]?=some (.lst ys)/\xs.length + ys.length<=LIM/\P .non ⟨t2.env,t2.S.set k (.lst (xs++ys))⟩):W (objX f g) t P:=by
 refine BY (w.mono λo t1 z=>?_);obtain ⟨rfl,⟨x0,e0⟩,ds,t2,e1,rfl,xs,ys,e2,e3,e4,p⟩:=z;refine ⟨_,_,?_,p⟩;simp only [e0,bnd,e1,e2,e3,if_pos e4]
def bq (n0:Nat)(S S':List Ob)(k:Nat)(g:List GS)(vl vr:List Nat)(h a b W P l r:Nat)(q:D):Rs->Prop
 | (t,h',a',b',none)=>∃T0 fp P',q = .obj T0/\Ow S' (.obj T0) (.lst t) fp/\(∀k∈fp,S.length<=k)/\S.length<=P'/\Rdr n0 S' k g vl vr h' a' b' W P' l r
 | (_,_,_,_,some (c,s))=>q = .exc "Broken" [.int (c:Nat),.str s]/\Rdr n0 S' k g vl vr h a b W P l r
def EH (f:Fn):Prop:=∀(n0:Nat) (S:List Ob) (k:Nat) (g:List GS) (vl vr x:List Nat) (h a b W P l r p0:Nat) (side:Str),S[p0]?=some (.lst (wD x))->p0≠onS side l r->GOk g->Pl g vl vr h a b->(onS side (vl++x) vl).length<=25000->(onS side vr (vr++x)).length<=25000->(side=sL\/side=sR)->Rdr n0 S k g vl vr h a b W P l r->
 Wf f [.obj k,.str side,.obj p0] S λq S'=>KpR k l r S S'/\bq n0 S S' k g (onS side (vl++x) vl) (onS side vr (vr++x)) h a b W P l r q (walkR g (onS side (vl++x) vl) (onS side vr (vr++x)) (Fu (onS side (vl++x) vl) (onS side vr (vr++x))) h a b [])
theorem QD (hc:Iu c):EH (fnOf 3 4 (DP c)):=by
 intro n0 S k g vl vr x h a b W P l r p0 side hp0 hpn hg hp hw1 hw2 hs R;have hL:LIM=100000:=rfl;obtain ⟨hx,R1⟩:=R.ext (side:=side) x;have hp1:Pl g (onS side (vl++x) vl) (onS side vr (vr++x)) h a b:=by
  have:=hp.a;have:=hp.b;refine ⟨hp.h,?_,?_⟩ <;> (unfold onS;split <;> (try rw [uf3]) <;> lia)
 have hlw:(onS side vl vr).length + x.length<=50000:=by
  unfold onS at hw1 hw2 ⊢
  split
  ·next q=>rw [if_pos q,uf3] at hw1;lia
  ·next q=>rw [if_neg q,uf3] at hw2;lia
 refine Ax rfl ?_;unfold DP;symm;refine aA (k:=onS side l r) (j:=p0) (xs0:=[]) ?_;symm;refine DN R.k rfl ?_;symm;refine Br R.w (BO hs) ?_;refine ⟨by unfold onS;split <;> rfl,⟨_,hx⟩,?_⟩
 symm;refine ⟨rfl,_,_,hx,hp0,by rw [Bx,Bx,hL];lia,?_⟩;have hlow:KpR k l r S (S.set (onS side l r) (.lst (wD (onS side vl vr)++wD x))):=⟨by rw [uk5];exact un5 _,λi _ _ h2 h3=>ud7 (by unfold onS;split;exact Ne.symm h2;exact Ne.symm h3)⟩
 generalize hS1:S.set (onS side l r) (.lst (wD (onS side vl vr)++wD x))=S1 at R1 hlow ⊢;generalize onS side (vl++x) vl=ul at *;generalize onS side vr (vr++x)=ur at *;symm;refine DN R1.k rfl ?_;symm;refine DN R1.k rfl ?_;symm;refine DN R1.k rfl ?_;symm;refine DN R1.k rfl ?_;symm;refine (hc g ul ur (.obj l) (.obj r) h a b W P S1 hg hp1 hw1 hw2 (.inr ⟨l,rfl,R1.l⟩) (.inr ⟨r,rfl,R1.r⟩) R1.w R1.p).mono λq S2 z9=>?_;obtain ⟨hG,hr⟩:=z9;have R2:=R1.gr hG;have hlow2:=hlow.gr hG;generalize walkR g ul ur (Fu ul ur) h a b []=Z at hr ⊢;obtain ⟨t,h',a',b',o⟩:=Z
 cases o with
 | none=>
   obtain ⟨T0,fp,K,rfl,hK,ho,hf,hKl⟩:=hr;have hlow0:=hlow.1;symm;refine EF R2.k (by show 4 < 1000;decide) ?_;symm;refine EF (AT R2.k) (by show 4 < 1000;decide) ?_;symm;have hkf:∀i∈fp,k≠i:=λi hi z=>by have:=hf i hi;have:=Bj R1.k;lia
   refine ⟨rfl,hlow2.setk.setk,T0,fp,K,rfl,ho.mono (λi hi=>by rw [ud7 (hkf i hi),ud7 (hkf i hi)]),λi hi=>by have:=hf i hi;lia,by lia,?_⟩;show Rdr n0 ((S2.set k (.ins "Reader" (rdF g h' W P))).set k (.ins "Reader" (rdF g h' W K))) k g ul ur h' a' b' W K l r;rw [List.set_set];exact R2.put hK
 | some z=>
   obtain ⟨cc,s⟩:=z;have hr:q = .exc "Broken" [.int cc,.str s]:=hr;subst hr;symm;exact ⟨hlow2,rfl,R2⟩
theorem Qn (hc:EH c):EH (fnOf 3 3 (ES c)):=by
 intro n0 S k g vl vr x h a b W P l r p0 side hp0 hpn hg hp hl1 hl2 hs R;refine Ax rfl ?_;unfold ES;symm;refine ⟨k,_,rfl,R.k,?_⟩;symm;refine (hc n0 S k g vl vr x h a b W P l r p0 side hp0 hpn hg hp hl1 hl2 hs R).mono λq S' z=>?_;symm;exact z
local macro_rules | `(tactic| walk_at "y1")=>`(tactic| first
 | walk_at "x1" | clear 31 CI LI JR)
local macro_rules | `(tactic| walk_at "y1")=>`(tactic| first
 | walk_at "x1" | clear 31 CI)
local macro_rules | `(tactic| walk_at "y1")=>`(tactic| first
 | walk_at "x1" | clear 31 Fa CI)
structure Due6 (g:List GS)(wl wr:List Nat)(tk:List D)(h a b:Nat)(fl:D):Prop where
 rq:∀x∈tk,Rq 5 x
 len:tk.length<=60000
 fk:fl = .non\/∃(k:Nat) (s:Str),fl = .tup [.int (k:Nat),.str s]
 fed:∀(tk':List D) (h' a' b':Nat) (fl':D),Fed g wl wr tk' h' a' b' fl'->fl'=fl/\(∃ex,tk=tk'++ex)/\(fl = .non->tk'=tk/\h'=h/\a'=a/\b'=b)
section
variable {F:List (Nat×Ob)}{n0:Nat}{S S1:List Ob}{k:Nat}{g:List GS}{vl vr x y:List Nat}{h a b W P l r m R K:Nat}{o:Ob}
end
structure NmX (x:Str):Prop where
 ne:x.cps.toList≠[]
 cs:∀c∈x.cps.toList,97<=c/\c<=122/\c≠113
 le:x.length<=9
def GSX (n:Int)(x:GS):Prop:=GSOk n x/\∀w∈x.ws,NmX w.1
def WX (n:Int)(w:Str×Sh×Int):Prop:=WOk n w/\NmX w.1
def HdX (g:List GS):Prop:=∀x,g.head?=some x->x.isFin=false
structure GX (g:List GS):Prop where
 nm:∀x∈g,∀w∈x.ws,NmX w.1
 hd:HdX g
theorem Vr {gs:List GS}{x:GS}(h:HdX gs)(hx:gs=[]->x.isFin=false):HdX (gs++[x]):=by
 intro y hy
 cases gs with
 | nil=>cases hy;exact hx rfl
 | cons a r=>exact h y hy
theorem W5 (h0:0<=i)(h1:i < 3):∃c,atI xyz3.cps.toList i=some c/\120<=c/\c<=122:=by
 have:i=0\/i=1\/i=2:=by lia
 rcases this with rfl | rfl | rfl
 ·exact ⟨120,by decide +kernel,by decide,by decide⟩
 ·exact ⟨121,by decide +kernel,by decide,by decide⟩
 ·exact ⟨122,by decide +kernel,by decide,by decide⟩
theorem Ye {c:Nat}{y:Int}(hn:n < 9)(hc:120<=c/\c<=122)(hy:y < 8):NmX (⟨#[97 + n]⟩++Txt.mul ⟨#[c]⟩ y):=by
 have e:((⟨#[97 + n]⟩:Str)++Txt.mul ⟨#[c]⟩ y).cps.toList=(97 + n) :: List.replicate y.toNat c:=by rw [EJ,Tk];rfl
 refine ⟨by rw [e];exact List.cons_ne_nil _ _,λd hd=>?_,?_⟩
 ·rw [e] at hd;rcases ul3.mp hd with rfl | hd
  ·lia
  ·rw [List.eq_of_mem_replicate hd];lia
 ·rw [DY,e,uh2,ud0];lia
local macro_rules | `(tactic| walk_at "y1")=>`(tactic| first
 | walk_at "x1" | clear 31 JR)
def Scr (sd:D)(n:Nat):Prop:=(∃ns:List Int,sd = .scr ns/\ns.length=n)\/∃ns:List Int,sd = .lst (ns.map .int)/\ns.length=n
theorem Ic {sd:D}(h:Scr sd n){t:T}{P:D->T->Prop}(p:P (.int (n:Nat)) t):W (A0 [sd]) t P:=by
 rcases h with ⟨ns,rfl,rfl⟩ | ⟨ns,rfl,rfl⟩
 ·exact W_len_scr.mpr p
 ·refine PD ?_;rw [uj0];exact p
theorem Zp {sd:D}{k:Nat}(h:Scr sd n)(hk:k < n):∃c:Int,∀(t:T) (P:D->T->Prop),P (.int c) t->W (ixD sd (.int (k:Int))) t P:=by
 rcases h with ⟨ns,rfl,rfl⟩ | ⟨ns,rfl,rfl⟩
 ·refine ⟨ns[k],λt P p=>W_ix_scr.mpr ⟨ns[k],?_,p⟩⟩;unfold atI;rw [B0 (by lia) (by lia)];show ns[(k:Int).toNat]?=_;rw [ug8,ub5 hk]
 ·refine ⟨ns[k],λt P p=>Bb (d:=.int ns[k]) ?_ p⟩;unfold atI;rw [B0 (by lia) (by rw [uj0];lia)];show (ns.map D.int)[(k:Int).toNat]?=_;rw [ug8,ug2,ub5 hk];rfl
def LO (f:Fn):Prop:=∀(sd:D) (n k:Nat),Scr sd n->k<=1000->∃c:Int,Pure1 f [sd,.int k] (.int c)
theorem Ra:LO (fnOf 2 2 Df):=by
 intro sd n k h hk
 by_cases z:k < n
 ·obtain ⟨c,hc⟩:=Zp h z;refine ⟨c,λS=>Ax rfl ?_⟩;unfold Df;right;refine Ic h ?_;right;refine FN (ul1 (by lia)) ?_;right;refine hc _ _ ?_;right;exact ⟨rfl,rfl⟩
 ·refine ⟨0,λS=>Ax rfl ?_⟩;unfold Df;right;refine Ic h ?_;right;refine FM (uk6 (by lia)) ?_;right;exact ⟨rfl,rfl⟩
def IZ (f:Fn):Prop:=∀(sd:D) (n0 k:Nat) (S:List Ob),Scr sd n0->k<=1000->Wf f [sd,.int k] S λr S'=>∃n,r = .obj n/\Room n 900000000000000000000000000000 S'
def LQ (f:Fn):Prop:=∀(sd:D) (n0:Nat) (S:List Ob),Scr sd n0->Wf f [sd] S λr _=>∃g:List GS,GOk g/\GX g/\r = .lst (g.map GS.d)
theorem Re {cz:Fn}(ht:PTakeOk ct)(hs:PShapeOk cz 3)(hp:IZ cp):LQ (fnOf 1 10 (Dm ct cz cp)):=by
 intro sd n0 S hsd;have hL:LIM=100000:=rfl;refine Ax rfl ?_;unfold Dm;right;refine (hp sd n0 0 S hsd (by decide)).mono λr S1 z9=>?_;obtain ⟨K,e1,p1⟩:=z9;subst e1;right;refine ht.use (r:=3) 5 (p1.mono (by decide)) λa S2 a0 a1 p2=>?_;right;refine ht.use (r:=2) 9 (p2.mono (by decide)) λb S3 b0 b1 p3=>?_;right;refine ht.use (r:=1) 3 p3 λc S4 c0 c1 p4=>?_;obtain ⟨dd,ed,many,rfl,m0,m1⟩:=FS (xs:=[D.int (1 + a),D.int (1 + b),D.int 30]) c0 (by simpa using c1) (p:=λd=>∃m:Nat,d = .int m/\1<=m/\m<=30) (by
  simp only [ud9];exact ⟨⟨(1 + a).toNat,by rw [ue7 (by lia)],by lia,by lia⟩,⟨(1 + b).toNat,by rw [ue7 (by lia)],by lia,by lia⟩,⟨30,rfl,by decide,by decide⟩,λ_ z=>nomatch z⟩)
 refine Bb ed ?_;clear p1 p2 p3 p4 ed a0 a1 b0 b1 c0 c1;right;refine FD (Hl m1) ?_;obtain ⟨I,hI⟩:∃I:List D->T->Prop,∀r t,I r t↔∃(gs:List GS) (S':List Ob) (e1 e4 e5 e6 e7 e8 e9:Option Sl),gs.length<=many/\r=(rngL 0 ((many:Nat):Int).toNat).drop gs.length/\(∀x∈gs,GSX many x)/\HdX gs/\t=⟨[some (.val (sd)),e1,some (.val (.int many)),some (.own (gs.map GS.d)),e4,e5,e6,e7,e8,e9],S'⟩:=⟨_,λ_ _=>.rfl⟩;refine CL I _ _ ((hI _ _).mpr ⟨[],S4,_,none,none,none,none,none,none,un6 _,rfl,(λ_ z=>nomatch z),(λ_ z=>nomatch z),rfl⟩) ?_ ?_
 ·rintro d r t h0 _;obtain ⟨gs,S',e1,e4,e5,e6,e7,e8,e9,hj,hr,hg,hh0,rfl⟩:=(hI _ _).mp h0;obtain ⟨rfl,hr',hjn⟩:=Fy hr;rw [ug8] at hjn;rw [un4];generalize hJ:gs.length=j at hj hjn;right;rw [show ((1:Int) + (j:Int) % 13)=((1 + j % 13:Nat):Int) by lia];refine (hp sd n0 (1 + j % 13) S' hsd (by lia)).mono λr1 S1 z9=>?_;obtain ⟨K,e,p1⟩:=z9;subst e;refine BW ?_;obtain ⟨ra,rc,rb,hS,c0,c1⟩:=p1;right;refine Br hS Oj ?_;right;refine Zi (by lia) (by lia) ?_;right;refine JS (HL (by decide) (by decide)) ?_;right;refine CI ?_;right;refine B3 hS (by show 3 < 100000;decide) ?_;rw [Ks];have p2:Room K 900000000000000000000000000000 (S1.set K (.dct (BN (.int (ra / (1 + (j:Int) / 13) + 37 * (j:Int))) (.bl rb) (.int rc)))):=⟨_,_,_,AT hS,c0,c1⟩;refine BW ?_
  change W _ ⟨[some (.val (sd)),some (.val (.obj K)),some (.val (.int many)),some (.own (gs.map GS.d)),some (.val (.int j)),e5,e6,e7,e8,e9],S1.set K (.dct (BN (.int (ra / (1 + (j:Int) / 13) + 37 * (j:Int))) (.bl rb) (.int rc)))⟩ _
  generalize S1.set K (.dct (BN (.int (ra / (1 + (j:Int) / 13) + 37 * (j:Int))) (.bl rb) (.int rc)))=S2 at p2 ⊢;clear hS c0 c1 ra rc rb;right;refine ht.use (r:=5002) 6 (p2.mono (by decide)) λq S3 q0 q1 p3=>?_;have grow:∀(x:GS) (S':List Ob) (e1 e4 e5 e6 e7 e8 e9:Option Sl),GSX many x->(gs=[]->x.isFin=false)->I r ⟨[some (.val (sd)),e1,some (.val (.int many)),some (.own (gs.map GS.d++[x.d])),e4,e5,e6,e7,e8,e9],S'⟩:=by
   intro x S' e1 e4 e5 e6 e7 e8 e9 hx hxf;refine (hI _ _).mpr ?_;refine ⟨gs++[x],S',e1,e4,e5,e6,e7,e8,e9,?_,?_,HK hg hx,Vr hh0 hxf,t10 (by rw [uk2];rfl)⟩
   ·rw [uf3,ud1];lia
   ·rw [uf3,ud1];exact hr'
  have fin:0 < j->W (ownM 3 BA (Aa (A3 (Aa (fC (.str "end")) Ad)) Ad)) ⟨[some (.val (sd)),some (.val (.obj K)),some (.val (.int many)),some (.own (gs.map GS.d)),some (.val (.int j)),e5,e6,e7,e8,e9],S3⟩ λo t=>o = .next/\I r t:=by
   intro h0j;right;refine BV (by rw [uj0,hL];lia) ?_;exact ⟨rfl,grow .fin _ _ _ _ _ _ _ _ ⟨.fin,λ_ z=>nomatch z⟩ (λz=>by rw [<-hJ,z] at h0j;exact absurd h0j (ul2 _))⟩
  have els:W (Af (AA 5 (Ac (AJ (AV (Aa (fC (.str "left")) (Aa (fC (.str "right")) Ad)))) (Aj ct (Aa (Ab 1) (Aa (fC (.int 2)) Ad))) ixD)) (Af (Ej 6 (AV Ad)) (Af (Ci (Cg (Aa (Ac (AJ (AV (Aa (fC (.int 1)) (Aa (fC (.int 2)) (Aa (fC (.int 3)) (Aa (fC (.int 9)) Ad)))))) (Aj ct (Aa (Ab 1) (Aa (fC (.int 4)) Ad))) ixD) Ad)) (AQ 7) (Af (AA 8 (Ac (Ac (fC (.str "abcdefghi")) (Ab 7) ixD) (Ac (Ac (fC (.str "xyz")) (Aj ct (Aa (Ab 1) (Aa (fC (.int 3)) Ad))) ixD) (Aj ct (Aa (Ab 1) (Aa (fC (.int 8)) Ad))) Ei) AR)) (Af (AA 9 (Ac (AJ (AV (Aa (Aj ct (Aa (Ab 1) (Aa (Ab 2) Ad))) (Aa (fB (Aa (Ac (Ab 2) (fC (.int 1)) BL) (Aa (Ac (Ab 4) (fC (.int 1)) AR) Ad)) Fr) Ad)))) (Aj ct (Aa (Ab 1) (Aa (fC (.int 2)) Ad))) ixD)) (ownM 6 BA (Aa (A3 (Aa (Ab 8) (Aa (Aj cz (Aa (Ab 1) (Aa (Aj ct (Aa (Ab 1) (Aa (fC (.int 3)) Ad))) Ad))) (Aa (Ab 9) Ad)))) Ad))))) (ownM 3 BA (Aa (A3 (Aa (Ab 5) (Aa (Ab 6) Ad))) Ad))))) ⟨[some (.val (sd)),some (.val (.obj K)),some (.val (.int many)),some (.own (gs.map GS.d)),some (.val (.int j)),e5,e6,e7,e8,e9],S3⟩ λo t=>o = .next/\I r t:=by
   clear fin;right;refine ht.use (r:=5001) 2 p3 λs S4 s0 s1 p4=>?_;obtain ⟨dd,ed,side,rfl,hside⟩:=FS (xs:=[D.str (Str.ofString "left"),D.str (Str.ofString "right")]) s0 (by simpa using s1) (p:=λd=>∃x:Str,d = .str x/\(x=Str.ofString "left"\/x=Str.ofString "right")) (by
    simp only [ud9];exact ⟨⟨_,rfl,.inl rfl⟩,⟨_,rfl,.inr rfl⟩,λ_ z=>nomatch z⟩)
   refine Bb ed ?_;right;refine ht.use (r:=5000) 4 p4 λg S5 z0 z1 p5=>?_;obtain ⟨dd,ed',cnt,rfl,n0,n1⟩:=FS (xs:=[D.int 1,D.int 2,D.int 3,D.int 9]) z0 (by simpa using z1) (p:=λd=>∃m:Nat,d = .int m/\1<=m/\m<=9) (by
    simp only [ud9];exact ⟨⟨1,rfl,by decide,by decide⟩,⟨2,rfl,by decide,by decide⟩,⟨3,rfl,by decide,by decide⟩,⟨9,rfl,by decide,by decide⟩,λ_ z=>nomatch z⟩)
   refine Bb ed' ?_;right;clear ed ed' z0 z1 s0 s1 p2 p3 p4 q0 q1;refine FD (Hl n1) ?_;obtain ⟨I2,hI2⟩:∃I2:List D->T->Prop,∀r t,I2 r t↔∃(ws:List (Str×Sh×Int)) (S':List Ob) (e7 e8 e9:Option Sl),ws.length<=cnt/\r=(rngL 0 ((cnt:Nat):Int).toNat).drop ws.length/\ws.map (λw=>hd1 w.1)=(List.range ws.length).map (λi=>some (97 + i))/\(∀w∈ws,WX many w)/\Room K (200 * (cnt - ws.length)) S'/\t=⟨[some (.val (sd)),some (.val (.obj K)),some (.val (.int many)),some (.own (gs.map GS.d)),some (.val (.int j)),some (.val (.str side)),some (.own (ws.map wdD)),e7,e8,e9],S'⟩:=⟨_,λ_ _=>.rfl⟩;refine CL I2 _ _ ((hI2 _ _).mpr ⟨[],S5,_,_,_,un6 _,rfl,rfl,(λ_ z=>nomatch z),p5.mono (by simp;lia),rfl⟩) ?_ ?_
   ·rintro d q t h0 _;obtain ⟨ws,S',e7,e8,e9,hl,hq,hh,hw,p6,rfl⟩:=(hI2 _ _).mp h0;obtain ⟨rfl,hq',hin⟩:=Fy hq;rw [ug8] at hin;rw [un4];obtain ⟨m,em⟩:∃m,cnt - ws.length=m + 1:=⟨cnt - ws.length - 1,by lia⟩;rw [em] at p6;replace p6:Room K (200 * m + 200) S':=p6;right;refine W_ix_str.mpr ⟨by decide +kernel,97 + ws.length,Xh (by lia),?_⟩;right;refine ht.use (r:=200 * m + 199) 3 p6 λx S6 x0 x1 p7=>?_;obtain ⟨c,ec,ec'⟩:=W5 x0 x1;refine W_ix_str.mpr ⟨by decide +kernel,c,ec,?_⟩;right;refine ht.use (r:=200 * m + 198) 8 p7 λy S7 y0 y1 p8=>?_;refine ax ⟨Ce (by lia) (by lia),?_,by rw [hL];show y<=(100000:Int);lia,by rw [hL];show 1<=_;decide⟩ ?_
    ·show 1 * _<=_;rw [hL];lia
    right;have hnl:=Yf (n:=97 + ws.length) (m:=c) (k:=y) y1;refine BV (by rw [Tb,hL];show 1 + _<=_;lia) ?_;right;refine ht.use (r:=200 * m + 197) (many:Int) p8 (λu S8 u0 u1 p9=>?_) rfl (by lia) (by lia);right;refine ht.use (r:=200 * m + 196) 2 p9 λv S9 v0 v1 p10=>?_;obtain ⟨dd,ed,then_,rfl,h0,h1⟩:=FS (xs:=[D.int u,D.int (if (j:Int) + 1 < (many:Int) - 1 then (j:Int) + 1 else (many:Int) - 1)]) v0 (by simpa using v1) (p:=λd=>∃m:Int,d = .int m/\0<=m/\m < many) (by
     simp only [ud9];exact ⟨⟨_,rfl,u0,u1⟩,⟨_,rfl,by split <;> lia,by split <;> lia⟩,λ_ z=>nomatch z⟩)
    refine Bb ed ?_;right;refine ht.use (r:=200 * m + 195) 3 p10 λdp S10 d0 d1 p11=>?_;obtain ⟨dq,rfl⟩:=ub9 d0;have hdq:dq < 3:=Int.ofNat_lt.mp d1;have hcs:cs dq<=130:=by
     have:dq=0\/dq=1\/dq=2:=by lia
     rcases this with rfl | rfl | rfl <;> decide
    right;refine hs.use (r:=200 * m) hdq (p11.mono (by lia)) λsh S11 g1 g2 p12=>?_;right;refine BV (by rw [uj0,hL];lia) ?_;refine (hI2 _ _).mpr ?_;refine ⟨ws++[(⟨#[97 + ws.length]⟩++Txt.mul ⟨#[c]⟩ y,sh,then_)],S11,_,_,_,?_,?_,Vs hh ZP,HK hw ⟨⟨g2,by show sh.depth<=3;lia,h0,h1,hnl⟩,Ye (by lia) ec' y1⟩,p12.mono (by rw [uf3,ud1];lia),bF (by rw [uk2];rfl)⟩
    ·rw [uf3,ud1];lia
    ·rw [uf3,ud1];exact hq'
   ·rintro t h0;obtain ⟨ws,S',e7,e8,e9,hl,hq,hh,hw,p6,rfl⟩:=(hI2 _ _).mp h0;have hl':ws.length=cnt:=by
     have:=congrArg List.length hq;rw [uj7,uh5,Cw,ug8] at this;lia
    right;refine BV (by rw [uj0,hL];lia) ?_;exact ⟨rfl,grow (.st side ws) _ _ _ _ _ _ _ _ ⟨.st hside (by lia) (by lia) (ZO hh) λw h=>(hw w h).1,λw h=>(hw w h).2⟩ (λ_=>rfl)⟩
  right;refine CD (λz=>?_) λz=>?_
  ·right;refine CD (λy=>?_) λy=>?_
   ·exact (fin (by simpa using y)).mono λo t ⟨e,h⟩=>by subst e;exact h
   ·exact els.mono λo t ⟨e,h⟩=>by subst e;exact h
  ·exact els.mono λo t ⟨e,h⟩=>by subst e;exact h
 ·rintro t h0;obtain ⟨gs,S',e1,e4,e5,e6,e7,e8,e9,hj,hr,hg,hh0,rfl⟩:=(hI _ _).mp h0;have hj':gs.length=many:=by
   have:=congrArg List.length hr;rw [uj7,uh5,Cw,ug8] at this;lia
  right;exact ⟨gs,⟨by lia,by lia,by rw [hj'];exact λx h=>(hg x h).1⟩,⟨λx h=>(hg x h).2,hh0⟩,rfl⟩
def LS (M:Nat)(f:Fn):Prop:=∀(sd:D) (n0:Nat) (g:List GS) (S:List Ob),Scr sd n0->GOk g->Wf f [sd,.lst (g.map GS.d),.int 14,.int (M:Int)] S λr _=>∃mv:List Mv,TOk g mv/\r = .lst [.lst (AE g 0 mv),.lst (B1 g 0 mv)]
theorem Rn {M:Nat}(hM:M<=63){cv ct cp:Fn}(hv:PValOk cv 3)(ht:PTakeOk ct)(hp:IZ cp):LS M (fnOf 4 14 (Ef cv ct cp)):=by
 intro sd n0 g S hsd hg;have hL:LIM=100000:=rfl;refine Ax rfl ?_;unfold Ef;right;refine Ic hsd ?_;right;have hN:(if (M:Int) < (n0:Int) then (M:Int) else (n0:Int))<=63/\0<=(if (M:Int) < (n0:Int) then (M:Int) else (n0:Int)):=by split <;> lia
 generalize (if (M:Int) < (n0:Int) then (M:Int) else (n0:Int))=N at hN ⊢;refine Uo (by rw [Ce (by lia) (by lia),Ce (by lia) (by lia)];rfl) ?_;have hlen:(rngL 14 (N - 14).toNat).length<=49:=by rw [Cw];lia
 have hmem:∀d∈rngL 14 (N - 14).toNat,∃k:Nat,d = .int k/\k<=1000:=λd hd=>by
  rw [Kz] at hd;obtain ⟨i,hi,rfl⟩:=un1.mp hd;have:=uk7.mp hi;exact ⟨14 + i,by congr 1,by lia⟩
 generalize rngL 14 (N - 14).toNat=ds at hlen hmem ⊢;obtain ⟨I,hI⟩:∃I:List D->T->Prop,∀r t,I r t↔∃(mv:List Mv) (st:List D) (S':List Ob) (e7 e8 e9 e10 e11 e12 e13:Option Sl),mv.length + r.length<=49/\okQ g 0 mv/\okB g 0 mv/\st=B1 g 0 mv/\t=⟨[some (.val (sd)),some (.val (.lst (g.map GS.d))),some (.val (.int 14)),some (.val (.int (M:Int))),some (.own (AE g 0 mv)),some (.val (.int (lastQ g 0 mv))),some (.own st),e7,e8,e9,e10,e11,e12,e13],S'⟩:=⟨_,λ_ _=>.rfl⟩;refine CL I _ _ ((hI _ _).mpr ⟨[],[.int 0],S,none,none,none,none,none,none,none,by rw [uj7];lia,trivial,trivial,rfl,rfl⟩) ?_ ?_
 ·rintro d r t h0 hd;obtain ⟨mv,st,S',e7,e8,e9,e10,e11,e12,e13,hl,hk,hb,hst,rfl⟩:=(hI _ _).mp h0;obtain ⟨k,rfl,hk1⟩:=hmem d hd;rw [uh2] at hl;have hlt:=Kn hg hg.ne hk;right;refine (hp sd n0 k S' hsd hk1).mono λr1 S1 z9=>?_;obtain ⟨K,e,p1⟩:=z9;subst e;refine BW ?_;right;refine Bb (Go hlt) ?_;right;refine Zj ?_;right;refine CD (λq=>?_) λq=>?_
  ·have hnf:¬(AX g (lastQ g 0 mv)).isFin=true:=by simpa using q
   have hgs:=Et hg hlt;obtain ⟨side,ws,egs⟩:∃side ws,AX g (lastQ g 0 mv) = .st side ws:=by
    cases e:AX g (lastQ g 0 mv) with
    | fin=>rw [e] at hnf;simp [GS.isFin] at hnf
    | st side ws=>exact ⟨side,ws,rfl⟩
   have hws:(AX g (lastQ g 0 mv)).ws=ws:=by rw [egs];rfl
   have hside:(AX g (lastQ g 0 mv)).side=side:=by rw [egs];rfl
   have hpos:0 < ws.length/\ws.length<=9:=by
    rw [egs] at hgs
    cases hgs with
    | st _ h2 h3 _ _=>exact ⟨h2,h3⟩
   right;refine Bb (Go hlt) ?_;rw [egs,GS.d];right;rw [uj0];refine ht.use (r:=1000) (ws.length:Int) (p1.mono (by decide)) (λi S2 i0 i1 p2=>?_) rfl (by lia) (by lia);obtain ⟨p,rfl⟩:=ub9 i0;have hpl:p < (AX g (lastQ g 0 mv)).ws.length:=by rw [hws];exact Int.ofNat_lt.mp i1
   obtain ⟨side',ws',egs',_,ew⟩:=Ia hpl;rw [egs] at egs'
   cases egs'
   have hw:=Ih hg hlt hpl;have hlo:=hw.lo;refine Bb (JW ew) ?_;unfold wdD;right;refine hv.use (r:=0) hw.dep hw.ok (p2.mono (by decide)) λx S3 x1 x2=>?_;right;refine BV (by rw [A1,hL];lia) ?_;right;refine BV (by rw [hst,FT,hL];lia) ?_;refine (hI _ _).mpr ?_;refine ⟨mv++[(p,x)],st++[.int (wdAt g (lastQ g 0 mv) p).2.2],S3,_,_,_,_,_,_,_,?_,?_,?_,?_,t14 ?_ ?_ rfl⟩
   ·rw [uf3,ud1];lia
   ·rw [HN];exact ⟨hk,⟨hlt,hpl,x1⟩,trivial⟩
   ·rw [HM];exact ⟨hb,x2,trivial⟩
   ·rw [Hn,hst];unfold Cr
    congr 2
    congr 1
    lia
   ·rw [KZ];show _=_++[EZ g (lastQ g 0 mv) p _];unfold EZ;rw [hside]
   ·rw [G0];show _=D.int (Cr g (lastQ g 0 mv) p:Nat);unfold Cr
    congr 1
    lia
  ·right;refine (hI _ _).mpr ?_;exact ⟨mv,st,_,_,_,_,_,_,_,_,by lia,hk,hb,hst,rfl⟩
 ·rintro t h0;obtain ⟨mv,st,S',e7,e8,e9,e10,e11,e12,e13,hl,hk,hb,hst,rfl⟩:=(hI _ _).mp h0;right;exact ⟨mv,⟨hk,hb,by rw [uj7] at hl;lia⟩,by rw [hst]⟩
def KX (X:List Nat)(S S':List Ob):Prop:=S.length<=S'.length/\∀i,i < S.length->i∉X->S'[i]?=S[i]?
theorem KX.trans {X:List Nat}{S S1 S2:List Ob}(a:KX X S S1)(b:KX X S1 S2):KX X S S2:=⟨um4 a.1 b.1,λi h n=>(b.2 i (ue8 h a.1) n).trans (a.2 i h n)⟩
variable {S1:List Ob}
theorem Gr.kx {X:List Nat}(a:Gr S S1):KX X S S1:=⟨a.1,λi h _=>a.2 i h⟩
theorem KX.set {X:List Nat}{S S1:List Ob}{k:Nat}{o:Ob}(a:KX X S S1)(h:k∈X\/S.length<=k):KX X S (S1.set k o):=⟨by rw [uk5];exact a.1,λi hi n=>by rw [ud7 (λz=>by subst z;rcases h with h | h;exact n h;lia)];exact a.2 i hi n⟩
theorem KX.get {X:List Nat}{S S1:List Ob}{k:Nat}{o:Ob}(a:KX X S S1)(h:S[k]?=some o)(n:k∉X):S1[k]?=some o:=(a.2 k (Bj h) n).trans h
noncomputable def Iv (n:Nat)(S:List Ob):List (Nat×Ob):=((List.range S.length).filter λi=>decide (i≠n)).map λi=>(i,S.getD i (.lst []))
theorem Iw {i:Nat}(h:i < S.length)(hn:i≠n):(i,S[i])∈Iv n S:=by
 unfold Iv;rw [un1];exact ⟨i,ui7.mpr ⟨uk7.mpr h,ul1 hn⟩,by rw [ub0,ub5 h];rfl⟩
theorem NR:∀p∈Iv n S,p.1≠n/\S[p.1]?=some p.2:=by
 intro p hp;unfold Iv at hp;obtain ⟨i,hi,rfl⟩:=un1.mp hp;obtain ⟨h1,h2⟩:=ui7.mp hi;have h1:=uk7.mp h1;exact ⟨uh0 h2,by rw [ub0,ub5 h1];rfl⟩
theorem UU (h:FAll (Iv n S) S')(hl:n < S'.length):Kp n S S':=by
 have key:∀i,i < S.length->i≠n->S'[i]?=S[i]?:=λi hi hn=>by rw [h _ (Iw hi hn),ub5 hi]
 refine ⟨?_,key⟩
 by_cases z:S.length=0
 ·lia
 ·by_cases y:S.length - 1=n
  ·lia
  ·have:=key (S.length - 1) (by lia) y;rw [ub5 (by lia:S.length - 1 < S.length)] at this;have:=Bj this;lia
theorem Ib (hk:∀F,FW F c){n r:Nat}{S:List Ob}(many:Int)(h:Room n (r + 1) S){P:D->List Ob->Prop}(p:∀i S',0<=i->i < many->Room n r S'->Kp n S S'->P (.int i) S')(h0:0 < many)(h1:many < 4611686018427387904):Wf c [.obj n,.int many] S P:=by
 refine (hk (Iv n S) n r S many h0 h1 ⟨h,NR⟩).mono ?_;rintro v S' ⟨⟨i,rfl,i0,i1⟩,q⟩;obtain ⟨_,_,_,e,_⟩:=q.1;exact p i S' i0 i1 q.1 (UU q.2.all (Bj e))
def FV (F:List (Nat×Ob))(f:Fn):Prop:=∀(sd:D) (n0 k:Nat) (S:List Ob),Scr sd n0->k<=1000->FAll F S->Wf f [sd,.int k] S λr S'=>∃n,r = .obj n/\Lv F n 900000000000000000000000000000 S'
theorem We (hc:LO cc):FV F (fnOf 2 3 (Ed cc)):=by
 intro sd n0 k S hsd hk hF;obtain ⟨c,hc⟩:=hc sd n0 k hsd hk;refine Ax rfl ?_;unfold Ed;right;refine hc.use ?_;right;refine LH ?_;refine B6 ?_;right;refine B6 ?_;right;refine B6 ?_;right;refine JS (HL (by decide) (by decide)) ?_;right;refine FK ?_;refine ⟨Bh,by show 3<=15;decide,S.length,rfl,?_⟩;exact ⟨⟨c,3 + 5 * (k:Int),_,(AT Bh).trans (congrArg (λl=>some (Ob.dct l)) TH),by lia,by lia⟩,FrO.set (FrO.new hF)⟩
theorem Rj (h:FV [] c):IZ c:=λsd n0 k S hsd hk=>(h sd n0 k S hsd hk λ_ z=>nomatch z).mono λr S' ⟨n,e,q⟩=>⟨n,e,q.1⟩
theorem TQ (h:FW [] c):PTakeOk c:=λk r S m h0 h1 p=>(h k r S m h0 h1 ⟨p,λ_ z=>nomatch z⟩).mono λv S' ⟨e,q⟩=>⟨e,q.1⟩
theorem Wc (hp:∀F,FV F c){ns:List Int}{k:Nat}{S:List Ob}(hk:k<=1000){P:D->List Ob->Prop}(p:∀n S',Room n 900000000000000000000000000000 S'->Gr S S'->S.length<=n->P (.obj n) S'):Wf c [.scr ns,.int k] S P:=by
 refine (hp (Iv S.length S) (.scr ns) ns.length k S (.inl ⟨ns,rfl,rfl⟩) hk (λq hq=>(NR q hq).2)).mono ?_;rintro r S' ⟨n,rfl,q⟩;obtain ⟨_,_,_,e,_⟩:=q.1;have K:∀i,i < S.length->S'[i]?=S[i]?:=λi hi=>by rw [q.2.all _ (Iw hi (by lia)),ub5 hi]
 have hn:S.length<=n:=by
  by_cases z:n < S.length
  ·exact absurd rfl (q.2 _ (Iw z (by lia))).1
  ·lia
 exact p n S' q.1 ⟨by have:=Bj e;lia,K⟩ hn
def JY (f:Fn):Prop:=∀(g:List GS) (mv:List Mv) (ps:List (List Nat)) (S:List Ob),GOk g->TOk g mv->PsX g mv mv.length ps->Wf f [.lst (AE g 0 mv),.lst (ps.map λw=>.lst (wD w))] S λr S'=>Gr S S'/\∃K wl wr,r = .obj K/\S.length<=K/\S'[K]?=some (.dct (dW wl wr))/\wD wl=An g sL 0 mv/\wD wr=An g sR 0 mv
theorem O8:JY (fnOf 2 4 Dd):=by
 intro g mv ps S hg hT hps;have hL:LIM=100000:=rfl;have hlen:=hT.len;have hok:=hT.ok;refine Ax rfl ?_;unfold Dd;left;refine LH ?_;refine B6 ?_;left;refine B6 ?_;left;refine FK ?_;refine ⟨by simp,by show 2<=15;decide,?_⟩;have hA:Gr S ((S++[Ob.dct []]).set S.length (.dct (Bc (dW [] [])))):=Gr.app.set (un5 _);have hB:((S++[Ob.dct []]).set S.length (.dct (Bc (dW [] []))))[S.length]?=some (.dct (dW [] [])):=by rw [IH];exact AT Bh
 show Dr _ _ Out.next ⟨_,(S++[Ob.dct []]).set S.length (.dct (Bc (dW [] [])))⟩;generalize (S++[Ob.dct []]).set S.length (.dct (Bc (dW [] [])))=S1 at hA hB ⊢;obtain ⟨K,hK⟩:∃K,K=S.length:=⟨_,rfl⟩;rw [<-hK] at hB ⊢;left;rw [A1];refine FD (Ce (by lia) (by lia)) ?_;obtain ⟨I,hI⟩:∃I:List D->T->Prop,∀r t,I r t↔∃(j:Nat) (S':List Ob) (e3:Option Sl) (wl wr:List Nat),j<=mv.length/\r=(rngL 0 ((mv.length:Nat):Int).toNat).drop j/\Gr S S'/\S'[K]?=some (.dct (dW wl wr))/\wD wl=An g sL 0 (mv.take j)/\wD wr=An g sR 0 (mv.take j)/\t=⟨[some (.val (.lst (AE g 0 mv))),some (.val (.lst (ps.map λw=>.lst (wD w)))),some (.val (.obj K)),e3],S'⟩:=⟨_,λ_ _=>.rfl⟩;refine CL I _ _ ((hI _ _).mpr ⟨0,S1,none,[],[],un6 _,rfl,hA,hB,rfl,rfl,rfl⟩) ?_ ?_
 ·rintro d r t h0 _;obtain ⟨j,S',e3,wl,wr,hjl,hr,hG,hKw,el,er,rfl⟩:=(hI _ _).mp h0;obtain ⟨rfl,hr',hjn⟩:=Fy hr;rw [ug8] at hjn;rw [un4]
  cases em:mv[j]? with
  | none=>rw [ub4] at em;lia
  | some x=>
  obtain ⟨p,v⟩:=x;have hm:=HQ hok em;have hmi:atI (AE g 0 mv) j=some (EZ g (lastQ g 0 (mv.take j)) p v):=by
   unfold atI;rw [B0 (by lia) (by rw [A1];lia)];show (AE g 0 mv)[(j:Int).toNat]?=_;rw [ug8,FI g 0 mv j p v em]
  have hjp:j < ps.length:=by rw [hps.1];exact hjn
  have hpi:atI (ps.map λw=>D.lst (wD w)) (j:Int)=some (.lst (wD ps[j])):=by
   unfold atI;rw [B0 (by lia) (by rw [uj0];lia)];show (ps.map λw=>D.lst (wD w))[(j:Int).toNat]?=_;rw [ug8,ug2,ub5 hjp];rfl
  obtain ⟨hp1,hp2,_⟩:=hps.2 j _ (ub5 hjp);have hs:=H9 hg hm;have nA:=D2 (g:=g) sL em;have nB:=D2 (g:=g) sR em;rw [<-hp1] at nA nB;have lA:=EO g sL 0 (mv.take j) (IK hT.bd j);have lB:=EO g sR 0 (mv.take j) (IK hT.bd j);rw [<-el,Bx,uh4] at lA;rw [<-er,Bx,uh4] at lB;unfold EZ at hmi;generalize (AX g (lastQ g 0 (mv.take j))).side=side at *;have hon2:(onS side (D.lst (wD wl)) (D.lst (wD wr))) = .lst (wD (onS side wl wr)):=by unfold onS;split <;> rfl
  have hol:(onS side wl wr).length<=25000:=by unfold onS;split <;> lia
  left;refine Bb hmi ?_;left;refine Br hKw (BO hs) ?_;rw [hon2];left;refine Bb hpi ?_;left;refine BV (by rw [Bx,Bx,hL];lia) ?_;rw [<-Gc];left;refine CI ?_;left;refine Bb hmi ?_;left;refine B3 hKw (by show 2 < 100000;decide) ?_;rw [JA hs];have hd:lr (onS side (D.lst (wD (onS side wl wr++ps[j]))) (D.lst (wD wl))) (onS side (D.lst (wD wr)) (D.lst (wD (onS side wl wr++ps[j]))))=dW (onS side (wl++ps[j]) wl) (onS side wr (wr++ps[j])):=by unfold onS;split <;> rfl
  rw [hd];refine (hI _ _).mpr ?_;refine ⟨j + 1,_,_,onS side (wl++ps[j]) wl,onS side wr (wr++ps[j]),hjn,hr',hG.set (by lia),AT hKw,?_,?_,rfl⟩
  ·rw [nA,<-el];unfold onS;rcases EE hs with ⟨q1,q2⟩ | ⟨q1,q2⟩
   ·rw [if_pos q1,if_pos q1,Gc]
   ·rw [if_neg q1,if_neg q1,uj2]
  ·rw [nB,<-er];unfold onS;rcases EE hs with ⟨q1,q2⟩ | ⟨q1,q2⟩
   ·rw [if_pos q1,if_neg q2,uj2]
   ·rw [if_neg q1,if_pos q2,Gc]
 ·rintro t h0;obtain ⟨j,S',e3,wl,wr,hjl,hr,hG,hKw,el,er,rfl⟩:=(hI _ _).mp h0;have hj':j=mv.length:=by
   have:=congrArg List.length hr;rw [uj7,uh5,Cw,ug8] at this;lia
  subst hj';rw [ui5] at el er;left;exact ⟨hG,K,wl,wr,rfl,by lia,hKw,el,er⟩
def Xb (f:Fn):Prop:=∀(g:List GS) (mv:List Mv) (ps:List (List Nat)) (rl rr R:Nat) (S:List Ob),GOk g->TOk g mv->PsX g mv mv.length ps->S[R]?=some (.dct (dP rl rr))->Wf f [.lst (AE g 0 mv),.lst (ps.map λw=>.lst (wD w)),.obj R] S λr S'=>Gr S S'/\∃k G,Due g mv rl rr k/\r = .lst [.int (k:Nat),.obj G]/\S'[G]?=some (.dct (dP (An g sL 0 (mv.take k)).length (An g sR 0 (mv.take k)).length))
theorem VC:Xb (fnOf 3 5 DS):=by
 intro g mv ps rl rr R S hg hT hps hR;have hL:LIM=100000:=rfl;have hlen:=hT.len;refine Ax rfl ?_;unfold DS;left;refine LH ?_;refine B6 ?_;left;refine B6 ?_;left;refine FK ?_;refine ⟨by simp,by show 2<=15;decide,?_⟩;have hA:Gr S ((S++[Ob.dct []]).set S.length (.dct (Bc (dP 0 0)))):=Gr.app.set (un5 _);have hB:((S++[Ob.dct []]).set S.length (.dct (Bc (dP 0 0))))[S.length]?=some (.dct (dP 0 0)):=by rw [IH];exact AT Bh
 show Dr _ _ Out.next ⟨_,(S++[Ob.dct []]).set S.length (.dct (Bc (dP 0 0)))⟩;generalize (S++[Ob.dct []]).set S.length (.dct (Bc (dP 0 0)))=S1 at hA hB ⊢;obtain ⟨K,hK⟩:∃K,K=S.length:=⟨_,rfl⟩;rw [<-hK] at hB ⊢;left;obtain ⟨I,hI⟩:∃I:Nat->T->Prop,∀n t,I n t↔∃(k:Nat) (S':List Ob),n=mv.length + 1 - k/\k<=mv.length/\(An g sL 0 (mv.take k)).length<=rl/\(An g sR 0 (mv.take k)).length<=rr/\Gr S S'/\S'[K]?=some (.dct (dP (An g sL 0 (mv.take k)).length (An g sR 0 (mv.take k)).length))/\t=⟨[some (.val (.lst (AE g 0 mv))),some (.val (.lst (ps.map λw=>.lst (wD w)))),some (.val (.obj R)),some (.val (.obj K)),some (.val (.int k))],S'⟩:=⟨_,λ_ _=>.rfl⟩;refine Gf I ?_ Ly (mv.length + 1) _ ?_ ?_
 ·rintro n t h0;obtain ⟨k,S',rfl,hk,ha,hb,hG,hK',rfl⟩:=(hI _ _).mp h0;have fin:∀(S2:List Ob),Gr S S2->S2[K]?=some (.dct (dP (An g sL 0 (mv.take k)).length (An g sR 0 (mv.take k)).length))->Due g mv rl rr k->W (Av (AJ (AV (Aa (Ab 4) (Aa (Ab 3) Ad))))) ⟨[some (.val (.lst (AE g 0 mv))),some (.val (.lst (ps.map λw=>.lst (wD w)))),some (.val (.obj R)),some (.val (.obj K)),some (.val (.int k))],S2⟩ λo t=>∃r,o = .ret r/\Gr S t.S/\∃k G,Due g mv rl rr k/\r = .lst [.int (k:Nat),.obj G]/\t.S[G]?=some (.dct (dP (An g sL 0 (mv.take k)).length (An g sR 0 (mv.take k)).length)):=λS2 hG2 hK2 hD=>by
   left;exact ⟨_,rfl,hG2,k,K,hD,rfl,hK2⟩
  left;rw [A1]
  by_cases hlt:k < mv.length
  ·rw [ul1 (show (k:Int) < (mv.length:Int) by lia)]
   cases em:mv[k]? with
   | none=>rw [ub4] at em;lia
   | some x=>
   obtain ⟨p,v⟩:=x;have hm:=HQ hT.ok em;have hmi:atI (AE g 0 mv) k=some (EZ g (lastQ g 0 (mv.take k)) p v):=by
    unfold atI;rw [B0 (by lia) (by rw [A1];lia)];show (AE g 0 mv)[(k:Int).toNat]?=_;rw [ug8,FI g 0 mv k p v em]
   have hjp:k < ps.length:=by rw [hps.1];exact hlt
   have hpi:atI (ps.map λw=>D.lst (wD w)) (k:Int)=some (.lst (wD ps[k])):=by
    unfold atI;rw [B0 (by lia) (by rw [uj0];lia)];show (ps.map λw=>D.lst (wD w))[(k:Int).toNat]?=_;rw [ug8,ug2,ub5 hjp];rfl
   obtain ⟨hp1,hp2,_⟩:=hps.2 k _ (ub5 hjp);have hs:=H9 hg hm;have hR':=hG.get hR;have nA:=D2 (g:=g) sL em;have nB:=D2 (g:=g) sR em;rw [<-hp1] at nA nB;have hD:¬(onS (AX g (lastQ g 0 (mv.take k))).side (An g sL 0 (mv.take k)).length (An g sR 0 (mv.take k)).length + (wD ps[k]).length<=onS (AX g (lastQ g 0 (mv.take k))).side rl rr)->Due g mv rl rr k:=λz=>⟨hk,ha,hb,.inr ⟨hlt,by rw [<-hp1];lia⟩⟩;unfold EZ at hmi;generalize (AX g (lastQ g 0 (mv.take k))).side=side at *;have hon:∀x y:Nat,(onS side (D.int (x:Int)) (D.int (y:Int))) = .int ((onS side x y:Nat):Int):=λx y=>by unfold onS;split <;> rfl
   left;refine Bb hmi ?_;left;refine Br hK' (BO hs) ?_;rw [hon];left;refine Bb hpi ?_;left;refine Bb hmi ?_;left;refine Br hR' (BO hs) ?_;rw [hon];left
   by_cases z:((onS side (An g sL 0 (mv.take k)).length (An g sR 0 (mv.take k)).length:Nat):Int) + ((wD ps[k]).length:Int)<=((onS side rl rr:Nat):Int)
   ·rw [ul1 z];refine ⟨mv.length - k,by lia,?_⟩;left;refine Bb hmi ?_;left;refine Br hK' (BO hs) ?_;rw [hon];left;refine Bb hpi ?_;left;refine CI ?_;left;refine Bb hmi ?_;left;refine B3 hK' (by show 2 < 100000;decide) ?_;rw [JA hs];left;refine (hI _ _).mpr ?_;refine ⟨k + 1,_,by lia,hlt,?_,?_,hG.set (by lia),(AT hK').trans (congrArg (λl=>some (Ob.dct l)) ?_),rfl⟩
    ·rw [nA,uf3];rcases EE hs with ⟨q1,q2⟩ | ⟨q1,q2⟩
     ·rw [if_pos q1];unfold onS at z;rw [if_pos q1,if_pos q1] at z;lia
     ·rw [if_neg q1,uj7];lia
    ·rw [nB,uf3];rcases EE hs with ⟨q1,q2⟩ | ⟨q1,q2⟩
     ·rw [if_neg q2,uj7];lia
     ·rw [if_pos q2];unfold onS at z;rw [if_neg q1,if_neg q1] at z;lia
    ·rw [nA,nB,uf3,uf3];unfold onS;rcases EE hs with ⟨q1,q2⟩ | ⟨q1,q2⟩
     ·rw [if_pos q1,if_pos q1,if_pos q1,if_pos q1,if_neg q2];rfl
     ·rw [if_neg q1,if_neg q1,if_neg q1,if_neg q1,if_pos q2];rfl
   ·rw [uk6 z];show Dr _ _ Out.next _;refine BW ?_;refine (fin _ hG hK' (hD (by lia))).mono ?_;rintro o t ⟨r,rfl,h⟩;exact h
  ·rw [uk6 (show ¬(k:Int) < (mv.length:Int) by lia)];show Dr _ _ Out.next _;refine BW ?_;refine (fin _ hG hK' ⟨hk,ha,hb,.inl (by lia)⟩).mono ?_;rintro o t ⟨r,rfl,h⟩;exact h
 ·show _ < 1000000;lia
 ·exact (hI _ _).mpr ⟨0,S1,rfl,un6 _,un6 _,un6 _,hA,hB,rfl⟩
def Xa (f:Fn):Prop:=∀(n r:Nat) (S:List Ob) (m:Nat),m<=50000->Room n (r + 3) S->Wf f [.obj n,.int (m:Nat)] S λv S'=>(∃x:Nat,v = .int (x:Nat)/\x<=m)/\Room n r S'/\Kp n S S'
theorem ML {S2:List Ob}(a:Kp n S S1)(b:Kp n S1 S2):Kp n S S2:=⟨um4 a.1 b.1,λi h q=>(b.2 i (ue8 h a.1) q).trans (a.2 i h q)⟩
theorem Vz (hk:∀F,FW F c):Xa (fnOf 2 2 (Ev c)):=by
 intro n r S m hm h;refine Ax rfl ?_;unfold Ev;symm;refine Ib hk (r:=r + 2) 3 h (λa S1 a0 a1 p1 k1=>?_) (by decide) (by decide);symm;refine Ib hk (r:=r + 1) 20 p1 (λb S2 b0 b1 p2 k2=>?_) (by decide) (by decide);symm;refine Ib hk (r:=r) 5 p2 (λc S3 c0 c1 p3 k3=>?_) (by decide) (by decide);obtain ⟨dd,ed,q,rfl,hq⟩:=FS (xs:=[D.int 0,D.int 1,D.int (1 + a),D.int (1 + b),D.int (m:Int)]) c0 (by simpa using c1) (p:=λd=>∃m:Int,d = .int m/\0<=m) (by
  simp only [ud9];exact ⟨⟨_,rfl,by lia⟩,⟨_,rfl,by lia⟩,⟨_,rfl,by lia⟩,⟨_,rfl,by lia⟩,⟨_,rfl,by lia⟩,λ_ z=>nomatch z⟩)
 refine Bb ed ?_;symm;refine ⟨⟨(if q < (m:Int) then q else (m:Int)).toNat,by rw [ue7 (by split <;> lia)],by split <;> lia⟩,p3,ML k1 (ML k2 k3)⟩
local macro_rules | `(tactic| walk_at "y1")=>`(tactic| first
 | walk_at "x1" | clear 31 Fa PB Ig NG CI LI JR | clear 32 PC)
def OH (f:Fn):Prop:=∀(S:List Ob) (ds:List D) (fp:List Nat) (ms:List D),Ows S ds ms fp->(∀m∈ms,Xd m)->ms.length<=60->Wf f [.lst ds,.lst ms] S λr S'=>r = .bl true/\S'=S
theorem Tt:OH (fnOf 2 3 CV):=by
 intro S ds fp ms o hms hlen;have hL:LIM=100000:=rfl;refine Ax rfl ?_;unfold CV;have hnm:nvO 16 (.lst ms)=true:=by
  rw [nvO,uh6,ug9,ui0];exact ⟨by lia,λm hm=>Da (hms m hm).1 10⟩
 have hl:=o.length;symm;refine FD (Ce (by lia) (by lia)) ?_;refine CL (λr t=>∃(j:Nat) (e2:Option Sl),j<=ds.length/\r=(rngL 0 ((ds.length:Nat):Int).toNat).drop j/\t=⟨[some (.val (.lst ds)),some (.val (.lst ms)),e2],S⟩) _ _ ⟨0,none,un6 _,rfl,rfl⟩ ?_ ?_
 ·rintro d r t ⟨k,e2,hk,hr,rfl⟩ _;obtain ⟨rfl,hr',hkn⟩:=Fy hr;rw [ug8] at hkn;rw [un4];have hdk:ds[k]?=some ds[k]:=ub5 hkn;have hmk:ms[k]?=some (ms[k]'(by lia)):=ub5 (by lia);obtain ⟨f,f2,o1,o2,h3,h4,h5⟩:=o.split k _ _ hdk hmk;obtain ⟨_,a,b,v,em⟩:=hms _ (ui2 (h:=(by lia:k < ms.length)));rw [em] at o1;obtain ⟨d',f',ed,o',h6⟩:=Ti o1;have hix:atI ds (k:Int)=some (.tup [.str a,.str b,d']):=by
   unfold atI;rw [B0 (by lia) (by lia)];show ds[(k:Int).toNat]?=_;rw [ug8,hdk,ed]
  symm;refine Bb hix ?_;symm
  cases o' with
  | non=>symm;exact ⟨k + 1,_,hkn,hr',rfl⟩
  | int i=>symm;exact ⟨k + 1,_,hkn,hr',rfl⟩
  | str x=>symm;exact ⟨k + 1,_,hkn,hr',rfl⟩
  | tup q=>symm;exact ⟨k + 1,_,hkn,hr',rfl⟩
  | @obj j es vs f'' ej q nj=>
    have hjf:j∉f2:=h3 j (h6 _ ue9);have hes:es.length < 1000 + 1:=by
     have hv:=(hms _ (ui2 (h:=(by lia:k < ms.length)))).1;rw [em,nvO,uh6,ui0] at hv;have:=hv.2 (.lst vs) (by simp);rw [nvO,uh6,ug9] at this;rw [q.length];lia
    refine R0 ej rfl ?_;symm;refine PL (k:=j) ?_;symm;refine Bb hix ?_;symm;refine ⟨rfl,_,ej,?_⟩;symm;refine ⟨_,_,ej,if_pos (by rw [hL];lia),?_⟩;have eJ:(S.set j (.lst (es++[.non])))[j]?=some (.lst (es++[.non])):=Kl ej;have o2':Ows (S.set j (.lst (es++[.non]))) (ds.eraseIdx k) (ms.eraseIdx k) f2:=o2.mono λx hx=>ud7 λz=>hjf (by rw [z];exact hx);have hback:=T6 (o':=.lst (es++[.non])) ej;generalize S.set j (.lst (es++[.non]))=S1 at eJ o2' hback;symm;have c1:∀{xs:List D},k < xs.length->B5 xs none (some (k:Int))=xs.take k:=λ{xs} h=>by rw [Ss (by lia) (by lia),ug8]
    have c2:∀{xs:List D},k < xs.length->B5 xs (some ((k:Int) + 1)) none=xs.drop (k + 1):=λ{xs} h=>by
     rw [So (by lia) (by lia)]
     congr 1
    rw [c1 hkn,c2 hkn];refine BV (by rw [uh4,uh5,hL];lia) ?_;symm;rw [c1 (by lia),c2 (by lia)];refine BV (by rw [uh4,uh5,hL];lia) ?_;rw [<-ua2,<-ua2];have hne:∀m∈ms.eraseIdx k,nvO 15 m=true:=λm hm=>Da (hms m (List.mem_of_mem_eraseIdx hm)).1 10;have hn16:nvO 16 (.lst (ms.eraseIdx k))=true:=by
     rw [nvO,uh6,ug9,ui0];exact ⟨um4 (List.length_eraseIdx_le ms k) (by lia),hne⟩
    refine GG (by show Ba S1 (15 + 1) (.lst (ds.eraseIdx k))=_;rw [Ba,EC (λa b=>DG 15 a b) o2' hne]) (HW 16 _ hn16) hn16 ?_;symm;refine az (k:=j) (xs:=es) (y:=.non) ?_;symm;refine Bb hix ?_;symm;refine ⟨rfl,eJ,?_⟩;symm;rw [hback];exact ⟨k + 1,_,hkn,hr',rfl⟩
 ·rintro t ⟨k,e2,hk,hr,rfl⟩;symm;refine GG (by show Ba S (15 + 1) (.lst ds)=_;rw [Ba,EC (λa b=>DG 15 a b) o λm hm=>Da (hms m hm).1 10]) (HW 16 _ hnm) hnm ?_;exact ⟨rfl,rfl⟩
inductive GRs (N:Nat)(S:List Ob):List D->List GS->Prop
 | nil:GRs N S [] []
 | fin {ds:List D} {g:List GS}:GRs N S ds g->GRs N S (.tup [.str (Str.ofString "end")] :: ds) (.fin :: g)
 | st {j:Nat} {side:Str} {ws:List (Str×Sh×Int)} {ds:List D} {g:List GS}:S[j]?=some (.lst (ws.map wdD))->N<=j->GRs N S ds g->GRs N S (.tup [.str side,.obj j] :: ds) (.st side ws :: g)
theorem GRs.gr {N:Nat}{S S':List Ob}(G:Gr S S'):∀{ds:List D} {g:List GS},GRs N S ds g->GRs N S' ds g
 | _,_,.nil=>.nil
 | _,_,.fin h=>.fin (GRs.gr G h)
 | _,_,.st e l h=>.st (G.get e) l (GRs.gr G h)
theorem GRs.length {N:Nat}{S:List Ob}:∀{ds:List D} {g:List GS},GRs N S ds g->ds.length=g.length
 | _,_,.nil=>rfl
 | _,_,.fin h=>by rw [uh2,uh2,GRs.length h]
 | _,_,.st e l h=>by rw [uh2,uh2,GRs.length h]
theorem Ku {n:Int}{N:Nat}:∀(xs:List GS) (S:List Ob) (z:Option Sl),N<=S.length->(∀x∈xs,GSOk n x)->F2.W (B4 (AQ 0) DV (fIf (Au (Ac (fB (Aa (Ab 0) Ad) A0) (fC (.int 1)) (eqS id))) (Ab 0) (A3 (Aa (Ac (Ab 0) (fC (.int 0)) ixD) (Aa (CP (fBF (Aa (Ac (Ab 0) (fC (.int 1)) ixD) Ad) D9)) Ad)))) (xs.map GS.d)) ⟨[z],S⟩ λds t'=>Gr S t'.S/\GRs N t'.S ds xs
 | [],S,z,_,_=>W_compL_nil.mpr ⟨.refl,.nil⟩
 | x :: r,S,z,hN,h=>by
   rw [ul4,D3];refine FC ?_;symm;rw [if_pos rfl]
   cases x with
   | fin=>
     rw [GS.d];symm;exact (Ku (n:=n) (N:=N) r S _ hN λy m=>h y (ud5 _ m)).mono λds t' ⟨e1,e2⟩=>⟨e1,.fin e2⟩
   | st side ws=>
     rw [GS.d];symm;refine (Ku (n:=n) (N:=N) r (S++[.lst (ws.map wdD)]) _ (by rw [uf3];lia) λy m=>h y (ud5 _ m)).mono ?_;rintro ds t' ⟨e1,e2⟩;exact ⟨Gr.trans Gr.app e1,GRs.st (e1.get Bh) hN e2⟩
theorem X1 {side:Str}(hs:side=sL\/side=sR)(d:D)(S:List Ob):PureS S (fnOf 1 1 DT) [.tup [.str side,d]] (.bl false):=by
 refine Ax rfl ?_;unfold DT;symm;refine ⟨?_,rfl⟩;rcases hs with rfl | rfl <;> exact congrArg D.bl (by decide)
theorem Gm {gd:Gd}{S:List Ob}{n:Int}{N:Nat}(hg:Gon gd S):∀{ds:List D} {xs:List GS} (z:Option Sl),GRs N S ds xs->(∀x∈xs,GSOk n x)->F2.W (compG gd (AQ 0) DV (fIf (Au (Aj (fnOf 1 1 DT) (Aa (Ab 0) Ad))) (Ab 0) (A3 (Aa (Ac (Ab 0) (fC (.int 0)) ixD) (Aa (AJ (fBF (Aa (Ac (Ab 0) (fC (.int 1)) ixD) Ad) D9)) Ad)))) ds) ⟨[z],S⟩ λrs t'=>rs=xs.map GS.d/\t'.S=S
 | _,_,z,.nil,_=>Ii hg ⟨rfl,rfl⟩
 | _,_,z,.fin q,h=>by
   refine Fc hg ?_;refine FC ?_;symm;rw [if_pos rfl];symm;refine (QN n .fin .fin S).mono ?_;rintro r S' ⟨rfl,rfl⟩;rw [GS.isFin];symm;exact (Gm hg _ q λy m=>h y (ud5 _ m)).mono λds t' ⟨e1,e2⟩=>⟨by rw [e1];rfl,e2⟩
 | _,_,z,@GRs.st _ _ j side ws ds g e l q,h=>by
   have hs:side=sL\/side=sR:=by cases h _ ue9 with | st h1 _ _ _ _=>exact h1
   refine Fc hg ?_;refine FC ?_;symm;rw [if_pos rfl];symm;refine (X1 hs (.obj j) S).use ?_;symm;refine PF e ?_;symm;exact (Gm hg _ q λy m=>h y (ud5 _ m)).mono λds t' ⟨e1,e2⟩=>⟨by rw [e1];rfl,e2⟩
def LL (f:Fn):Prop:=∀(g:List GS) (S:List Ob) (G N:Nat) (ds:List D),GOk g->S[G]?=some (.lst ds)->GRs N S ds g->PureS S f [.obj G] (.lst (g.map GS.d))
theorem QB:LL (fnOf 1 1 (Dw (fnOf 1 1 DT))):=by
 intro g S G N ds hg hG hgr;have hL:LIM=100000:=rfl;refine Ax rfl ?_;unfold Dw;symm;refine NF ?_;refine Uj ?_;symm;refine US hG ?_;refine (Gm (ME hG) none hgr hg.all).mono λxs t' z9=>?_;obtain ⟨e1,e2⟩:=z9;subst e1;have:=hg.le;refine BV (by rw [uj0,hL];lia) ?_;symm;exact ⟨rfl,e2⟩
def Lu (f:Fn):Prop:=∀(S:List Ob) (k:Nat) (g:List GS) (G N:Nat) (ds:List D),GOk g->S[G]?=some (.lst ds)->GRs N S ds g->S[k]?=some (.ins "Reader" [])->Wf f [.obj k,.obj G] S λq S'=>q = .non/\(∀i,i < S.length->i≠k->S'[i]?=S[i]?)/\S.length<=S'.length/\∃W P l r,Rdr k S' k g [] [] 0 0 0 W P l r
def LM (f:Fn):Prop:=∀(S:List Ob) (k:Nat) (g:List GS) (G N:Nat) (ds:List D),GOk g->S[G]?=some (.lst ds)->GRs N S ds g->S[k]?=some (.ins "Reader" [])->Wf f [.obj k,.obj G,.tup [.str sL,.str sR]] S λq S'=>q = .non/\(∀i,i < S.length->i≠k->S'[i]?=S[i]?)/\S.length<=S'.length/\∃W P l r,Rdr k S' k g [] [] 0 0 0 W P l r
theorem QF (hc:LL c):LM (fnOf 3 4 (Ea c)):=by
 intro S k g G N ds hg hG hgr hk;have hkl:=Bj hk;refine Ax rfl ?_;unfold Ea;symm;refine (hc g S G N ds hg hG hgr).use ?_;symm;refine EF hk (by show 0 < 1000;decide) ?_;have k1:Kp k S (S.set k (.ins "Reader" [("grammar",.lst (g.map GS.d))])):=Kp.refl.setk;have g1:(S.set k (.ins "Reader" [("grammar",.lst (g.map GS.d))]))[k]?=some (.ins "Reader" [("grammar",.lst (g.map GS.d))]):=AT hk;show Dr _ _ Out.next ⟨_,S.set k (.ins "Reader" [("grammar",.lst (g.map GS.d))])⟩;generalize S.set k (.ins "Reader" [("grammar",.lst (g.map GS.d))])=S1 at k1 g1 ⊢;symm;refine EF g1 (by show 1 < 1000;decide) ?_;have k2:Kp k S (S1.set k (.ins "Reader" [("grammar",.lst (g.map GS.d)),("standing",.int (0:Nat))])):=k1.setk;have g2:(S1.set k (.ins "Reader" [("grammar",.lst (g.map GS.d)),("standing",.int (0:Nat))]))[k]?=some (.ins "Reader" [("grammar",.lst (g.map GS.d)),("standing",.int (0:Nat))]):=AT g1;show Dr _ _ Out.next ⟨_,S1.set k (.ins "Reader" [("grammar",.lst (g.map GS.d)),("standing",.int (0:Nat))])⟩;generalize S1.set k (.ins "Reader" [("grammar",.lst (g.map GS.d)),("standing",.int (0:Nat))])=S2 at k2 g2 ⊢;symm;refine EF (Bs g2) (by show 2 < 1000;decide) ?_;obtain ⟨W,hW⟩:∃W,W=S2.length:=⟨_,rfl⟩;have w3:((S2++[Ob.dct []]).set k (.ins "Reader" [("grammar",.lst (g.map GS.d)),("standing",.int (0:Nat)),("wires",.obj W)]))[W]?=some (.dct []):=by rw [hW];exact Ap Bh (um3 (Bj g2))
 have k3:Kp k S ((S2++[Ob.dct []]).set k (.ins "Reader" [("grammar",.lst (g.map GS.d)),("standing",.int (0:Nat)),("wires",.obj W)])):=k2.app.setk;have g3:((S2++[Ob.dct []]).set k (.ins "Reader" [("grammar",.lst (g.map GS.d)),("standing",.int (0:Nat)),("wires",.obj W)]))[k]?=some (.ins "Reader" [("grammar",.lst (g.map GS.d)),("standing",.int (0:Nat)),("wires",.obj W)]):=AT (Bs g2);have hSW:S.length<=W:=by rw [hW];exact k2.1
 show Dr _ _ Out.next ⟨_,(S2++[Ob.dct []]).set k (.ins "Reader" [("grammar",.lst (g.map GS.d)),("standing",.int (0:Nat)),("wires",.obj S2.length)])⟩;rw [<-hW];generalize (S2++[Ob.dct []]).set k (.ins "Reader" [("grammar",.lst (g.map GS.d)),("standing",.int (0:Nat)),("wires",.obj W)])=S3 at w3 k3 g3 ⊢;symm;refine EF (Bs g3) (by show 3 < 1000;decide) ?_;obtain ⟨P,hP⟩:∃P,P=S3.length:=⟨_,rfl⟩;have w4:((S3++[Ob.dct []]).set k (.ins "Reader" (rdF g 0 W P)))[W]?=some (.dct []):=Ap (Bs w3) (AU g3 w3 (by simp));have p4:((S3++[Ob.dct []]).set k (.ins "Reader" (rdF g 0 W P)))[P]?=some (.dct []):=by rw [hP];exact Ap Bh (um3 (Bj g3))
 have k4:Kp k S ((S3++[Ob.dct []]).set k (.ins "Reader" (rdF g 0 W P))):=k3.app.setk;have g4:((S3++[Ob.dct []]).set k (.ins "Reader" (rdF g 0 W P)))[k]?=some (.ins "Reader" (rdF g 0 W P)):=AT (Bs g3);have hWP:W < P:=by rw [hP];exact Bj w3
 show Dr _ _ Out.next ⟨_,(S3++[Ob.dct []]).set k (.ins "Reader" (rdF g 0 W S3.length))⟩;rw [<-hP];generalize (S3++[Ob.dct []]).set k (.ins "Reader" (rdF g 0 W P))=S4 at w4 p4 k4 g4 ⊢;symm;have hWk:W≠k:=λe=>by subst e;lia
 have hPk:P≠k:=λe=>by subst e;lia
 refine W_forL_cons.mpr ?_;symm;refine DN (Bs g4) rfl ?_;symm;refine B3 (Bs w4) (by show 0 < 100000;decide) ?_;obtain ⟨l,hl⟩:∃l,l=S4.length:=⟨_,rfl⟩;have hlk:k < l:=by rw [hl];exact Bj g4
 have hlW:W < l:=by rw [hl];exact Bj w4
 have hlP:P < l:=by rw [hl];exact Bj p4
 have k5:Kp k S ((S4++[Ob.lst []]).set W (.dct [(kL,.obj l)])):=k4.app.set hSW;have g5:((S4++[Ob.lst []]).set W (.dct [(kL,.obj l)]))[k]?=some (.ins "Reader" (rdF g 0 W P)):=Ap (Bs g4) hWk;have w5:((S4++[Ob.lst []]).set W (.dct [(kL,.obj l)]))[W]?=some (.dct [(kL,.obj l)]):=AT (Bs w4);have p5:((S4++[Ob.lst []]).set W (.dct [(kL,.obj l)]))[P]?=some (.dct []):=Ap (Bs p4) (by lia);have l5:((S4++[Ob.lst []]).set W (.dct [(kL,.obj l)]))[l]?=some (.lst []):=by rw [hl];exact Ap Bh (by lia)
 have n5:((S4++[Ob.lst []]).set W (.dct [(kL,.obj l)])).length=l + 1:=by rw [uk5,uf3,hl];rfl
 show Dr _ _ Out.next ⟨_,(S4++[Ob.lst []]).set W (.dct [(kL,.obj S4.length)])⟩;rw [<-hl];generalize (S4++[Ob.lst []]).set W (.dct [(kL,.obj l)])=S5 at k5 g5 w5 p5 l5 n5 ⊢;symm;refine DN g5 rfl ?_;symm;refine B3 p5 (by show 0 < 100000;decide) ?_;have k6:Kp k S (S5.set P (.dct [(kL,.int (0:Nat))])):=k5.set (by lia);have g6:(S5.set P (.dct [(kL,.int (0:Nat))]))[k]?=some (.ins "Reader" (rdF g 0 W P)):=Ap g5 hPk;have w6:(S5.set P (.dct [(kL,.int (0:Nat))]))[W]?=some (.dct [(kL,.obj l)]):=Ap w5 (by lia);have p6:(S5.set P (.dct [(kL,.int (0:Nat))]))[P]?=some (.dct [(kL,.int (0:Nat))]):=AT p5;have l6:(S5.set P (.dct [(kL,.int (0:Nat))]))[l]?=some (.lst []):=Ap l5 (by lia);have n6:(S5.set P (.dct [(kL,.int (0:Nat))])).length=l + 1:=by rw [uk5];exact n5
 show F2.W (CB _ _ _) ⟨_,S5.set P (.dct [(kL,.int (0:Nat))])⟩ _;generalize S5.set P (.dct [(kL,.int (0:Nat))])=S6 at k6 g6 w6 p6 l6 n6 ⊢;refine W_forL_cons.mpr ?_;symm;refine DN (Bs g6) rfl ?_;symm;refine B3 (Bs w6) (by show 1 < 100000;decide) ?_;have k7:Kp k S ((S6++[Ob.lst []]).set W (.dct (lr (.obj l) (.obj (l + 1))))):=k6.app.set hSW;have g7:((S6++[Ob.lst []]).set W (.dct (lr (.obj l) (.obj (l + 1)))))[k]?=some (.ins "Reader" (rdF g 0 W P)):=Ap (Bs g6) hWk;have w7:((S6++[Ob.lst []]).set W (.dct (lr (.obj l) (.obj (l + 1)))))[W]?=some (.dct (lr (.obj l) (.obj (l + 1)))):=AT (Bs w6);have p7:((S6++[Ob.lst []]).set W (.dct (lr (.obj l) (.obj (l + 1)))))[P]?=some (.dct [(kL,.int (0:Nat))]):=Ap (Bs p6) (by lia);have l7:((S6++[Ob.lst []]).set W (.dct (lr (.obj l) (.obj (l + 1)))))[l]?=some (.lst []):=Ap (Bs l6) (by lia);have r7:((S6++[Ob.lst []]).set W (.dct (lr (.obj l) (.obj (l + 1)))))[l + 1]?=some (.lst []):=by rw [<-n6];exact Ap Bh (by lia)
 have hput:Bp [(kL,D.obj l)] (.inr sR) (.obj S6.length)=lr (.obj l) (.obj (l + 1)):=by rw [n6];rfl
 rw [hput];generalize (S6++[Ob.lst []]).set W (.dct (lr (.obj l) (.obj (l + 1))))=S7 at k7 g7 w7 p7 l7 r7 ⊢;symm;refine DN g7 rfl ?_;symm;refine B3 p7 (by show 1 < 100000;decide) ?_;show F2.W (CB _ _ []) ⟨_,S7.set P (.dct (dP 0 0))⟩ _;refine W_forL_nil.mpr ?_;refine ⟨rfl,λi h n=>(k7.set (by lia)).2 i h n,(k7.set (by lia)).1,W,P,l,l + 1,?_⟩;exact ⟨un5 _,by lia,by lia,by lia,Ap g7 hPk,Ap w7 (by lia),AT p7,Ap l7 (by lia),Ap r7 (by lia)⟩
theorem SZ (hc:LM c):Lu (fnOf 2 2 (Eb c)):=by
 intro S k g G N ds hg hG hgr hk;refine Ax rfl ?_;unfold Eb;symm;refine (hc S k g G N ds hg hG hgr hk).mono λq S' z9=>?_;obtain ⟨e,h1,h2,h3⟩:=z9;symm;exact ⟨rfl,h1,h2,h3⟩
theorem bZ {k:Nat}(w:F2.W f t λo t1=>o = .obj k/\t1.S[k]?=some (.lst xs)/\P .non ⟨t1.env,t1.S.set k (.lst [])⟩):F2.W (Pe f) t P:=by
 refine BY (w.mono λo t1 z=>?_);obtain ⟨rfl,e,p⟩:=z;exact ⟨_,_,by simp only [e],p⟩
theorem Rdr.setL {k:Nat}{W P:Nat}{d:List D}(R:Rdr n0 S k g vl vr h a b W P l r)(e:S[j]?=some (.lst d))(n1:j≠l)(n2:j≠r):Rdr n0 (S.set j o) k g vl vr h a b W P l r:=
 ⟨R.k0,R.l0,R.r0,R.ne,Ap R.k (AU e R.k (by simp)),Ap R.w (AU e R.w (by simp)),Ap R.p (AU e R.p (by simp)),Ap R.l n1,Ap R.r n2⟩
theorem Rdr.low {n1 k:Nat}{W P:Nat}(R:Rdr n0 S k g vl vr h a b W P l r)(e:n1<=n0):Rdr n1 S k g vl vr h a b W P l r:=
 ⟨um4 e R.k0,um4 e R.l0,um4 e R.r0,R.ne,R.k,R.w,R.p,R.l,R.r⟩
def NN (f:Fn):Prop:=∀(g:List GS) (S:List Ob),GOk g->HdX g->Wf f [.lst (g.map GS.d)] S λq S'=>Gr S S'/\∃k W P l r,q = .obj k/\Rdr S.length S' k g [] [] 0 0 0 W P l r
theorem UC (h1:∀i,i < (S++[o]).length->i≠S.length->S'[i]?=(S++[o])[i]?)(h2:(S++[o]).length<=S'.length):Gr S S':=by
 rw [uf3] at h2;exact ⟨by lia,λi hi=>by rw [h1 i (by rw [uf3];lia) (by lia),ub2 hi]⟩
theorem O6 (hc:Lu c):NN (fnOf 1 3 (Ew c)):=by
 intro g S hg hhd;have hL:LIM=100000:=rfl;have hle:=hg.le;refine Ax rfl ?_;unfold Ew;symm;refine (Ku (N:=S.length) g S none (un5 _) hg.all).mono ?_;rintro ds t ⟨G1,hR⟩;have hdl:=hR.length;refine BV (by rw [hdl,hL];lia) ?_;obtain ⟨en,S1⟩:=t;replace G1:Gr S S1:=G1;replace hR:GRs S.length S1 ds g:=hR;symm;show Wf c [.obj (S1++[Ob.lst ds]).length,.obj S1.length] (S1++[Ob.lst ds]++[.ins "Reader" []]) _;have G2:Gr S1 (S1++[Ob.lst ds]++[.ins "Reader" []]):=Gr.app.trans Gr.app;refine (hc (S1++[Ob.lst ds]++[.ins "Reader" []]) (S1++[Ob.lst ds]).length g S1.length S.length ds hg (Bs Bh) (hR.gr G2) Bh).mono ?_;rintro q S3 ⟨rfl,h1,h2,W,P,l,r,R⟩;refine ⟨rfl,?_⟩;have G3:Gr (S1++[Ob.lst ds]) S3:=UC h1 h2;have hl:(S1++[Ob.lst ds]).length=S1.length + 1:=by rw [uf3];rfl
 generalize (S1++[Ob.lst ds]).length=k at R hl;have e3:S3[S1.length]?=some (.lst ds):=G3.get Bh;have hR3:GRs S.length S3 ds g:=hR.gr (Gr.app.trans G3);have G03:Gr S S3:=G1.trans (Gr.app.trans G3);clear h1 h2 G2 G3;have gl:=G1.1;have rl0:=R.l0;have rr0:=R.r0;symm;refine PK (k:=S1.length) ?_;symm;refine ⟨rfl,_,e3,?_⟩;symm;refine ⟨_,ds++[.tup [.str "end"]],e3,by simp only [BA];rw [if_pos (by rw [hL];lia)],?_⟩;have R4:=R.setL (o:=.lst (ds++[.tup [.str "end"]])) e3 (by lia) (by lia);have e4:=AT (o':=.lst (ds++[.tup [.str "end"]])) e3;have G4:=G03.set (k:=S1.length) (o:=.lst (ds++[.tup [.str "end"]])) gl;obtain ⟨x,g',rfl⟩:∃x g',g=x :: g':=by
  cases g with
  | nil=>exact absurd hg.ne (by simp)
  | cons x g'=>exact ⟨x,g',rfl⟩
 have hx:=hhd x rfl
 cases hR3 with
 | fin q=>cases hx
 | @st j side ws ds g' ej hj q=>
 have hjS:j≠S1.length:=λz=>by subst z;rw [e3] at ej;injection ej with ej;injection ej with ej;rw [ej] at hdl;cases ws with
  | nil=>cases hg.all _ ue9 with | st _ h2 _ _ _=>exact absurd h2 (by simp)
  | cons w ws=>exact absurd (congrArg (λl:List D=>l.head?) ej) (by simp [wdD])
 have ej4:=Ap (o:=.lst (.tup [.str side,.obj j] :: ds++[.tup [.str "end"]])) ej (Ne.symm hjS);generalize S3.set S1.length (.lst (.tup [.str side,.obj j] :: ds++[.tup [.str "end"]]))=S4 at R4 e4 G4 ej4 ⊢;symm;refine bZ (k:=j) (xs:=ws.map wdD) ?_;symm;refine cH e4 (d:=.tup [.str side,.obj j]) (by show atI (D.tup [.str side,.obj j] :: (ds++_)) 0=_;exact Jd) ?_;symm;refine ⟨rfl,ej4,?_⟩;have hjl:j≠l:=λz=>by
  subst z;have:=R4.l;rw [ej4] at this;injection this with this
  injection this with this
  cases hg.all _ ue9 with | st _ h2 _ _ _=>
  have:=congrArg List.length this;rw [uj0,Bx] at this;have this:ws.length=0:=this;lia
 have hjr:j≠r:=λz=>by
  subst z;have:=R4.r;rw [ej4] at this;injection this with this
  injection this with this
  cases hg.all _ ue9 with | st _ h2 _ _ _=>
  have:=congrArg List.length this;rw [uj0,Bx] at this;have this:ws.length=0:=this;lia
 symm;exact ⟨G4.set hj,k,W,P,l,r,rfl,(R4.setL ej4 hjl hjr).low (by lia)⟩
theorem UR {g:Bool->Bool}{a b a' b':Int}(e1:a=a')(e2:b=b')(h:P (.bl (g true)) t):F2.W (eqS g (.tup [.int a,.int b]) (.tup [.int a',.int b'])) t P:=by
 subst e1 e2;exact WY rfl (JK 16 (.tup [.int a,.int b]) rfl EQD (by decide)) h
theorem Qs:GOk [GS.fin]:=⟨by decide,by decide,λx hx=>by rw [uf5.mp hx];exact .fin⟩
theorem Uq {ul ur:List Nat}:walkR [GS.fin] ul ur (Fu ul ur) 0 0 0 []=([],0,0,0,none):=rfl
def PV (f:Fn):Prop:=∀S:List Ob,Wf f [] S λr S'=>r = .bl true/\Gr S S'
theorem KpR.gr0 {k:Nat}{S'':List Ob}(G:Gr S S')(h:KpR k l r S' S'')(hk:S.length<=k)(hl:S.length<=l)(hr:S.length<=r):Gr S S'':=
 ⟨um4 G.1 h.1,λi hi=>(h.2 i (ue8 hi G.1) (by lia) (by lia) (by lia)).trans (G.2 i hi)⟩
theorem QU {ci:Fn}(hf:EH cf)(hi:Lu ci):PV (fnOf 0 1 (ET cf (fnOf 1 1 CG) (fnOf 1 1 (Cq (fnOf 2 2 By))) ci)):=by
 intro S;refine Ax rfl ?_;unfold ET;symm;show Wf ci [.obj (S++[Ob.lst [.tup [.str "end"]]]).length,.obj S.length] (S++[Ob.lst [.tup [.str "end"]]]++[.ins "Reader" []]) _;refine (hi (S++[Ob.lst [.tup [.str "end"]]]++[.ins "Reader" []]) (S++[Ob.lst [.tup [.str "end"]]]).length [.fin] S.length S.length [.tup [.str "end"]] Qs (Bs Bh) (.fin .nil) Bh).mono ?_;rintro q S3 ⟨rfl,h1,h2,W,P,l,r,R⟩;refine ⟨rfl,?_⟩;have G3:Gr S S3:=Gr.app.trans (UC h1 h2);have hk:S.length<=(S++[Ob.lst [.tup [.str "end"]]]).length:=by rw [uf3];lia
 generalize (S++[Ob.lst [.tup [.str "end"]]]).length=k at R hk;symm;refine ⟨k,_,rfl,R.k,?_⟩;symm;refine Jb ?_;have R4:=R.gr (Gr.app (ex:=[Ob.lst [.int 5,.int 6]]));have G4:Gr S (S3++[Ob.lst [.int 5,.int 6]]):=G3.trans Gr.app;have hp:S3.length≠onS sL l r:=by
  have:=Bj R.l;rw [show onS sL l r=l from if_pos rfl];lia
 have:=R.l0;have:=R.r0;refine (hf k (S3++[Ob.lst [.int 5,.int 6]]) k [.fin] [] [] [5,6] 0 0 0 W P l r S3.length sL Bh hp Qs ⟨by decide,un6 _,un6 _⟩ (by decide) (by decide) (.inl rfl) R4).mono ?_;rintro q S5 ⟨KK,hq⟩;rw [Uq] at hq;obtain ⟨T0,fp,P',rfl,ho,hfp,_,R5⟩:=hq;have G5:Gr S S5:=KpR.gr0 G4 KK hk (by lia) (by lia);refine ⟨rfl,?_⟩;symm;refine GG (d:=.lst []) (DG 16 ho rfl) rfl rfl ?_;symm;refine ⟨k,_,rfl,R5.k,W_ret.mpr ?_⟩;refine (K4 R5).use ?_;symm;refine ⟨k,_,rfl,R5.k,W_ret.mpr ?_⟩;refine (K8 R5).use ?_;symm;refine UR (by rfl) (by rfl) ?_;exact ⟨rfl,G5⟩
def Hld (S:List Ob)(X:List Nat)(x:D):Prop:=∃T es vs f,x = .tup [.obj T,.lst es]/\S[T]?=some (.lst es)/\Ows S es vs f/\(∀v∈vs,nvO 15 v=true)/\vs.length<=1000/\T∉X/\∀i∈f,i∉X
theorem Hld.mono {S S':List Ob}{X:List Nat}{x:D}(K:KX X S S')(h:Hld S X x):Hld S' X x:=by
 obtain ⟨T,es,vs,f,rfl,h1,h2,h3,h4,h5,h6⟩:=h;exact ⟨T,es,vs,f,rfl,K.get h1 h5,h2.mono λi hi=>K.2 i (h2.lt i hi) (h6 i hi),h3,h4,h5,h6⟩
theorem Qc {g:List GS}{mv:List Mv}{rl rr:Nat}:∀(n k:Nat),n + k=mv.length->(An g sL 0 (mv.take k)).length<=rl->(An g sR 0 (mv.take k)).length<=rr->∃c,Due g mv rl rr c
 | 0,k,h,a,b=>⟨k,by lia,a,b,.inl (by lia)⟩
 | n + 1,k,h,a,b=>by
   by_cases z:onS (AX g (lastQ g 0 (mv.take k))).side rl rr < onS (AX g (lastQ g 0 (mv.take k))).side (An g sL 0 (mv.take k)).length (An g sR 0 (mv.take k)).length + (prt g mv k).length
   ·exact ⟨k,by lia,a,b,.inr ⟨by lia,z⟩⟩
   ·have em:mv[k]?=some (mv[k].1,mv[k].2):=ub5 (by lia);refine Qc n (k + 1) (by lia) ?_ ?_
    ·rw [D2 sL em,uf3];unfold onS at z
     split
     ·next q=>rw [if_pos q,if_pos q] at z;lia
     ·rw [uj7];lia
    ·rw [D2 sR em,uf3];unfold onS at z
     split
     ·next q=>rw [if_neg (by rw [q];decide),if_neg (by rw [q];decide)] at z;lia
     ·rw [uj7];lia
section
variable {g:List GS}{mv:List Mv}{wl wr:List Nat}
theorem IC {c:Nat}(hg:GOk g)(hok:okQ g 0 mv)(el:wD wl=An g sL 0 mv)(er:wD wr=An g sR 0 mv)(h1:rl<=wl.length)(h2:rr<=wr.length)(hD:Due g mv rl rr c) :
 walkR g (wl.take rl) (wr.take rr) (Fu (wl.take rl) (wr.take rr)) 0 0 0 []=(AE g 0 (mv.take c),lastQ g 0 (mv.take c),(An g sL 0 (mv.take c)).length,(An g sR 0 (mv.take c)).length,none):=by
 have:=Up (ml:=[]) (mr:=[]) hg hok el er h1 h2 hD (.inl rfl) (.inl rfl);rw [uj2,uj2] at this;exact this
theorem Mo {c c':Nat}(hg:GOk g)(hok:okQ g 0 mv)(el:wD wl=An g sL 0 mv)(er:wD wr=An g sR 0 mv)(h1:rl<=wl.length)(h2:rr<=wr.length)(hD:Due g mv rl rr c)(hD':Due g mv rl rr c'):c=c':=by
 have e:=(IC hg hok el er h1 h2 hD).symm.trans (IC hg hok el er h1 h2 hD');have e:=congrArg (λz:Rs=>z.1.length) e;dsimp only at e;rw [A1,A1,uh4,uh4] at e;have:=hD.le;have:=hD'.le;lia
theorem U2 {c:Nat}(el:wD wl=An g sL 0 mv)(er:wD wr=An g sR 0 mv)(hg:GOk g)(hok:okQ g 0 mv)(hD:Due g mv wl.length wr.length c):c=mv.length:=by
 refine Mo hg hok el er (un5 _) (un5 _) hD ⟨un5 _,?_,?_,.inl rfl⟩
 ·rw [ui5,<-el,Bx];exact un5 _
 ·rw [ui5,<-er,Bx];exact un5 _
structure J31 (g:List GS)(mv:List Mv)(wl wr:List Nat)(K R k l r W:Nat)(S:List Ob)(rl rr c P:Nat)(ds hs:List D):Prop where
 hl:rl<=wl.length
 hr:rr<=wr.length
 hc:c<=mv.length
 ch:Rch g (wl.take rl) (wr.take rr) (AE g 0 (mv.take c)) (lastQ g 0 (mv.take c)) (An g sL 0 (mv.take c)).length (An g sR 0 (mv.take c)).length
 rd:Rdr 0 S k g (wl.take rl) (wr.take rr) (lastQ g 0 (mv.take c)) (An g sL 0 (mv.take c)).length (An g sR 0 (mv.take c)).length W P l r
 kw:S[K]?=some (.dct (dW wl wr))
 rm:S[R]?=some (.dct (dP rl rr))
 ow:∃fp,Ows S ds (AE g 0 (mv.take c)) fp/\∀i∈fp,i∉[k,l,r,R]
 hd:∀x∈hs,Hld S [k,l,r,R] x
theorem J31.gr {K R k l r W:Nat}{S S':List Ob}{rl rr c P:Nat}{ds hs:List D}(J:J31 g mv wl wr K R k l r W S rl rr c P ds hs)(G:Gr S S'):J31 g mv wl wr K R k l r W S' rl rr c P ds hs:=
 ⟨J.hl,J.hr,J.hc,J.ch,J.rd.gr G,G.get J.kw,G.get J.rm,by obtain ⟨fp,h1,h2⟩:=J.ow;exact ⟨fp,h1.gr G,h2⟩,λx hx=>(J.hd x hx).mono G.kx⟩
theorem Qm (hf:EH cf)(hg:GOk g)(hok:okQ g 0 mv)(el:wD wl=An g sL 0 mv)(er:wD wr=An g sR 0 mv)(l1:wl.length<=25000)(l2:wr.length<=25000){k l r W:Nat}{S:List Ob}{rl rr c P m p0 c' rl' rr':Nat}{x:List Nat}{side:Str}(hs:side=sL\/side=sR)
 (ch:Rch g (wl.take rl) (wr.take rr) (AE g 0 (mv.take c)) (lastQ g 0 (mv.take c)) (An g sL 0 (mv.take c)).length (An g sR 0 (mv.take c)).length) (rd:Rdr 0 S k g (wl.take rl) (wr.take rr) (lastQ g 0 (mv.take c)) (An g sL 0 (mv.take c)).length (An g sR 0 (mv.take c)).length W P l r) (hc:c<=mv.length)
 (hx:((onS side wl wr).drop (onS side rl rr)).take m=x) (e3:onS side (rl + m) rl=rl') (e4:onS side rr (rr + m)=rr') (hp0:S[p0]?=some (.lst (wD x))) (hpn:p0≠onS side l r) (h1:rl'<=wl.length) (h2:rr'<=wr.length) (hD:Due g mv rl' rr' c') :
 Wf cf [.obj k,.str side,.obj p0] S λq S'=>A9 q=false/\KpR k l r S S'/\∃T0 fp P',q = .obj T0/\Ow S' (.obj T0) (.lst ((AE g 0 (mv.take c')).drop c)) fp/\(∀i∈fp,S.length<=i)/\S.length<=P'/\AE g 0 (mv.take c)++(AE g 0 (mv.take c')).drop c=AE g 0 (mv.take c')/\Rch g (wl.take rl') (wr.take rr') (AE g 0 (mv.take c')) (lastQ g 0 (mv.take c')) (An g sL 0 (mv.take c')).length (An g sR 0 (mv.take c')).length/\Rdr 0 S' k g (wl.take rl') (wr.take rr') (lastQ g 0 (mv.take c')) (An g sL 0 (mv.take c')).length (An g sR 0 (mv.take c')).length W P' l r:=by
 subst hx e3 e4;have e1:onS side (wl.take rl++((onS side wl wr).drop (onS side rl rr)).take m) (wl.take rl)=wl.take (onS side (rl + m) rl):=by
  unfold onS
  split
  ·rw [<-List.take_add]
  ·rfl
 have e2:onS side (wr.take rr) (wr.take rr++((onS side wl wr).drop (onS side rl rr)).take m)=wr.take (onS side rr (rr + m)):=by
  unfold onS
  split
  ·rfl
  ·rw [<-List.take_add]
 have ch2:=ch.more (if side=sL then ((onS side wl wr).drop (onS side rl rr)).take m else []) (if side=sR then ((onS side wl wr).drop (onS side rl rr)).take m else []);rw [<-bx,<-bz hs,e1,e2] at ch2;have hw:=IC hg hok el er h1 h2 hD;have ha:=ch2.all;rw [hw] at ha;have hf:=hf 0 S k g (wl.take rl) (wr.take rr) (((onS side wl wr).drop (onS side rl rr)).take m) _ _ _ W P l r p0 side hp0 hpn hg ch.1 (by rw [e1,uh4];lia) (by rw [e2,uh4];lia) hs rd;rw [e1,e2] at hf;generalize hZ:walkR g (wl.take (onS side (rl + m) rl)) (wr.take (onS side rr (rr + m))) (Fu (wl.take (onS side (rl + m) rl)) (wr.take (onS side rr (rr + m)))) (lastQ g 0 (mv.take c)) (An g sL 0 (mv.take c)).length (An g sR 0 (mv.take c)).length []=Z at ha hf;obtain ⟨t,h',a',b',o⟩:=Z;simp only [Prod.mk.injEq] at ha;obtain ⟨at1,rfl,rfl,rfl,rfl⟩:=ha;have ht:(AE g 0 (mv.take c')).drop c=t:=by
  rw [at1];have:(AE g 0 (mv.take c)).length=c:=by rw [A1,uh4];lia
  rw [List.drop_append_of_le_length (by lia),List.drop_of_length_le (by lia)];rfl
 refine hf.mono ?_;rintro q S' ⟨KK,T0,fp,P',rfl,ho,hfp,hPl,R'⟩;have st:=ch2.step hg hZ;rw [<-at1] at st;exact ⟨rfl,KK,T0,fp,P',rfl,by rw [ht];exact ho,hfp,hPl,by rw [ht];exact at1.symm,st,R'⟩
end
theorem JG {x y:Nat}:(onS s (D.int (x:Int)) (D.int (y:Int))) = .int ((onS s x y:Nat):Int):=by unfold onS;split <;> rfl
theorem M4 {g:List GS}(hg:GOk g):∀(q:Nat) (mv:List Mv),okQ g q mv->∀m∈AE g q mv,Xd m
 | _,[],_,m,h=>nomatch h
 | q,(p,v) :: r,ho,m,h=>by
   rw [okQ] at ho;rw [AE] at h;rcases ul3.mp h with rfl | h
   ·have hw:=Ih hg ho.1.lt ho.1.pl;have hv:=Da (Fi 3 _ hw.dep hw.ok v ho.1.fit) 1;refine ⟨?_,_,_,_,rfl⟩;unfold EZ;rw [nvO,uh6,ug9,ui0];refine ⟨by show 3<=1000;decide,λx hx=>?_⟩;simp only [ul3,ui1,or_false] at hx;rcases hx with rfl | rfl | rfl
    ·rfl
    ·rfl
    ·exact hv
   ·exact M4 hg _ r ho.2 m h
theorem cW {l u:M (Option Int)}(h:F2.W f t λd t1=>F2.W l t1 λa t2=>F2.W u t2 λb t3=>F2.W (slF d a b) t3 Q):F2.W (OT f l u) t Q:=BY (h.mono λ_ _ h=>BY (h.mono λ_ _ h=>BY h))
theorem aI {lo hi:Option Int}(h:Q (B5 ds lo hi) t):F2.W (slF (.lst ds) lo hi) t Q:=⟨_,_,rfl,h⟩
theorem Zf {k:Nat}(e:t.S[k]?=some (.lst ys))(l:xs.length + ys.length<=LIM)(h:Q (xs++ys) t):F2.W (Jm (.lst xs) (.obj k)) t Q:=⟨_,_,by simp only [Jm,Dy,e,lim,if_pos l],h⟩
theorem NV {xs:List α}(h1:a<=b)(h2:b<=xs.length):B5 xs (some (a:Int)) (some (b:Int))=(xs.drop a).take (b - a):=by
 have e1:HT.sIx xs.length 0 (some (a:Int))=a:=by simp only [HT.sIx];rw [if_neg (by lia)];lia
 have e2:HT.sIx xs.length xs.length (some (b:Int))=b:=by simp only [HT.sIx];rw [if_neg (by lia)];lia
 unfold B5;rw [e1,e2]
theorem b4 {g:Bool->Bool}{k:Nat}{x:List Nat}(e:t.S[k]?=some (.lst (wD x)))(h:P (.bl (g true)) t):F2.W (eqO g (.obj k) (.lst (wD x))) t P:=by
 have hi:∀n,(wD x).map (Ba t.S n)=wD x:=λn=>by
  rw [ue4 (g:=id),List.map_id];intro d hd;obtain ⟨i,rfl⟩:=un1.mp hd |>.imp λ_ z=>z.2.symm
  cases n <;> rfl
 have h1:Ba t.S 16 (.obj k) = .lst (wD x):=by
  show Ba t.S (15 + 1) (.obj k)=_;unfold Ba;rw [e];dsimp only;rw [hi]
 have h2:Ba t.S 16 (.lst (wD x)) = .lst (wD x):=by
  show Ba t.S (15 + 1) (.lst (wD x))=_;rw [Ba,hi]
 have hp:Bq (.lst (wD x))=true:=by
  rw [Bq];exact Kt λd hd=>by obtain ⟨i,rfl⟩:=un1.mp hd |>.imp λ_ z=>z.2.symm;rfl
 have hr:Rq 16 (.lst (wD x)):=Rt (n:=15) λd hd=>by obtain ⟨i,rfl⟩:=un1.mp hd |>.imp λ_ z=>z.2.symm;exact Nt
 exact ⟨_,_,by unfold eqO;rw [h1,h2,hp,hr EQD (by decide)];rfl,h⟩
theorem QS {S2:List Ob}(G:Gr S S1)(hn:S.length<=n)(K:Kp n S1 S2):Gr S S2:=⟨um4 G.1 K.1,λi hi=>(K.2 i (ue8 hi G.1) (by lia)).trans (G.2 i hi)⟩
theorem Ows.app {S:List Ob}:∀{xs vs ys ws:List D} {f f':List Nat},Ows S xs vs f->Ows S ys ws f'->(∀i∈f,i∉f')->Ows S (xs++ys) (vs++ws) (f++f')
 | _,_,_,_,_,_,.nil,b,_=>b
 | _,_,_,_,_,_,@Ows.cons _ d v f1 f2 ds vs a r n,b,h=>by
   have:=Ows.cons a (Ows.app r b λi hi=>h i (uc8 _ hi)) (λi hi z=>(ui8.mp z).elim (n i hi) (h i (ud6 _ hi)));rw [<-ug4] at this;exact this
theorem ZK {b:Bool}{m1 m2:M Out}{K:Out->T->Prop}(Pm:Out->T->Prop)(h1:b=true->F2.W m1 t Pm)(h2:b=false->F2.W m2 t Pm)(h:∀o t',Pm o t'->K o t'):ER b (F2.W m1 t K) (F2.W m2 t K):=CD (λz=>(h1 z).mono h) λz=>(h2 z).mono h
theorem T8 (h0:0<=i)(h1:i < 2):∃s:Str,atI [D.str (Str.ofString "left"),.str (Str.ofString "right")] i=some (.str s)/\(s=sL\/s=sR):=by
 have:i=0\/i=1:=by lia
 rcases this with rfl | rfl
 ·exact ⟨_,rfl,.inl rfl⟩
 ·exact ⟨_,rfl,.inr rfl⟩
theorem Pg {l r:List Nat}:onS s (D.lst (wD l)) (.lst (wD r)) = .lst (wD (onS s l r)):=by unfold onS;split <;> rfl
theorem MF {S:List Ob}{X:List Nat}:∀(hs:List D) (z0 z1:Option Sl),(∀x∈hs,Hld S X x)->F2.W (B4 (unS 2 (Bd (AQ 0) (Bd (AQ 1) DE))) (Au (Ac (Ab 0) (Ab 1) (eqO λb=>!b))) (fC (.int 1)) hs) ⟨[z0,z1],S⟩ λxs t'=>xs=[]/\t'.S=S
 | [],z0,z1,_=>W_compL_nil.mpr ⟨rfl,rfl⟩
 | x :: r,z0,z1,h=>by
   rw [D3];obtain ⟨T,es,vs,f,rfl,h1,h2,h3,h4,h5,h6⟩:=h x ue9;have hn:nvO 16 (.lst vs)=true:=by
    show nvO (15 + 1) (.lst vs)=true;rw [nvO,uh6,ug9,ui0];exact ⟨h4,h3⟩
   symm;refine GG (d:=.lst vs) ?_ ?_ hn ?_
   ·show Ba S (15 + 1) (.obj T)=_;unfold Ba;rw [h1];dsimp only;rw [EC (λa b=>DG 15 a b) h2 h3]
   ·show Ba S (15 + 1) (.lst es)=_;rw [Ba,EC (λa b=>DG 15 a b) h2 h3]
   symm;rw [if_neg (by decide)];exact MF r _ _ λx hx=>h x (ud5 _ hx)
theorem M3 (hg:GOk g)(hok:okQ g 0 mv)(hl:mv.length<=60)(c c':Nat):(∀m∈(AE g 0 (mv.take c')).drop c,nvO 5 m=true)/\((AE g 0 (mv.take c')).drop c).length<=60:=by
 refine ⟨λm hm=>(M4 hg 0 _ (Na hok c') m (List.mem_of_mem_drop hm)).1,?_⟩;rw [uh5,A1,uh4];lia
theorem JB {ms:List D}(h:∀m∈ms,nvO n m=true)(hl:ms.length<=1000):nvO (n + 1) (.lst ms)=true:=by
 rw [nvO,uh6,ug9,ui0];exact ⟨hl,h⟩
theorem Uh {m:M Out}{t':T}{P:Out->T->Prop}(e:t=t')(h:F2.W m t' P):F2.W m t P:=by rw [e];exact h
def Mp (ns:List Int)(g:List GS)(mv:List Mv)(ps:List (List Nat))(K k R c:Nat)(ds hs:List D)(tl:List (Option Sl)):List (Option Sl):=some (.val (.scr ns)) :: some (.val (.lst (g.map GS.d))) :: some (.val (.lst (AE g 0 mv))) :: some (.val (.lst (B1 g 0 mv))) :: some (.val (.lst (ps.map λw=>.lst (wD w)))) :: some (.val (.obj K)) :: some (.val (.obj k)) :: some (.val (.obj R)) :: some (.val (.int (c:Nat))) :: some (.val (.lst ds)) :: some (.own hs) :: tl
def I31 (ns:List Int)(g:List GS)(mv:List Mv)(ps:List (List Nat))(wl wr:List Nat)(K R k l r W:Nat)(q:List D)(t:T):Prop:=∃(j rl rr c P:Nat) (S':List Ob) (ds hs:List D) (e11 e12 e13 e14 e15 e16 e17 e18 e19 e20:Option Sl),j<=36/\q=(rngL 0 (36:Int).toNat).drop j/\J31 g mv wl wr K R k l r W S' rl rr c P ds hs/\hs.length=j/\(34 < j->rl=wl.length)/\(35 < j->rr=wr.length)/\(j=0\/Due g mv rl rr c)/\t=⟨Mp ns g mv ps K k R c ds hs [e11,e12,e13,e14,e15,e16,e17,e18,e19,e20],S'⟩
def Q31 (ns:List Int)(g:List GS)(mv:List Mv)(ps:List (List Nat))(wl wr:List Nat)(K R k j rl rr c n:Nat)(ds hs:List D)(S9:List Ob)(e15 e16 e17 e18 e19 e20:Option Sl)(o:Out)(t':T):Prop:=o = .next/\∃(side:Str) (m:Nat),(side=sL\/side=sR)/\m<=(onS side wl wr).length - onS side rl rr/\(j=34->side=sL/\m=wl.length - rl)/\(j=35->side=sR/\m=wr.length - rr)/\t'=⟨Mp ns g mv ps K k R c ds hs [some (.val (.int (j:Nat))),some (.val (.obj n)),some (.val (.str side)),some (.val (.int (m:Nat))),e15,e16,e17,e18,e19,e20],S9⟩
theorem ZM {ce co cpl cr cww cz ck cg:Fn}(hf:EH cf)(he:PV ce)(ho:OH co)(hpl:FX cpl 7)(hw:Xb cw)(hll:Xa cl)(ht:∀F,FW F ct)(hp:∀F,FV F cp)(hrd:NN cr)(hww:JY cww)(hz:JX cz)(hk:LS 50 ck)(hgr:LQ cg){ns:List Int} :
 Wf (fnOf 1 21 (Hd cf ce co (fnOf 1 1 (Cq (fnOf 2 2 By))) cpl (fnOf 1 1 CG) cw cl ct cp cr cww cz ck cg)) [.scr ns] [] λr _=>r = .bl true:=by
 have hL:LIM=100000:=rfl;refine Ax rfl ?_;unfold Hd;symm;refine (hgr (.scr ns) ns.length [] (.inl ⟨ns,rfl,rfl⟩)).mono ?_;rintro r S1 ⟨g,hg,hx,rfl⟩;symm;refine (hk (.scr ns) ns.length g S1 (.inl ⟨ns,rfl,rfl⟩) hg).mono ?_;rintro r S2 ⟨mv,hT,rfl⟩;have hok:=hT.ok;have hlen:=hT.len;symm;refine (hz g mv S2 hg hT).mono ?_;rintro r S3 ⟨e3,ps,hps,rfl⟩;have e3:=e3.symm;subst e3;symm;refine (hww g mv ps _ hg hT hps).mono ?_;rintro r S4 ⟨G4,K,wl,wr,rfl,hKl,hK,el,er⟩;have l1:wl.length<=25000:=by have:=EO g sL 0 mv hT.bd;rw [<-el,Bx] at this;lia
 have l2:wr.length<=25000:=by have:=EO g sR 0 mv hT.bd;rw [<-er,Bx] at this;lia
 symm;refine (hrd g S4 hg hx.hd).mono ?_;rintro q S5 ⟨G5,k,W,P,l,r,rfl,R5⟩;have K5:=G5.get hK;symm;refine LH ?_;refine B6 ?_;symm;refine B6 ?_;symm;refine FK ?_;refine ⟨by simp,by show 2<=15;decide,?_⟩;have hB:((S5++[Ob.dct []]).set S5.length (.dct (Bc (dP 0 0))))[S5.length]?=some (.dct (dP 0 0)):=by rw [IH];exact AT Bh
 have G6:Gr S5 ((S5++[Ob.dct []]).set S5.length (.dct (Bc (dP 0 0)))):=Gr.app.set (un5 _);show Dr _ _ Out.next ⟨_,(S5++[Ob.dct []]).set S5.length (.dct (Bc (dP 0 0)))⟩;generalize (S5++[Ob.dct []]).set S5.length (.dct (Bc (dP 0 0)))=S6 at hB G6 ⊢;generalize S5.length=R at hB ⊢;have J0:J31 g mv wl wr K R k l r W S6 0 0 0 P [] []:=⟨un6 _,un6 _,un6 _,Rch.start hg,(R5.low (un6 _)).gr G6,G6.get K5,hB,⟨[],.nil,λ_ z=>nomatch z⟩,λ_ z=>nomatch z⟩;symm;refine CL (I31 ns g mv ps wl wr K R k l r W) _ _ ⟨0,0,0,0,P,S6,[],[],none,none,none,none,none,none,none,none,none,none,un6 _,rfl,J0,rfl,(λz=>by lia),(λz=>by lia),.inl rfl,rfl⟩ ?_ ?_
 ·rintro d q t ⟨j,rl,rr,c,P,S',ds,hs,e11,e12,e13,e14,e15,e16,e17,e18,e19,e20,hj,hq,J,hsl,d1,d2,d3,rfl⟩ _;obtain ⟨rfl,hq',hjn⟩:=Fy hq;have hjn:j < 36:=hjn;rw [un4];refine FC ?_;refine Zm λC hC=>?_;symm;rw [show ((27:Int) + (j:Int))=((27 + j:Nat):Int) by lia];refine Wc hp (by lia) (λn S7 p7 G7 hn=>?_);symm;refine Ib ht (r:=3) 2 (p7.mono (by decide)) (λi S8 i0 i1 p8 k8=>?_) (by decide) (by decide);obtain ⟨side,hside,hsd⟩:=T8 i0 i1;have G8:=QS G7 hn k8;have J8:=J.gr G8;refine Bb hside ?_;symm;refine Br J8.kw (BO hsd) ?_;rw [Pg];symm;refine Br J8.rm (BO hsd) ?_;rw [JG];symm;have hle:∀{s:Str},onS s rl rr<=(onS s wl wr).length:=λ{s}=>by
   have:=J.hl;have:=J.hr;unfold onS
   split <;> lia
  have hsub:∀{s:Str},((wD (onS s wl wr)).length:Int) - ((onS s rl rr:Nat):Int)=(((onS s wl wr).length - onS s rl rr:Nat):Int):=λ{s}=>by
   have:=hle (s:=s);rw [Bx];lia
  have hle2:∀{s:Str},(onS s wl wr).length<=25000:=λ{s}=>by unfold onS;split <;> lia
  rw [hsub];refine (hll n 0 S8 _ (by have:=hle2 (s:=side);lia) p8).mono ?_;rintro v S9 ⟨⟨m0,rfl,hm0⟩,p9,k9⟩;have G9:=QS G8 hn k9;clear J8 G8 G7 k8 k9 p7 p8 p9;have J:=J.gr G9;clear G9;symm;refine ZK (Q31 ns g mv ps wl wr K R k j rl rr c n ds hs S9 e15 e16 e17 e18 e19 e20) (λz=>?_) (λz=>?_) ?_
  ·have z:=uh0 z;have hj2:j=34\/j=35:=by lia
   obtain ⟨s,es,hs',h34,h35⟩:∃s:Str,atI [D.str (Str.ofString "left"),.str (Str.ofString "right")] ((j:Int) - 34)=some (.str s)/\(s=sL\/s=sR)/\(j=34->s=sL)/\(j=35->s=sR):=by
    rcases hj2 with rfl | rfl
    ·exact ⟨sL,rfl,.inl rfl,λ_=>rfl,λz=>by lia⟩
    ·exact ⟨sR,rfl,.inr rfl,λz=>by lia,λ_=>rfl⟩
   symm;refine Bb es ?_;symm;refine Br J.kw (BO hs') ?_;rw [Pg];symm;refine Br J.rm (BO hs') ?_;rw [JG];symm;rw [hsub];refine ⟨rfl,s,_,hs',un5 _,λz=>?_,λz=>?_,rfl⟩
   ·have:=h34 z;subst this;exact ⟨rfl,rfl⟩
   ·have:=h35 z;subst this;exact ⟨rfl,rfl⟩
  ·have z:=of_decide_eq_false z;symm;exact ⟨rfl,side,m0,hsd,hm0,λz=>by lia,λz=>by lia,rfl⟩
  rintro o t' ⟨rfl,side,m,hsd,hm,q34,q35,rfl⟩;have hle':=hle (s:=side);have hle2':=hle2 (s:=side);refine BW ?_;symm;refine cW ?_;symm;refine Br J.kw (BO hsd) ?_;rw [Pg];symm;refine Br J.rm (BO hsd) ?_;rw [JG];symm;refine Br J.rm (BO hsd) ?_;rw [JG];symm;refine aI ?_;rw [show (((onS side rl rr:Nat):Int) + (m:Int))=((onS side rl rr + m:Nat):Int) by clear q34 q35 d1 d2 d3;lia,NV (by clear q34 q35 d1 d2 d3;lia) (by clear q34 q35 d1 d2 d3;rw [Bx];lia),Nat.add_sub_cancel_left];have ex:((wD (onS side wl wr)).drop (onS side rl rr)).take m=wD (((onS side wl wr).drop (onS side rl rr)).take m):=by unfold wD;rw [List.map_take,List.map_drop]
  rw [ex];have hxl:(((onS side wl wr).drop (onS side rl rr)).take m).length<=25000:=by rw [uh4,uh5];clear q34 q35 d1 d2 d3;lia
  clear ex;generalize hx:((onS side wl wr).drop (onS side rl rr)).take m=x at hxl ⊢;have J10:=J.gr (Gr.app (ex:=[Ob.lst (wD x)]));have hp0:(S9++[Ob.lst (wD x)])[S9.length]?=some (.lst (wD x)):=Bh;have hol:∀{i:Nat} {o:Ob},S9[i]?=some o->i≠S9.length:=λe=>um3 (Bj e);have pk:=hol J.rd.k;have pl:=hol J.rd.l;have pr:=hol J.rd.r;have pR:=hol J.rm;have pK:=hol J.kw;have pW:=hol J.rd.w;have hl10:(S9++[Ob.lst (wD x)]).length=S9.length + 1:=by rw [uf3];rfl
  clear hol;have g910:KX [k,l,r,R] S9 (S9++[Ob.lst (wD x)]):=Gr.app.kx;obtain ⟨p0,hpe⟩:∃p0,p0=S9.length:=⟨_,rfl⟩;rw [<-hpe] at hp0 pk pl pr pR pK pW hl10 ⊢;generalize S9++[Ob.lst (wD x)]=S10 at *;symm;refine PF hp0 ?_;symm;refine ⟨k,_,rfl,J10.rd.k,?_⟩;symm;refine Jb ?_;have h1:onS side (rl + m) rl<=wl.length:=by
   have:=J10.hl;unfold onS at hm ⊢
   split
   ·next q=>rw [if_pos q,if_pos q] at hm;clear q34 q35 d1 d2 d3;lia
   ·exact this
  have h2:onS side rr (rr + m)<=wr.length:=by
   have:=J10.hr;unfold onS at hm ⊢
   split
   ·exact this
   ·next q=>rw [if_neg q,if_neg q] at hm;clear q34 q35 d1 d2 d3;lia
  generalize e3:onS side (rl + m) rl=rl' at h1;generalize e4:onS side rr (rr + m)=rr' at h2;obtain ⟨c',hD⟩:=Qc (g:=g) (mv:=mv) (rl:=rl') (rr:=rr') mv.length 0 (by lia) (un6 _) (un6 _);refine (Qm hf hg hok el er l1 l2 hsd J10.ch J10.rd J10.hc hx e3 e4 hp0 (by unfold onS;split;exact Ne.symm pl;exact Ne.symm pr) h1 h2 hD).mono ?_
  rintro q0 S11 ⟨hex,KK,T0,fp,P',rfl,hO,hfp,hPl,hmsg,hch,R11⟩;refine ⟨hex,?_⟩;have nRk:R≠k:=AU J10.rm J10.rd.k (by simp);have nRl:R≠l:=AU J10.rm J10.rd.l (by simp);have nRr:R≠r:=AU J10.rm J10.rd.r (by simp);have nKk:K≠k:=AU J10.kw J10.rd.k (by simp);have nKl:K≠l:=AU J10.kw J10.rd.l (by simp);have nKr:K≠r:=AU J10.kw J10.rd.r (by simp);have nKR:K≠R:=AU J10.kw J10.rm (by simp);have nWR:W≠R:=AU R11.w (KK.get J10.rm nRk nRl nRr) (by simp);have rm11:=KK.get J10.rm nRk nRl nRr;have kw11:=KK.get J10.kw nKk nKl nKr;have p11:=KK.get hp0 (Ne.symm pk) (Ne.symm pl) (Ne.symm pr);symm;refine Br rm11 (BO hsd) ?_;rw [JG];symm;refine B3 rm11 (by show 2 < 100000;decide) ?_;rw [JA hsd];have hd:lr (onS side (D.int (((onS side rl rr:Nat):Int) + (m:Int))) (D.int (rl:Int))) (onS side (D.int (rr:Int)) (D.int (((onS side rl rr:Nat):Int) + (m:Int))))=dP rl' rr':=by rw [<-e3,<-e4];unfold onS;split <;> rfl
  rw [hd];have hTl:S10.length<=T0:=by cases hO with | obj e o n=>exact hfp _ ue9
  have ltR:=Bj J10.rm;have ltk:=Bj J10.rd.k;have ltl:=Bj J10.rd.l;have ltr:=Bj J10.rd.r;have kx:KX [k,l,r,R] S10 (S11.set R (.dct (dP rl' rr'))):=KX.set ⟨KK.1,λi hi n=>by
   simp only [ul3,ui1,or_false,not_or] at n;exact KK.2 i hi n.1 n.2.1 n.2.2.1⟩ (.inl (by simp))
  have R12:Rdr 0 (S11.set R (.dct (dP rl' rr'))) k g _ _ _ _ _ W P' l r:=⟨R11.k0,R11.l0,R11.r0,R11.ne,Ap R11.k nRk,Ap R11.w (Ne.symm nWR),Ap (i:=P') R11.p (by have:=Bj J10.rm;lia),Ap R11.l nRl,Ap R11.r nRr⟩;have rm12:=AT (o':=.dct (dP rl' rr')) rm11;have kw12:=Ap (o:=.dct (dP rl' rr')) kw11 (Ne.symm nKR);have p12:=Ap (o:=.dct (dP rl' rr')) p11 (Ne.symm (Ne.symm pR));have hO12:Ow (S11.set R (.dct (dP rl' rr'))) (.obj T0) (.lst ((AE g 0 (mv.take c')).drop c)) fp:=hO.mono λi hi=>ud7 (by have:=hfp i hi;lia);generalize S11.set R (.dct (dP rl' rr'))=S12 at *;refine BW ?_;refine Uh (t':=⟨Mp ns g mv ps K k R _ _ _ [_,_,_,_,_,_,_,_,_,_],_⟩) rfl ?_;symm;refine (hw g mv ps _ _ R S12 hg hT hps rm12).mono ?_;rintro q1 S13 ⟨G13,c2,G,hD2,rfl,hG13⟩;have:=Mo hg hok el er h1 h2 hD2 hD;subst this;have R13:=R12.gr G13;have rm13:=G13.get rm12;have kw13:=G13.get kw12;have p13:=G13.get p12;have hO13:=hO12.gr G13;have kx13:=kx.trans G13.kx;have hcc:c<=c2:=by
   have:=congrArg List.length hmsg;rw [uf3,A1,A1,uh4,uh4] at this;have:=hD.le;have:=J10.hc;lia
  obtain ⟨nv1,nv2⟩:=M3 hg hok hlen c c2;clear hO hO12 R11 R12 rm11 rm12 kw11 kw12 p11 p12 kx G13 KK hD2 hp0;have hdl:=hD.le;symm
  cases hO13 with
  | @obj _ es _ fp eT oT nT=>
  have hO13:Ow S13 (.obj T0) (.lst ((AE g 0 (mv.take c2)).drop c)) (T0 :: fp):=.obj eT oT nT;refine R0 eT rfl ?_;symm;rw [NV hcc (by rw [A1];exact hdl),<-List.drop_take,JD];refine GG (d:=.lst ((AE g 0 (mv.take c2)).drop c)) (DG 16 hO13 (Da (JB nv1 (by lia)) 10)) (HW 16 _ (Da (JB nv1 (by lia)) 10)) (Da (JB nv1 (by lia)) 10) ?_;symm;refine b4 p13 ?_;symm;refine ⟨k,_,rfl,R13.k,W_ret.mpr ?_⟩;refine (K4 R13).use ?_;symm;have hst:atI (B1 g 0 mv) (c2:Int)=some (.int (lastQ g 0 (mv.take c2))):=by
   unfold atI;rw [B0 (by lia) (by rw [FT];lia)];show (B1 g 0 mv)[(c2:Int).toNat]?=_;rw [ug8,Iq g 0 mv c2 hdl]
  refine Bb hst ?_;symm;refine FM (by simp) ?_;symm;refine Br rm13 Ko ?_;symm;refine Br hG13 Ko ?_;symm;refine Br rm13 Kq ?_;symm;refine Br hG13 Kq ?_;symm;refine ⟨k,_,rfl,R13.k,W_ret.mpr ?_⟩;refine (K8 R13).use ?_;symm;refine UR (by rw [uh4];lia) (by rw [uh4];lia) ?_;symm;refine (hpl S13 _ _ _ hO13 (Da (JB nv1 (by lia)) 1)).mono ?_;rintro q2 S13' ⟨rfl,e13⟩;have e13:=e13.symm;subst e13;symm;obtain ⟨fpd,hds,hfd⟩:=J.ow;have hdsl:ds.length<=60:=by rw [hds.length,A1,uh4];lia
  have hesl:es.length<=60:=by rw [oT.length];exact nv2
  refine Zf eT (by rw [hL];lia) ?_;symm;refine PK (k:=p0) ?_;symm;refine ⟨rfl,_,p13,?_⟩;symm;refine ⟨_,wD x++[.int 255],p13,by simp only [BA];rw [if_pos (by rw [Bx,hL];lia)],?_⟩;have lt13:p0 < S10.length:=by lia
  have nX:∀{i:Nat},S10.length<=i->i∉[k,l,r,R]:=λ{i} hi=>by
   simp only [ul3,ui1,or_false,not_or];exact ⟨by lia,by lia,by lia,by lia⟩
  have ltK:=Bj J10.kw;have kx14:=(g910.trans kx13).set (k:=p0) (o:=.lst (wD x++[.int 255])) (.inr (by lia));have eT14:=Ap (o:=.lst (wD x++[.int 255])) eT (by lia:p0≠T0);have R14:=R13.setL (o:=.lst (wD x++[.int 255])) p13 (Ne.symm pl) (Ne.symm pr);have kw14:=Ap (o:=.lst (wD x++[.int 255])) kw13 (Ne.symm pK);have rm14:=Ap (o:=.lst (wD x++[.int 255])) rm13 (Ne.symm pR);have oT14:Ows (S13.set p0 (.lst (wD x++[.int 255]))) es _ fp:=oT.mono λi hi=>ud7 (by have:=hfp i (ud5 _ hi);lia);clear R13 rm13 kw13 p13 kx13 hO13 hG13 eT oT;show Dr _ _ Out.next ⟨_,S13.set p0 (.lst (wD x++[.int 255]))⟩;generalize S13.set p0 (.lst (wD x++[.int 255]))=S14 at *;refine BW ?_;refine Uh (t':=⟨Mp ns g mv ps K k R _ _ _ [_,_,_,_,_,_,_,_,_,_],_⟩) rfl ?_;symm;refine PK (k:=T0) ?_;symm;refine ⟨rfl,_,eT14,?_⟩;symm;refine ⟨_,es++[.non],eT14,by simp only [BA];rw [if_pos (by rw [hL];lia)],?_⟩;have kx15:=kx14.set (k:=T0) (o:=.lst (es++[.non])) (.inr (by lia));have eT15:=AT (o':=.lst (es++[.non])) eT14;have R15:=R14.setL (o:=.lst (es++[.non])) eT14 (by lia) (by lia);have kw15:=Ap (o:=.lst (es++[.non])) kw14 (by lia:T0≠K);have rm15:=Ap (o:=.lst (es++[.non])) rm14 (by lia:T0≠R);have oT15:Ows (S14.set T0 (.lst (es++[.non]))) es _ fp:=oT14.mono λi hi=>ud7 (λz=>nT (by rw [z];exact hi));clear R14 rm14 kw14 kx14 eT14 oT14;show Dr _ _ Out.next ⟨_,S14.set T0 (.lst (es++[.non]))⟩;generalize S14.set T0 (.lst (es++[.non]))=S15 at *;refine BW ?_;refine Uh (t':=⟨Mp ns g mv ps K k R _ _ _ [_,_,_,_,_,_,_,_,_,_],_⟩) rfl ?_;symm;refine PF eT15 ?_;symm;refine BV (by rw [hsl,hL];lia) ?_;symm;have hds15:Ows S15 ds _ fpd:=hds.mono λi hi=>kx15.2 i (hds.lt i hi) (hfd i hi);refine hC _ _ ?_;refine ⟨j + 1,rl',rr',c2,P',S15,ds++es,hs++[.tup [.obj T0,.lst (es++[.non])]],_,_,_,_,_,_,_,_,_,_,hjn,hq',⟨h1,h2,hdl,hch,R15,kw15,rm15,⟨fpd++fp,?_,λi hi=>?_⟩,λx hx=>?_⟩,by rw [uf3,hsl];rfl,λz=>?_,λz=>?_,.inr hD,rfl⟩
  ·have:=hds15.app oT15 (λi hi z=>by have:=hfp i (ud5 _ z);have:=hds.lt i hi;lia);rw [hmsg] at this;exact this
  ·rcases ui8.mp hi with hi | hi
   ·exact hfd i hi
   ·exact nX (hfp i (ud5 _ hi))
  ·rcases ui8.mp hx with hx | hx
   ·exact (J.hd x hx).mono kx15
   ·rw [uf5] at hx;subst hx;refine ⟨T0,_,_,_,rfl,eT15,Ows.snoc .non oT15 (λ_ _ z=>nomatch z),λv hv=>?_,by rw [uf3];show _ + 1<=_;lia,nX hTl,λi hi=>?_⟩
    ·rcases ui8.mp hv with hv | hv
     ·exact Da (nv1 v hv) 10
     ·rw [uf5] at hv;subst hv;rfl
    ·rw [uj2] at hi;exact nX (hfp i (ud5 _ hi))
  ·have:=J.hl;have hj2:j=34\/j=35:=by lia
   rcases hj2 with e | e
   ·obtain ⟨e1,e2⟩:=q34 e;rw [<-e3,e1,show onS sL (rl + m) rl=rl + m from if_pos rfl];lia
   ·obtain ⟨e1,e2⟩:=q35 e;rw [<-e3,e1,show onS sR (rl + m) rl=rl from if_neg (by decide)];exact d1 (by lia)
  ·have:=J.hr;obtain ⟨e1,e2⟩:=q35 (by lia);rw [<-e4,e1,show onS sR rr (rr + m)=rr + m from if_neg (by decide)];lia
 ·rintro t ⟨j,rl,rr,c,P,S',ds,hs,e11,e12,e13,e14,e15,e16,e17,e18,e19,e20,hj,hq,J,hsl,d1,d2,d3,rfl⟩;have hj':j=36:=by
   have:=congrArg List.length hq;rw [uj7,uh5,Cw] at this;have:(36:Int).toNat=36:=rfl;lia
  have hrl:=d1 (by lia);have hrr:=d2 (by lia);have hD:=d3.resolve_left (by lia);subst hrl hrr;have hc:=U2 el er hg hok hD;subst hc;have hmd:(AE g 0 (mv.take mv.length)).drop mv.length=[]:=List.drop_of_length_le (by rw [A1,uh4];lia);obtain ⟨fpd,hds,hfd⟩:=J.ow;rw [ui5] at hds;symm;refine (ho S' ds fpd (AE g 0 mv) hds (M4 hg 0 mv hok) (by rw [A1];lia)).mono ?_;rintro q S'' ⟨rfl,e⟩;have e:=e.symm;subst e;symm;rw [A1];refine FM (by simp) ?_;symm;refine (he S').mono ?_;rintro q S3 ⟨rfl,G3⟩;have J3:=J.gr G3;symm;refine (MF hs none none J3.hd).mono ?_;rintro xs t' ⟨rfl,et⟩;refine BV (un6 _) ?_;rw [et];symm;have hon:∀{s:Str} {a:Nat},onS s a a=a:=λ{s a}=>by unfold onS;split <;> rfl
  have fd:∀(S:List Ob) (P:Nat) (s:Str),(s=sL\/s=sR)->Rdr 0 S k g (wl.take wl.length) (wr.take wr.length) (lastQ g 0 (mv.take mv.length)) (An g sL 0 (mv.take mv.length)).length (An g sR 0 (mv.take mv.length)).length W P l r->Wf cf [.obj k,.str s,.obj S.length] (S++[.lst []]) λq S'=>A9 q=false/\∃T0 fp P',q = .obj T0/\Ow S' (.obj T0) (.lst []) fp/\Rdr 0 S' k g (wl.take wl.length) (wr.take wr.length) (lastQ g 0 (mv.take mv.length)) (An g sL 0 (mv.take mv.length)).length (An g sR 0 (mv.take mv.length)).length W P' l r:=λS P s hs R=>by
   have h:=Qm (m:=0) (c':=mv.length) (p0:=S.length) hf hg hok el er l1 l2 hs J.ch (R.gr (Gr.app (ex:=[Ob.lst []]))) (un5 _) (x:=[]) rfl (rl':=wl.length) (rr':=wr.length) (by rw [um9,hon]) (by rw [um9,hon]) Bh (by have:=Bj R.l;have:=Bj R.r;unfold onS;split <;> lia) (un5 _) (un5 _) hD
   refine h.mono ?_;rintro q S' ⟨hex,_,T0,fp,P',rfl,hO,_,_,_,_,R'⟩;rw [hmd] at hO;exact ⟨rfl,T0,fp,P',rfl,hO,R'⟩
  refine ⟨k,_,rfl,J3.rd.k,?_⟩;symm;refine Jb ?_;refine (fd S3 P sL (.inl rfl) J3.rd).mono ?_;rintro q S4 ⟨hx4,T0,fp,P',rfl,hO,R4⟩;refine ⟨hx4,?_⟩;symm;refine GG (d:=.lst []) (DG 16 hO rfl) rfl rfl ?_;symm;refine ⟨k,_,rfl,R4.k,?_⟩;symm;refine Jb ?_;refine (fd S4 P' sR (.inr rfl) R4).mono ?_;rintro q S5 ⟨hx5,T1,fp1,P1,rfl,hO5,R5'⟩;refine ⟨hx5,?_⟩;symm;refine GG (d:=.lst []) (DG 16 hO5 rfl) rfl rfl ?_;rfl
end LW
set_option maxHeartbeats 4000000
namespace F2
open PySem L2 PySem.Spec PySem.W
theorem Tp {k:Kd}{P:Program}{w:World}{K:PySem.W.Frag}{mg:Str->Option Value}{base:Heap}{n:Nat}{fa:Addr}{fd:FuncData}{ps:List Str}:okK k P w K mg base n fa fd ps (λ_ _=>none):=by
 cases k <;> exact ⟨λvs H Q E h=>(by obtain ⟨c,ds,S,_,_,r,S',e,_⟩:=h;cases e),λA' outer s H args us vs Q E _ _ _ _ h=>(by obtain ⟨c,ds,S,_,_,r,S',e,_⟩:=h;cases e)⟩
theorem us0 {n:Nat}:∀{us:List Value},us.length=n + 1->∃a vs,us=a :: vs/\vs.length=n
 | _ :: _,h=>⟨_,_,rfl,Nat.succ.inj h⟩
variable {us:List Value}
theorem us1 (h:us.length=1):∃a,us=[a]:=by
 obtain ⟨a,vs,rfl,q⟩:=us0 h;exact ⟨a,by rw [ua3 q]⟩
theorem us2 (h:us.length=2):∃a b,us=[a,b]:=by
 obtain ⟨_,vs,rfl,q⟩:=us0 h;obtain ⟨_,rfl⟩:=us1 q;exact ⟨_,_,rfl⟩
theorem us3 (h:us.length=3):∃a b c,us=[a,b,c]:=by
 obtain ⟨_,vs,rfl,q⟩:=us0 h;obtain ⟨_,_,rfl⟩:=us2 q;exact ⟨_,_,_,rfl⟩
theorem us4 (h:us.length=4):∃a b c d,us=[a,b,c,d]:=by
 obtain ⟨_,vs,rfl,q⟩:=us0 h;obtain ⟨_,_,_,rfl⟩:=us3 q;exact ⟨_,_,_,_,rfl⟩
theorem us5 (h:us.length=5):∃a b c d e,us=[a,b,c,d,e]:=by
 obtain ⟨_,vs,rfl,q⟩:=us0 h;obtain ⟨_,_,_,_,rfl⟩:=us4 q;exact ⟨_,_,_,_,_,rfl⟩
theorem us6 (h:us.length=6):∃a b c d e f,us=[a,b,c,d,e,f]:=by
 obtain ⟨_,vs,rfl,q⟩:=us0 h;obtain ⟨_,_,_,_,_,rfl⟩:=us5 q;exact ⟨_,_,_,_,_,_,rfl⟩
theorem us7 (h:us.length=7):∃a b c d e f g,us=[a,b,c,d,e,f,g]:=by
 obtain ⟨_,vs,rfl,q⟩:=us0 h;obtain ⟨_,_,_,_,_,_,rfl⟩:=us6 q;exact ⟨_,_,_,_,_,_,_,rfl⟩
end F2
namespace K31
open PySem L2 F2 LW
inductive Fx where
 | Cp | A4 | D7 | Co | CT | CQ | CS | Cb | Eu | BI | BX | Bm | BE | BJ | CU | Bw | Ct | Bz | Cd | C4 | Ds | C1 | C3 | Cc | Dq | BK | BG | BB | Bg | BS | BT | BH | Cn | B7 | Be | Cv | B9 | BR | Bo | Ca | Bv | law_ | AG | AM | AS | AB | AH | AN | AI
noncomputable def top (i:Nat):Stmt:=PySem.Challenge.pw_wireparley_k31_fed_by_pieces.main.body.getD i (.Pass ⟨0,0,0,0⟩)
noncomputable abbrev nm:Fx->Str
 | .Cp=>"is_number"
 | .A4=>"is_number_within"
 | .D7=>"fits"
 | .Co=>"fits_text"
 | .CT=>"is_sign"
 | .CQ=>"fits_list"
 | .CS=>"fits_pair"
 | .Cb=>"fits_choice"
 | .Eu=>"is_end"
 | .BI=>"grammar_copy"
 | .BX=>"value_bytes"
 | .Bm=>"fitting_bytes"
 | .BE=>"width_up_to"
 | .BJ=>"number_bytes"
 | .CU=>"leading"
 | .Bw=>"read_value"
 | .Ct=>"byte_at"
 | .Bz=>"byte_up_to"
 | .Cd=>"read_number"
 | .C4=>"read_text"
 | .Ds=>"sign_at"
 | .C1=>"read_list"
 | .C3=>"read_pair"
 | .Cc=>"read_choice"
 | .Dq=>"read_on"
 | .BK=>"read_message"
 | .BG=>"_law_cell_at"
 | .BB=>"_law_pool"
 | .Bg=>"_law_take"
 | .BS=>"_law_shape"
 | .BT=>"_law_value"
 | .BH=>"_law_grammar"
 | .Cn=>"_law_talk"
 | .B7=>"_law_sizes"
 | .Be=>"_law_whole_wires"
 | .Cv=>"_law_whole"
 | .B9=>"_law_length"
 | .BR=>"_law_plain"
 | .Bo=>"_law_own_lists"
 | .Ca=>"_law_reader"
 | .Bv=>"_law_ended"
 | .law_=>"law"
 | .AG=>"__init__"
 | .AM=>"state"
 | .AS=>"hear"
 | .AB=>"unread_of"
 | .AH=>"__init__"
 | .AN=>"feed"
 | .AI=>"unread"
abbrev ql:Fx->Str
 | .AG=>"Hearer.__init__"
 | .AM=>"Hearer.state"
 | .AS=>"Hearer.hear"
 | .AB=>"Hearer.unread_of"
 | .AH=>"Reader.__init__"
 | .AN=>"Reader.feed"
 | .AI=>"Reader.unread"
 | x=>nm x
noncomputable abbrev me:Fx->Bool
 | .AG=>true
 | .AM=>true
 | .AS=>true
 | .AB=>true
 | .AH=>true
 | .AN=>true
 | .AI=>true
 | _=>false
noncomputable abbrev ow:Fx->Str
 | .AG=>"Hearer"
 | .AM=>"Hearer"
 | .AS=>"Hearer"
 | .AB=>"Hearer"
 | .AH=>"Reader"
 | .AN=>"Reader"
 | .AI=>"Reader"
 | _=>""
abbrev st:Fx->Stmt
 | .Cp=>top 9
 | .A4=>top 10
 | .D7=>top 11
 | .Co=>top 12
 | .CT=>top 13
 | .CQ=>top 14
 | .CS=>top 15
 | .Cb=>top 16
 | .Eu=>top 18
 | .BI=>top 19
 | .BX=>top 22
 | .Bm=>top 23
 | .BE=>top 24
 | .BJ=>top 25
 | .CU=>top 26
 | .Bw=>top 27
 | .Ct=>top 28
 | .Bz=>top 29
 | .Cd=>top 30
 | .C4=>top 31
 | .Ds=>top 32
 | .C1=>top 33
 | .C3=>top 34
 | .Cc=>top 35
 | .Dq=>top 37
 | .BK=>top 38
 | .BG=>top 43
 | .BB=>top 44
 | .Bg=>top 45
 | .BS=>top 46
 | .BT=>top 47
 | .BH=>top 48
 | .Cn=>top 49
 | .B7=>top 50
 | .Be=>top 51
 | .Cv=>top 52
 | .B9=>top 53
 | .BR=>top 54
 | .Bo=>top 55
 | .Ca=>top 56
 | .Bv=>top 57
 | .law_=>top 58
 | .AG=>B8 (top 40) 0
 | .AM=>B8 (top 40) 1
 | .AS=>B8 (top 40) 2
 | .AB=>B8 (top 40) 3
 | .AH=>B8 (top 41) 0
 | .AN=>B8 (top 41) 1
 | .AI=>B8 (top 41) 2
noncomputable abbrev ps:Fx->List Str
 | .Cp=>["thing"]
 | .A4=>["thing", "low", "high"]
 | .D7=>["s", "thing"]
 | .Co=>["s", "thing"]
 | .CT=>["number"]
 | .CQ=>["s", "thing"]
 | .CS=>["s", "thing"]
 | .Cb=>["s", "thing"]
 | .Eu=>["state"]
 | .BI=>["g"]
 | .BX=>["s", "value"]
 | .Bm=>["s", "value"]
 | .BE=>["most"]
 | .BJ=>["number", "width"]
 | .CU=>["number", "cut"]
 | .Bw=>["s", "wire", "at"]
 | .Ct=>["wire", "at"]
 | .Bz=>["most", "wire", "at"]
 | .Cd=>["s", "wire", "at"]
 | .C4=>["s", "wire", "at"]
 | .Ds=>["wire", "at"]
 | .C1=>["s", "wire", "at"]
 | .C3=>["s", "wire", "at"]
 | .Cc=>["s", "wire", "at"]
 | .Dq=>["g", "state", "wires", "places"]
 | .BK=>["state", "wire", "at"]
 | .BG=>["script", "k"]
 | .BB=>["script", "k"]
 | .Bg=>["pool", "many"]
 | .BS=>["pool", "deep"]
 | .BT=>["pool", "s"]
 | .BH=>["script"]
 | .Cn=>["script", "g", "start", "most"]
 | .B7=>["g", "talk"]
 | .Be=>["talk", "parts"]
 | .Cv=>["talk", "parts", "room"]
 | .B9=>["pool", "many"]
 | .BR=>["value"]
 | .Bo=>["talk", "due"]
 | .Ca=>["g"]
 | .Bv=>[]
 | .law_=>["script"]
 | .AG=>["self", "g", "sides"]
 | .AM=>["self"]
 | .AS=>["self", "side", "piece"]
 | .AB=>["self", "side"]
 | .AH=>["self", "g"]
 | .AN=>["self", "side", "piece"]
 | .AI=>["self"]
noncomputable abbrev ns:Fx->List Str
 | .Cp=>["thing"]
 | .A4=>["thing", "low", "high"]
 | .D7=>["s", "thing", "kind"]
 | .Co=>["s", "thing", "sign"]
 | .CT=>["number"]
 | .CQ=>["s", "thing", "part"]
 | .CS=>["s", "thing"]
 | .Cb=>["s", "thing"]
 | .Eu=>["state"]
 | .BI=>["g"]
 | .BX=>["s", "value"]
 | .Bm=>["s", "value", "kind", "row", "thing"]
 | .BE=>["most"]
 | .BJ=>["number", "width"]
 | .CU=>["number", "cut"]
 | .Bw=>["s", "wire", "at", "kind"]
 | .Ct=>["wire", "at"]
 | .Bz=>["most", "wire", "at", "byte"]
 | .Cd=>["s", "wire", "at", "most", "width", "number", "k"]
 | .C4=>["s", "wire", "at", "length", "place", "text", "k"]
 | .Ds=>["wire", "at", "number"]
 | .C1=>["s", "wire", "at", "length", "place", "things", "k", "part"]
 | .C3=>["s", "wire", "at", "first", "second"]
 | .Cc=>["s", "wire", "at", "k", "part"]
 | .Dq=>["g", "state", "wires", "places", "talk", "standing", "behind", "side", "read"]
 | .BK=>["state", "wire", "at", "word", "read", "e"]
 | .BG=>["script", "k"]
 | .BB=>["script", "k", "cell"]
 | .Bg=>["pool", "many", "rest"]
 | .BS=>["pool", "deep", "kind", "low"]
 | .BT=>["pool", "s", "kind", "signs", "k"]
 | .BH=>["script", "pool", "many", "g", "h", "side", "words", "k", "name", "then"]
 | .Cn=>["script", "g", "start", "most", "talk", "here", "states", "k", "pool", "side", "words", "name", "shape", "then"]
 | .B7=>["g", "talk", "found", "here", "side", "name", "value", "words", "k"]
 | .Be=>["talk", "parts", "wires", "k"]
 | .Cv=>["talk", "parts", "room", "gone", "k"]
 | .B9=>["pool", "many"]
 | .BR=>["value"]
 | .Bo=>["talk", "due", "k"]
 | .Ca=>["g", "handed", "reader"]
 | .Bv=>["ended"]
 | .law_=>["script", "g", "talk", "states", "parts", "wires", "reader", "room", "told", "whole", "held", "k", "pool", "side", "many", "piece", "kept", "found", "count", "gone", "rest"]
 | .AG=>["self", "g", "sides", "side"]
 | .AM=>["self"]
 | .AS=>["self", "side", "piece", "read"]
 | .AB=>["self", "side"]
 | .AH=>["self", "g"]
 | .AN=>["self", "side", "piece"]
 | .AI=>["self"]
def body (Φ:Fx->Fn):Fx->Fn
 | .Cp=>fnOf 1 1 (FR)
 | .A4=>fnOf 3 3 (Dn (Φ .Cp))
 | .D7=>fnOf 2 3 (MQ (Φ .Cb) (Φ .CS) (Φ .CQ) (Φ .Co) (Φ .A4))
 | .Co=>fnOf 2 3 (FQ (Φ .CT))
 | .CT=>fnOf 1 1 (Hc)
 | .CQ=>fnOf 2 3 (FO (Φ .D7))
 | .CS=>fnOf 2 2 (FP (Φ .D7))
 | .Cb=>fnOf 2 2 (EW (Φ .D7) (Φ .A4))
 | .Eu=>fnOf 1 1 (DT)
 | .BI=>fnOf 1 1 (Dw (Φ .Eu))
 | .BX=>fnOf 2 2 (DU (Φ .Bm) (Φ .D7))
 | .Bm=>fnOf 2 5 (Eg (Φ .Bm) (Φ .BE) (Φ .BJ))
 | .BE=>fnOf 1 1 (EX)
 | .BJ=>fnOf 2 2 (Ex (Φ .CU))
 | .CU=>fnOf 2 2 (He)
 | .Bw=>fnOf 3 4 (Eh (Φ .Cc) (Φ .C3) (Φ .C1) (Φ .C4) (Φ .Cd))
 | .Ct=>fnOf 2 2 (Fl)
 | .Bz=>fnOf 3 4 (Ec (Φ .Ct))
 | .Cd=>fnOf 3 7 (CY (Φ .CU) (Φ .Ct) (Φ .BE))
 | .C4=>fnOf 3 7 (Dv (Φ .Ds) (Φ .Bz))
 | .Ds=>fnOf 2 3 (Fo (Φ .CT) (Φ .Ct))
 | .C1=>fnOf 3 8 (Dt (Φ .Bw) (Φ .Bz))
 | .C3=>fnOf 3 5 (Du (Φ .Bw))
 | .Cc=>fnOf 3 5 (CW (Φ .Bw) (Φ .Bz))
 | .Dq=>fnOf 4 9 (Fm (Φ .BK))
 | .BK=>fnOf 3 6 (Ey (Φ .Bw))
 | .BG=>fnOf 2 2 (Df)
 | .BB=>fnOf 2 3 (Ed (Φ .BG))
 | .Bg=>fnOf 2 3 (Ee)
 | .BS=>fnOf 2 4 (DQ (Φ .Bg) (Φ .BS))
 | .BT=>fnOf 2 5 (DR (Φ .BT) (Φ .Bg))
 | .BH=>fnOf 1 10 (Dm (Φ .Bg) (Φ .BS) (Φ .BB))
 | .Cn=>fnOf 4 14 (Ef (Φ .BT) (Φ .Bg) (Φ .BB))
 | .B7=>fnOf 2 9 (EV (Φ .BX))
 | .Be=>fnOf 2 4 (Dd)
 | .Cv=>fnOf 3 5 (DS)
 | .B9=>fnOf 2 2 (Ev (Φ .Bg))
 | .BR=>fnOf 1 1 (EU (Φ .BR))
 | .Bo=>fnOf 2 3 (CV)
 | .Ca=>fnOf 1 3 (Ew (Φ .AH))
 | .Bv=>fnOf 0 1 (ET (Φ .AN) (Φ .AM) (Φ .AI) (Φ .AH))
 | .law_=>fnOf 1 21 (Hd (Φ .AN) (Φ .Bv) (Φ .Bo) (Φ .AI) (Φ .BR) (Φ .AM) (Φ .Cv) (Φ .B9) (Φ .Bg) (Φ .BB) (Φ .Ca) (Φ .Be) (Φ .B7) (Φ .Cn) (Φ .BH))
 | .AG=>fnOf 3 4 (Ea (Φ .BI))
 | .AM=>fnOf 1 1 (CG)
 | .AS=>fnOf 3 4 (DP (Φ .Dq))
 | .AB=>fnOf 2 2 (By)
 | .AH=>fnOf 2 2 (Eb (Φ .AG))
 | .AN=>fnOf 3 3 (ES (Φ .AS))
 | .AI=>fnOf 1 1 (Cq (Φ .AB))
def run:Nat->Fx->Fn
 | 0=>λ_ _ _=>none
 | n + 1=>body (run n)
structure Md (K:PySem.W.Frag)(mg:Str->Option Value)(A:Fx->Addr)(fd:Fx->FuncData):Prop where
 fn:∀x,Fun K (nm x) (ql x) (st x) (A x) (fd x)
 mgs:∀x,me x=false->mg (nm x)=some (.ref (A x))
 bd:∀x,Binds K (fd x) (ps x) []
 cm:CM K
 L5:∃C,PySem.W.nsIn K mainGlobals "Reader" = some (some (.ref C))/\mg "Reader" = some (.ref C)/\Mk K C (A .AH)/\Meth K C "feed" (A .AN)/\Meth K C "unread" (A .AI)/\Meth K C "state" (A .AM)/\Meth K C "hear" (A .AS)/\Meth K C "unread_of" (A .AB)
 fK:∃C,mg "Hearer" = some (.ref C)/\ByCls K C "__init__" (A .AG)
 eQ:mg "bool" = none
 eO:mg "dict" = none
 eS:mg "int" = none
 d6:mg "isinstance" = none
 eZ:mg "len" = none
 eI:mg "list" = none
 f7:mg "min" = none
 f8:mg "ord" = none
 eB:mg "range" = none
 eY:mg "str" = none
 eC:mg "tuple" = none
 d7:∃tk,mg "FIRST_SIGN" = some (.int 32 tk)
 d8:∃tk,mg "LAST_SIGN" = some (.int 126 tk)
 d5:∃tk,mg "PERCENT_SIGN" = some (.int 37 tk)
 dZ:∃tk,mg "SIGNS" = some (.str " !\"#$ &'()*+,-./0123456789:;<=>?@ABCDEFGHIJKLMNOPQRSTUVWXYZ[\\]^_`abcdefghijklmnopqrstuvwxyz{|}~" tk)
 xm:∃(P:Addr) (ca:Str->Addr),XM K mg P ca/\XF2 K (ca "Broken") P "Broken.__init__" (B8 (top 4) 0)/\∀n∈(["NoValue", "Short"]:List Str),XN0 K (ca n)
noncomputable abbrev kd:Fx->Kd
 | .Cp=>.pl
 | .A4=>.pl
 | .D7=>.pl
 | .Co=>.pl
 | .CT=>.pl
 | .CQ=>.pl
 | .CS=>.pl
 | .Cb=>.pl
 | .Eu=>.pl
 | .BI=>.pl
 | .BX=>.ex
 | .Bm=>.fr
 | .BE=>.pl
 | .BJ=>.fr
 | .CU=>.pl
 | .Bw=>.ex
 | .Ct=>.ex
 | .Bz=>.ex
 | .Cd=>.ex
 | .C4=>.ex
 | .Ds=>.ex
 | .C1=>.ex
 | .C3=>.ex
 | .Cc=>.ex
 | .Dq=>.er
 | .BK=>.er
 | .BG=>.pl
 | .BB=>.pl
 | .Bg=>.pl
 | .BS=>.pl
 | .BT=>.pl
 | .BH=>.pl
 | .Cn=>.pl
 | .B7=>.pl
 | .Be=>.pl
 | .Cv=>.pl
 | .B9=>.pl
 | .BR=>.pl
 | .Bo=>.pl
 | .Ca=>.pl
 | .Bv=>.pl
 | .law_=>.pl
 | .AG=>.pl
 | .AM=>.pl
 | .AS=>.er
 | .AB=>.pl
 | .AH=>.pl
 | .AN=>.er
 | .AI=>.pl
theorem UL:FnScope ["self", "at", "side"] ["self", "at", "side"] (As (B8 (top 4) 0)):=⟨rfl,rfl,rfl,by decide +kernel,rfl,by decide +kernel,by decide +kernel⟩
section
variable {P:Program}{w:World}{K:PySem.W.Frag}{mg:Str->Option Value}{base:Heap}{A:Fx->Addr}{fd:Fx->FuncData}{n:Nat}
theorem F4 {a:Kd}(k:Kd){P:Program}{w:World}{K:PySem.W.Frag}{mg:Str->Option Value}{base:Heap}{n:Nat}{fa:Addr}{fd:FuncData}{ps:List Str}{f:Fn}(h:okK a P w K mg base n fa fd ps f)(e:a=k):okK k P w K mg base n fa fd ps f:=e ▸ h
section
variable {X:Cx}{A:Fx->Addr}{fd:Fx->FuncData}{n k:Nat}{x:Fx}{s:Str}{e:Expr}{es:List Expr}{f:M (List D)}{p pos:Pos}{E:L2.St->XK}
theorem a7 (M:Md X.K X.mg A fd)(ih:∀x,okK (kd x) X.prog X.w X.K X.mg X.base k (A x) (fd x) (ps x) (run n x))(hr:Room k X.A)(ha:PA X (e :: es) (RA X.K f))(hk:kd x = .ex)(hm:me x=false)(hs:nm x=s)(hg:Gl X s)(h1:AZ e=false)(h2:AY es=true)(hd:(s == ("__debug__" : Str))=false):PE X (.Call (.Name s p) (e :: es) [] pos) (RE X.K (Aj (Ez (run n x)) f)):=by subst hs;exact Mr (Uv (F4 .ex (ih x) hk)) hr hg (M.mgs x hm) (Fun.kp (M.fn x)) (M.bd x) ha hd h1 h2
theorem cP (M:Md X.K X.mg A fd)(ih:∀x,okK (kd x) X.prog X.w X.K X.mg X.base k (A x) (fd x) (ps x) (run n x))(hr:Room k X.A)(ha:PA X (e :: es) (RA X.K f))(hk:kd x = .pl)(hm:me x=false)(hs:nm x=s)(hg:Gl X s)(h1:AZ e=false)(h2:AY es=true)(hd:(s == ("__debug__" : Str))=false):PE X (.Call (.Name s p) (e :: es) [] pos) (RE X.K (Aj (run n x) f)):=by subst hs;exact Mr (F4 .pl (ih x) hk) hr hg (M.mgs x hm) (Fun.kp (M.fn x)) (M.bd x) ha hd h1 h2
theorem fF (M:Md X.K X.mg A fd)(ih:∀x,okK (kd x) X.prog X.w X.K X.mg X.base k (A x) (fd x) (ps x) (run n x))(hr:Room k X.A)(ha:PA X (e :: es) (RA X.K f))(hk:kd x = .fr)(hm:me x=false)(hs:nm x=s)(hg:Gl X s)(h1:AZ e=false)(h2:AY es=true)(hd:(s == ("__debug__" : Str))=false):PE X (.Call (.Name s p) (e :: es) [] pos) (RF X.K (DB (run n x) f)):=by subst hs;exact SH (F4 .fr (ih x) hk) hr hg (M.mgs x hm) (Fun.kp (M.fn x)) (M.bd x) ha hd h1 h2
theorem xer (M:Md X.K X.mg A fd)(ih:∀x,okK (kd x) X.prog X.w X.K X.mg X.base k (A x) (fd x) (ps x) (run n x))(hr:Room k X.A)(hp:Cj (CX1 false X.prog X.w) X E)(ha:PA X (e :: es) (RA X.K f))(hk:kd x = .er)(hm:me x=false)(hs:nm x=s)(hg:Gl X s)(h1:AZ e=false)(h2:AY es=true)(hd:(s == ("__debug__" : Str))=false):PE X (.Call (.Name s p) (e :: es) [] pos) (RX X.K E (Aj (run n x) f)):=by subst hs;exact N6 (F4 .er (ih x) hk) hr hg (M.mgs x hm) (Fun.kp (M.fn x)) (M.bd x) hp ha hd h1 h2
theorem xex (M:Md X.K X.mg A fd)(ih:∀x,okK (kd x) X.prog X.w X.K X.mg X.base k (A x) (fd x) (ps x) (run n x))(hr:Room k X.A)(hp:Cj (CX1 true X.prog X.w) X E)(ha:PA X (e :: es) (RA X.K f))(hk:kd x = .ex)(hm:me x=false)(hs:nm x=s)(hg:Gl X s)(h1:AZ e=false)(h2:AY es=true)(hd:(s == ("__debug__" : Str))=false):PE X (.Call (.Name s p) (e :: es) [] pos) (RX X.K E (Aj (run n x) f)):=by subst hs;exact N6 (F4 .ex (ih x) hk) hr hg (M.mgs x hm) (Fun.kp (M.fn x)) (M.bd x) hp ha hd h1 h2
end
seal PH PE PA PSs PS PT PG PGs PW PI PPf PIf PO
theorem sc (x:Fx):FnScope (ns x) (ps x) (As (st x)):=by
 cases x <;> exact ⟨rfl,rfl,rfl,by decide +kernel,rfl,by decide +kernel,by decide +kernel⟩
local macro_rules | `(tactic| clear 30 $t)=>`(tactic| with_reducible refine (?_ : $t))
theorem step (M:Md K mg A fd)(ih0:∀x,okK (kd x) P w K mg base (2 * n + 2) (A x) (fd x) (ps x) (run n x))(y:Fx):okK (kd y) P w K mg base (2 * n + 2 + 1 + 1) (A y) (fd y) (ps y) (run (n + 1) y):=by
 have ih:=λx=>Yi (ih0 x);obtain ⟨_,d7⟩:=M.d7;obtain ⟨_,d8⟩:=M.d8;obtain ⟨_,d5⟩:=M.d5;obtain ⟨P',ca,x,xt,x0⟩:=M.xm;have xb:XN2 P w K mg base (ca "Broken") P':=SY rfl UL rfl rfl rfl xt;obtain ⟨_,dZ⟩:=M.dZ;have xh:Se P w K mg base (ca "Broken") P':=QJ rfl UL rfl rfl rfl xt;obtain ⟨Reader_,d4,fT,fO,fY,fS,fW,fZ,fN⟩:=M.L5;have fX:MAt K "Reader" "feed" Reader_ (A .AN):=⟨by decide,d4,fY,by decide⟩;have fU:MAt K "Reader" "state" Reader_ (A .AM):=⟨by decide,d4,fW,by decide⟩;have fR:MAt K "Reader" "unread" Reader_ (A .AI):=⟨by decide,d4,fS,by decide⟩;obtain ⟨Hearer_b,fP,fQ⟩:=M.fK;have fV:MAt K "Reader" "hear" Reader_ (A .AS):=⟨by decide,d4,fZ,by decide⟩;have fH:MAt K "Reader" "unread_of" Reader_ (A .AB):=⟨by decide,d4,fN,by decide⟩;have sy:=sc y;have nd:=sy.nd;have mf:=M.fn y
 cases y <;> first | (clear 30 (okK .pl ..);refine YY (g:=fnOf _ _ _) rfl (XQ rfl rfl mf sy (λcdv A' outer s H E hr=>?_))) | (clear 30 (okK .ex ..);refine Oq (g:=fnOf _ _ _) rfl (N0 rfl rfl mf sy (λcdv A' outer s H E hr hp hq ho=>?_))) | (clear 30 (okK .fr ..);refine Ws (g:=fnOf _ _ _) rfl (Vh rfl rfl mf sy (λcdv A' outer s H E hr=>?_))) | (clear 30 (okK .er ..);refine Oq (g:=fnOf _ _ _) rfl (Vi rfl rfl mf sy (λcdv A' outer s H E hr hp hq ho ht=>?_)))
 all_goals repeat' first
  | (clear 30 (PH ..);first
    | (clear 30 (PH _ _ (.ExceptHandler (some (.Name _ _)) (some _) [.Raise (some (.Call (.Name _ _) [_,_] [] _)) (some _) _] _ :: _) (RH _ _ (μX _ _) (hAs _ _ (Dp _ _) _)));refine ZC x xh rfl rfl (hr.mono (by omega)) rfl (x.ms "Broken" (by decide)) (x.cl "Broken" (by decide)) (λ_ hn=>x.subE hn (by decide)) nd rfl rfl ht rfl (λy=>?_) Vt ?_)
    | (clear 30 (PH _ _ (.ExceptHandler (some (.Name _ _)) none (_ :: _) _ :: _) (RH _ _ _ (hNo _ _ _)));refine ZB x rfl (x.ms "Short" (by decide)) (x.cl "Short" (by decide)) (λ_ hn=>x.subE hn (by decide)) (λy=>?_) ?_)
    | exact XL)
  | (clear 30 (PE ..);first
    | (clear 30 (PE _ (.Name ..) ..);first
      | (clear 30 (PE _ _ (RE _ (Ab _)));exact (XI _))
      | (clear 30 (PE _ (.Name _ _) (RE _ (fC (.ty _))));exact (Jr rfl M.eI NT))
      | (clear 30 (PE _ (.Name _ _) (RE _ (fC (.ty _))));exact (Jr rfl M.eC L3))
      | (clear 30 (PE _ (.Name _ _) (RE _ (fC (.ty _))));exact (Jr rfl M.eQ UZ))
      | (clear 30 (PE _ (.Name _ _) (RE _ (fC (.ty _))));exact (Jr rfl M.eY Xo))
      | (clear 30 (PE _ (.Name _ _) (RE _ (fC (.int _))));exact (Kj rfl d7))
      | (clear 30 (PE _ (.Name _ _) (RE _ (fC (.ty _))));exact (Jr rfl M.eS P5))
      | (clear 30 (PE _ (.Name _ _) (RE _ (fC (.int _))));exact (Kj rfl d8))
      | (clear 30 (PE _ (.Name _ _) (RE _ (fC (.int _))));exact (Kj rfl d5))
      | (clear 30 (PE _ _ (RE _ (fC (.str _))));exact (SC rfl dZ)))
    | (clear 30 (PE _ (.Constant ..) ..);first
      | (clear 30 (PE _ _ (RE _ (fC (.int _))));exact XA)
      | (clear 30 (PE _ _ (RE _ (fC (.str _))));exact XG)
      | (clear 30 (PE _ _ (RE _ (fC (.bl _))));exact Zy)
      | (clear 30 (PE _ _ (RE _ (fC .non)));exact XB))
    | (clear 30 (PE _ (.Subscript ..) ..);first
      | (clear 30 (PE _ _ (RE _ (Ac _ _ ixD)));refine Uy X4 Y0 ?_ ?_ (λ_ _=>rfl))
      | (clear 30 (PE _ _ (RE _ (Ac _ _ A8)));refine Uy X2 Ry ?_ ?_ (λ_ _=>rfl))
      | (clear 30 (PE _ _ (RE _ (fSl _ _ _ Fz)));refine SG sl3 WG ?_ ?_ ?_)
      | (clear 30 (PE _ _ (RF _ (OT _ _ _)));refine SI ?_ ?_ ?_))
    | (clear 30 (PE _ (.Call ..) ..);first
      | (clear 30 (PE _ _ (RE _ (Aj (run _ _) _)));refine @cP _ _ _ _ _ _ _ _ _ _ _ _ M ih hr ?_ (by rfl) (by rfl) (by rfl) (by rfl) (by rfl) (by rfl) (by decide))
      | (clear 30 (PE _ _ (RE _ (fB _ A0)));refine HE Sj Wy rfl M.eZ Xl ?_)
      | (clear 30 (PE _ (.Call (.Name _ _) _ _ _) (RX _ _ (Aj (run _ _) _)));refine @xex _ _ _ _ _ _ _ _ _ _ _ _ _ M ih hr hp ?_ (by rfl) (by rfl) (by rfl) (by rfl) (by rfl) (by rfl) (by decide))
      | (clear 30 (PE _ _ (RE _ (fB _ Dk)));refine HE Me Ox rfl M.d6 EQ ?_)
      | (clear 30 (PE _ _ (RF _ (DB (run _ _) _)));refine @fF _ _ _ _ _ _ _ _ _ _ _ _ M ih hr ?_ (by rfl) (by rfl) (by rfl) (by rfl) (by rfl) (by rfl) (by decide))
      | (clear 30 (PE _ _ (RE _ (objM BA _ _)));refine Qh ?_ ?_)
      | (clear 30 (PE _ _ (RE _ (fB _ Fr)));refine HE (P9 rfl) WA rfl M.f7 Xm ?_)
      | (clear 30 (PE _ _ (RF _ (fBF _ D9)));refine Zz Mf Wz rfl M.eI NT ?_)
      | (clear 30 (PE _ _ (RE _ (BZ _ (Ez (run _ .AN)) _ _)));refine NZ M.cm fX (Uv (ih .AN)) hr (M.bd .AN) ?_ ?_)
      | (clear 30 (PE _ _ (RE _ (fB _ Gu)));refine HE Me T3 rfl M.d6 EQ ?_)
      | (clear 30 (PE _ _ (RE _ (fB _ IL)));refine HE Sk WD rfl M.f8 Xn ?_)
      | (clear 30 (PE _ (.Call (.Name _ _) _ _ _) (RX _ _ (Aj (run _ _) _)));refine @xer _ _ _ _ _ _ _ _ _ _ _ _ _ M ih hr hp ?_ (by rfl) (by rfl) (by rfl) (by rfl) (by rfl) (by rfl) (by decide))
      | (clear 30 (PE _ _ (RE _ (Jq _ _ _)));refine U8 (by decide) d4 fO (ih0 .AH) hr rfl fT (M.bd .AH) ?_)
      | (clear 30 (PE _ _ (RE _ (BZ _ (run _ .AM) _ (ret []))));refine Ms M.cm fU (ih .AM) hr (M.bd .AM) ?_)
      | (clear 30 (PE _ _ (RE _ (BZ _ (run _ .AI) _ (ret []))));refine Ms M.cm fR (ih .AI) hr (M.bd .AI) ?_)
      | (clear 30 (PE _ _ (RE _ (BZ _ (run _ .AB) _ _)));refine NZ M.cm fH (ih .AB) hr (M.bd .AB) ?_ ?_)
      | (clear 30 (PE _ _ (RE _ (fUn _ Je)));refine Qi ?_)
      | (clear 30 (PE _ _ (RE _ (fB _ Hz)));refine SA rfl M.eO ?_)
      | (clear 30 (PE _ _ (RE _ (fB _ Km)));refine Ux P7 Wx rfl M.eS P5 ?_)
      | (clear 30 (PE _ _ (RE _ (fB _ KC)));refine Ux Lb WI rfl M.eC L3 ?_)
      | (clear 30 (PE _ _ (RE _ (joinM _ _)));refine U7 ?_ ?_)
      | (clear 30 (PE _ _ (RE _ (idxM _ _)));refine SE ?_ ?_)
      | (clear 30 (PE _ _ (RE _ (Aj (Ez (run _ _)) _)));refine a7 M ih hr ?_ (by rfl) (by rfl) (by rfl) (by rfl) (by rfl) (by rfl) (by decide))
      | (clear 30 (PE _ _ (RE _ (fB _ GY)));refine HE P8 T2 rfl M.d6 EQ ?_)
      | (clear 30 (PE _ _ (RE _ (Pf _)));refine Ql ?_)
      | (clear 30 (PE _ _ (RE _ (Pe _)));refine Qj ?_)
      | (clear 30 (PE _ _ (RE _ (Aj _ Ad)));exact (Sy (F4 .pl (ih .Bv) rfl) hr rfl (M.mgs .Bv rfl) (Fun.kp (M.fn .Bv)) (M.bd .Bv)))
      | (clear 30 (PE _ _ (RE _ (objX _ _)));refine OV ?_ ?_)
      | (clear 30 (PE _ _ (RE _ (Aj _ _)));refine Sx (ih .AG) hr rfl fP fQ (M.bd .AG) ?_)
      | (clear 30 (PE _ _ (RX _ _ (BZ _ (run _ .AS) _ _)));refine Vp M.cm fV (ih .AS) hr (M.bd .AS) hp ?_ ?_))
    | (clear 30 (PE _ (.BinOp ..) ..);first
      | (clear 30 (PE _ _ (RE _ (Ac _ _ AR)));refine E3 Of Nu ?_ ?_)
      | (clear 30 (PE _ _ (RE _ (Ac _ _ BL)));refine E3 Yr WH ?_ ?_)
      | (clear 30 (PE _ _ (RE _ (Ac _ _ EY)));refine E3 Yn WB ?_ ?_)
      | (clear 30 (PE _ _ (RE _ (Ac _ _ Ei)));refine E3 VR T4 ?_ ?_)
      | (clear 30 (PE _ _ (RE _ (Ac _ _ Hj)));refine E3 Yp WE ?_ ?_)
      | (clear 30 (PE _ (.BinOp _ .Add _ _) (RF _ _));refine Uz Nb TY ?_ ?_)
      | (clear 30 (PE _ _ (RE _ (Ac _ _ FH)));refine E3 VQ TZ ?_ ?_)
      | (clear 30 (PE _ _ (RE _ (Ac _ _ II)));refine E3 VT T5 ?_ ?_)
      | (clear 30 (PE _ _ (RX _ _ (HA _ _ AR)));refine ZH Of Nu ?_ ?_)
      | (clear 30 (PE _ _ (RE _ (Ac _ _ HD)));refine E3 Tq Rz ?_ ?_)
      | (clear 30 (PE _ _ (RE _ (Ac _ _ Nw)));refine E3 Yq WF ?_ ?_)
      | (clear 30 (PE _ (.BinOp _ .Add _ _) (RF _ _));refine Uz Nb Rx ?_ ?_))
    | (clear 30 (PE _ (.List ..) ..);first
      | refine @XJ _ _ _ _ ?_)
    | (clear 30 (PE _ (.Tuple ..) ..);first
      | refine @XH _ _ _ _ _ ?_)
    | (clear 30 (PE _ (.Attribute ..) ..);first
      | (clear 30 (PE _ _ (RE _ (Ep _ _)));refine Xz M.cm (by decide) ?_ rfl)
      | (clear 30 (PE _ _ (RE _ (bnd _ (J2 _))));refine Xy x x.na ?_ rfl))
    | (clear 30 (PE _ (.BoolOp ..) ..);first
      | (clear 30 (PE _ _ (RE _ (DH _ _)));refine Xx ?_ ?_)
      | (clear 30 (PE _ _ (RE _ _));refine XF ?_))
    | (clear 30 (PE _ (.Compare ..) ..);first
      | (clear 30 (PE _ _ (RE _ (Ac _ _ (eqO _))));refine F0 (Nc hr.units) (Ou (g:=id)) ?_ ?_ (Cs _))
      | (clear 30 (PE _ (.Compare _ [.Eq] [_] _) (RE _ (Ac _ _ (eqS _))));refine F0 (Nc hr.units) (HZ (g:=id)) ?_ ?_ (Cs _))
      | (clear 30 (PE _ _ (RE _ (EM _ _ _ _ _)));refine Sz Nd Nd KA KA ?_ ?_ ?_)
      | (clear 30 (PE _ _ (RE _ (Ac _ _ isC)));refine F0 Q8 RB ?_ ?_ (Cs _))
      | (clear 30 (PE _ (.Compare _ [.NotEq] [_] _) (RE _ (Ac _ _ (eqS _))));refine F0 (Nf hr.units) (HZ (g:=λb=>!b)) ?_ ?_ (Cs _))
      | (clear 30 (PE _ _ (RE _ (Ac _ _ ltA)));refine F0 Q9 Oy ?_ ?_ (Cs _))
      | (clear 30 (PE _ _ (RE _ (Ac _ _ gtA)));refine F0 Q7 Ov ?_ ?_ (Cs _)))
    | (clear 30 (PE _ (.Dict ..) ..);first
      | (clear 30 (PE _ _ (RE _ (FF _)));refine U6 ?_)
      | (clear 30 (PE _ _ (RE _ (EN [])));exact Qk))
    | (clear 30 (PE _ (.UnaryOp ..) ..);first
      | refine XC ?_)
    | (clear 30 (PE _ (.IfExp ..) ..);first
      | refine SD ?_ ?_ ?_)
    | (clear 30 (PE _ (.ListComp ..) ..);first
      | (clear 30 (PE _ (.ListComp _ [⟨(.Name ("state" : Str) _),_,_,0⟩] _ _) (RF _ (Fh _ _ _ _ _ _)));refine Mu (DA ["state"] [] rfl rfl rfl rfl rfl) rfl ?_ (λ_ _ _ _ _=>?_) (λ_ _ _ _ _=>?_) (λ_ _ _ _ _=>?_))
      | (clear 30 (PE _ (.ListComp _ [⟨(.Name ("sign" : Str) _),_,_,0⟩] _ _) (RF _ (BM _ [] _ _ _ _)));refine Es (DA ["sign"] [] rfl rfl rfl rfl rfl) rfl ?_ (λ_ _ _ _ _=>?_) (λ_ _ _ _ _=>?_) (λ_ _ _ _ _=>?_))
      | (clear 30 (PE _ (.ListComp _ [⟨(.Name ("k" : Str) _),_,_,0⟩] _ _) (RF _ (BM _ [0,1] _ _ _ _)));refine Es (DA ["k"] [(0 , "number") ,(1 , "width")] rfl rfl rfl rfl rfl) rfl ?_ (λ_ _ _ _ _=>?_) (λ_ _ _ _ _=>?_) (λ_ _ _ _ _=>?_))
      | (clear 30 (PE _ (.ListComp _ [⟨(.Name ("k" : Str) _),_,_,0⟩] _ _) (RF _ (BM _ [0,1] _ _ _ _)));refine Es (DA ["k"] [(0 , "pool") ,(1 , "deep")] rfl rfl rfl rfl rfl) rfl ?_ (λ_ _ _ _ _=>?_) (λ_ _ _ _ _=>?_) (λ_ _ _ _ _=>?_))
      | (clear 30 (PE _ _ (RF _ (BM _ [3,0] _ _ _ _)));refine Es (DA ["k"] [(3 , "signs") ,(0 , "pool")] rfl rfl rfl rfl rfl) rfl ?_ (λ_ _ _ _ _=>?_) (λ_ _ _ _ _=>?_) (λ_ _ _ _ _=>?_))
      | (clear 30 (PE _ (.ListComp _ [⟨(.Name ("k" : Str) _),_,_,0⟩] _ _) (RF _ (BM _ [0,1] _ _ _ _)));refine Es (DA ["k"] [(0 , "pool") ,(1 , "s")] rfl rfl rfl rfl rfl) rfl ?_ (λ_ _ _ _ _=>?_) (λ_ _ _ _ _=>?_) (λ_ _ _ _ _=>?_))
      | (clear 30 (PE _ (.ListComp _ [⟨(.Name ("word" : Str) _),_,_,0⟩] _ _) (RF _ (BM _ [] _ _ _ _)));refine Es (DA ["word"] [] rfl rfl rfl rfl rfl) rfl ?_ (λ_ _ _ _ _=>?_) (λ_ _ _ _ _=>?_) (λ_ _ _ _ _=>?_))
      | (clear 30 (PE _ (.ListComp _ [⟨(.Name ("one" : Str) _),_,_,0⟩] _ _) (RF _ (Fh _ _ _ _ _ _)));refine Mu (DA ["one"] [] rfl rfl rfl rfl rfl) rfl ?_ (λ_ _ _ _ _=>?_) (λ_ _ _ _ _=>?_) (λ_ _ _ _ _=>?_))
      | (clear 30 (PE _ _ (RF _ (BM _ _ _ _ _ _)));refine Es (DA ["some" , "kept"] [] rfl rfl rfl rfl rfl) rfl ?_ (λ_ _ _ _ _=>?_) (λ_ _ _ _ _=>?_) (λ_ _ _ _ _=>?_)))
    | (clear 30 (PE _ _ (RE _ (AJ _)));refine U9 ?_)
    | (clear 30 (PE _ _ (RE _ (CP _)));refine XD ?_))
  | (clear 30 (PA ..);first
    | refine @Sw _ _ _ _ _ ?_ ?_ rfl
    | exact Xw)
  | (clear 30 (PSs ..);first
    | refine @SO _ _ _ _ _ _ ?_ ?_
    | refine @Vn _ _ _ _ ?_
    | exact Vm
    | refine SQ ?_)
  | (clear 30 (PS ..);first
    | (clear 30 (PS _ (.Assign ..) ..);first
      | (clear 30 (PS _ (.Assign [.Name _ _] _ _) (RSg _ _ (AA _ _)));refine QA nd rfl (.inl rfl) ?_)
      | (clear 30 (PS _ _ (RSg _ _ (CN _ _)));refine XR ?_ ?_)
      | (clear 30 (PS _ _ (RSg _ (μX _ _) (De _ _)));refine HX (N5 nd rfl (.inl rfl) ?_))
      | (clear 30 (PS _ _ (RSg _ _ (Ej _ _)));refine XT nd rfl (.inl rfl) ?_)
      | (clear 30 (PS _ _ (RSg _ _ (Ek _ _ _)));refine XS M.cm (by decide) ?_ ?_)
      | (clear 30 (PS _ _ (RSX _ _ (De _ _)));refine N5 nd rfl (.inl rfl) ?_)
      | (clear 30 (PS _ (.Assign [.Name _ _] _ _) (RSg _ _ (AA _ _)));refine QA nd rfl (.inr rfl) ?_)
      | (clear 30 (PS _ _ (RSg _ _ (AA _ (CP (BM _ [] _ _ _ _)))));refine SN (DA ["state"] [] rfl rfl rfl rfl rfl) rfl nd rfl rfl ?_ (λ_ _ _ _ _=>?_) (λ_ _ _ _ _=>?_) (λ_ _ _ _ _=>?_)))
    | (clear 30 (PS _ (.Return ..) ..);first
      | (clear 30 (PS _ _ (RSg _ (μR _) (Av _)));refine Qy ?_)
      | (clear 30 (PS _ _ (RSg _ (μX _ _) (Av (nxD _))));refine N3 ?_)
      | (clear 30 (PS _ _ (RSg _ (μF _) (GB _)));refine N2 ?_)
      | (clear 30 (PS _ _ (RSg _ (μX _ _) (Av _)));refine HX (N4 ?_))
      | (clear 30 (PS _ _ (RSg _ (μF _) (F7 _)));exact (Qz _)))
    | (clear 30 (PS _ (.If ..) ..);first
      | refine ZE ?_ ?_ ?_)
    | (clear 30 (PS _ (.For ..) ..);first
      | (clear 30 (PS _ (.For _ _ _ [] _) (RSg _ _ (Ci _ _ _)));refine Qw PassesOwn.never rfl ?_ ?_ ?_)
      | (clear 30 (PS _ (.For _ _ _ [] _) (RSg _ _ (Ci _ _ _)));refine Qw ho rfl ?_ ?_ ?_))
    | (clear 30 (PS _ (.Expr ..) ..);first
      | (clear 30 (PS _ _ (RSg _ _ (CO _)));refine N1 ?_)
      | (clear 30 (PS _ _ (RSg _ _ (ownM _ BA _)));refine O0 _ ?_)
      | (clear 30 (PS _ _ (RSg _ _ (ownM _ GU _)));refine O1 _ ?_))
    | (clear 30 (PS _ (.Raise ..) ..);first
      | (clear 30 (PS _ _ (RSg _ (μX _ _) (Dp _ _)));refine HX (Qx x xb (hr.mono (by omega)) rfl hq rfl ?_))
      | (clear 30 (PS _ _ (RSg _ (μX _ _) (Fw ("NoValue" : Str) _)));refine HX (KS (n:="NoValue") x (by decide) rfl (x0 "NoValue" (by decide)) rfl hq rfl ?_))
      | (clear 30 (PS _ _ (RSg _ (μX _ _) (Fw ("Short" : Str) _)));refine HX (KS (n:="Short") x (by decide) rfl (x0 "Short" (by decide)) rfl hq rfl ?_)))
    | (clear 30 (PS _ (.While ..) ..);first
      | (clear 30 (PS _ (.While _ _ [] _) (RSg _ _ (Ge _ _)));refine MD ho ?_ ?_)
      | (clear 30 (PS _ (.While _ _ [] _) (RSg _ _ (Ge _ _)));refine MD PassesOwn.never ?_ ?_))
    | (clear 30 (PS _ (.Break ..) ..);first
      | exact SM)
    | (clear 30 (PS _ (.Try ..) ..);first
      | (clear 30 (PS _ _ (RSg _ (μX _ _) (FB _ _)));refine XU (qx:=true) x Yd rfl rfl (λpn E hp=>?_) ?_))
    | refine Qy ?_
    | refine N2 ?_
    | refine N3 ?_
    | refine HX (N4 ?_)
    | refine N1 ?_)
  | (clear 30 (PT ..);first
    | (clear 30 (PT _ (.Compare ..) ..);first
      | (clear 30 (PT _ (.Compare _ [.Eq] [_] _) (RT _ (Au (Ac _ _ (eqS _)))));refine D8 (Nc hr.units) (HZ (g:=id)) ?_ ?_ (Cs _))
      | (clear 30 (PT _ (.Compare _ [.NotEq] [_] _) (RT _ (Au (Ac _ _ (eqS _)))));refine D8 (Nf hr.units) (HZ (g:=λb=>!b)) ?_ ?_ (Cs _))
      | (clear 30 (PT _ _ (RT _ (Au (Ac _ _ gtA))));refine D8 Q7 Ov ?_ ?_ (Cs _))
      | (clear 30 (PT _ _ (RT _ (Au (Ac _ _ (eqO _)))));refine D8 (Nf hr.units) (Ou (g:=λb=>!b)) ?_ ?_ (Cs _))
      | (clear 30 (PT _ _ (RT _ (Au (Ac _ _ geA))));refine D8 Yl Wv ?_ ?_ (Cs _))
      | (clear 30 (PT _ _ (RT _ (Au (Ac _ _ ltA))));refine D8 Q9 Oy ?_ ?_ (Cs _))
      | (clear 30 (PT _ _ (RT _ (Au (Ac _ _ (inS _)))));refine D8 (Ym hr.units) (Ww (neg:=false)) ?_ ?_ (by with_unfolding_all rfl))
      | (clear 30 (PT _ _ (RT _ (Au (Ac _ _ isC))));refine D8 Q8 RB ?_ ?_ (Cs _))
      | (clear 30 (PT _ _ (RT _ (Au (Ac _ _ leA))));refine D8 Nd KA ?_ ?_ (Cs _)))
    | (clear 30 (PT _ (.UnaryOp ..) ..);first
      | refine XV ?_)
    | (clear 30 (PT _ (.BoolOp ..) ..);first
      | refine ZF ?_)
    | (clear 30 (PT _ _ (RT _ (Au _)));refine XW ?_))
  | (clear 30 (PG ..);first
    | (clear 30 (PG _ (.Name ..) ..);first
      | (clear 30 (PG _ (.Name _ _) (RG _ (AQ _)));exact (C9 nd rfl (.inl rfl)))
      | (clear 30 (PG _ (.Name _ _) (RG _ (AQ _)));exact (C9 (by show List.Nodup [("state" : Str)] ;decide +kernel) rfl (.inl rfl)))
      | (clear 30 (PG _ (.Name _ _) (RG _ (AQ _)));exact (C9 (by show List.Nodup [("some" : Str) ,("kept" : Str)] ;decide +kernel) rfl (.inl rfl)))
      | (clear 30 (PG _ (.Name _ _) (RG _ (AQ _)));exact (C9 (by show List.Nodup [("sign" : Str)] ;decide +kernel) rfl (.inl rfl)))
      | (clear 30 (PG _ (.Name _ _) (RG _ (AQ _)));exact (C9 (by show List.Nodup [("k" : Str) ,("number" : Str) ,("width" : Str)] ;decide +kernel) rfl (.inl rfl)))
      | (clear 30 (PG _ (.Name _ _) (RG _ (AQ _)));exact (C9 (by show List.Nodup [("k" : Str) ,("pool" : Str) ,("deep" : Str)] ;decide +kernel) rfl (.inl rfl)))
      | (clear 30 (PG _ (.Name _ _) (RG _ (AQ _)));exact (C9 (by show List.Nodup [("k" : Str) ,("signs" : Str) ,("pool" : Str)] ;decide +kernel) rfl (.inl rfl)))
      | (clear 30 (PG _ (.Name _ _) (RG _ (AQ _)));exact (C9 (by show List.Nodup [("k" : Str) ,("pool" : Str) ,("s" : Str)] ;decide +kernel) rfl (.inl rfl)))
      | (clear 30 (PG _ (.Name _ _) (RG _ (AQ _)));exact (C9 (by show List.Nodup [("word" : Str)] ;decide +kernel) rfl (.inl rfl)))
      | (clear 30 (PG _ (.Name _ _) (RG _ (AQ _)));exact (C9 (by show List.Nodup [("one" : Str)] ;decide +kernel) rfl (.inl rfl))))
    | (clear 30 (PG _ (.Subscript ..) ..);first
      | refine Qp ?_ ?_)
    | (clear 30 (PG _ (.Tuple ..) ..);first
      | refine ZA rfl ?_))
  | (clear 30 (PGs ..);first
    | refine SJ ?_ ?_
    | exact Va)
  | (clear 30 (PW ..);first
    | (clear 30 (PW _ (.BoolOp .Or (_ :: _ :: _) _) (RT _ (fOr _ _)));refine ZG ?_ ?_)
    | (clear 30 (PW _ (.BoolOp .Or [_] _) (RT _ _));refine XY ?_)
    | (clear 30 (PW _ (.BoolOp .And (_ :: _ :: _) _) (RT _ (ID _ _)));refine XX ?_ ?_)
    | (clear 30 (PW _ (.BoolOp .And [_] _) (RT _ _));refine Vo ?_))
  | (clear 30 (PI ..);first
    | (clear 30 (PI _ _ (.Call ..) ..);first
      | (clear 30 (PI _ _ _ (RI _ (Cg _)));refine OW rfl M.eB ?_)
      | (clear 30 (PI _ _ _ (RI _ (FG _)));refine OX rfl M.eB ?_))
    | (clear 30 (PI _ _ _ (RI _ (D6 _)));refine XN ?_)
    | (clear 30 (PI _ _ _ (RIG _ (Mq _)));refine Vb ?_))
  | (clear 30 (PPf ..);first
    | refine SL ?_ ?_
    | exact Vl)
  | (clear 30 (PIf ..);first
    | exact Vc
    | (clear 30 (PIf _ [_] (RT _ _));refine Vd ?_))
  | (clear 30 (PO ..);first
    | refine Vk ?_
    | exact Vj)
theorem all_ok (M:Md K mg A fd):∀(n:Nat) (x:Fx),okK (kd x) P w K mg base (2 * n + 2) (A x) (fd x) (ps x) (run n x)
 | 0,x=>Tp
 | n + 1,x=>by
   have ih:=all_ok M n;exact step M ih x
end
abbrev fno (x:Fx)(kV dc pm:Value)(an:Option Addr)(cd ct:Value):FuncData:=PySem.W.fnOf (nm x) (ql x) (DX (st x)) (Bt (st x)) (As (st x)) .none kV dc pm an cd ct
structure At (K:PySem.W.Frag)(x:Fx)(f:Addr)(fd:FuncData):Prop where
 a:me x=false->PySem.W.nsIn K mainGlobals (nm x)=some (some (.ref f))
 m:me x=true->∃C,PySem.W.nsIn K mainGlobals (ow x)=some (some (.ref C))/\PySem.W.findIn K (.ref C) (nm x)=some (some (.ref f))/\PySem.W.isFn K (.ref f)=true
 fn:Fun K (nm x) (ql x) (st x) f fd
 bd:Binds K fd (ps x) []
 eq:∃kV dc pm an cd ct,fd=fno x kV dc pm an cd ct
theorem at_mk {K:PySem.W.Frag}{x:Fx}{f:Addr}{od an:Option Addr}{sl:Array (Option Value)}{oc kV dc pm cd ct:Value}(e:me x=false)(a:PySem.W.nsIn K mainGlobals (nm x)=some (some (.ref f)))(l:K.lookup f=some ⟨oc,od,.func (fno x kV dc pm an cd ct),sl⟩)(c:PySem.W.codeIn K cd (ql x)=true)(k:PySem.W.keepIn K (.ref f)=true):∃p:Addr×FuncData,At K x p.1 p.2:=by
 refine ⟨(f,fno x kV dc pm an cd ct),λ_=>a,λz=>(by rw [e] at z;cases z),F1 (st:=st x) l c k,(F1 (st:=st x) l c k).binds (ps:=ps x) λ_ _ _ _ _ _ us hl=>?_,_,_,_,_,_,_,rfl⟩
 cases x <;> first | (obtain rfl:=ua3 hl;rfl) | (obtain ⟨_,rfl⟩:=us1 hl;rfl) | (obtain ⟨_,_,rfl⟩:=us2 hl;rfl) | (obtain ⟨_,_,_,rfl⟩:=us3 hl;rfl) | (obtain ⟨_,_,_,_,rfl⟩:=us4 hl;rfl) | (obtain ⟨_,_,_,_,_,rfl⟩:=us5 hl;rfl) | (obtain ⟨_,_,_,_,_,_,rfl⟩:=us6 hl;rfl) | (obtain ⟨_,_,_,_,_,_,_,rfl⟩:=us7 hl;rfl)
theorem Xk {K:PySem.W.Frag}{x:Fx}{f C:Addr}{od an:Option Addr}{sl:Array (Option Value)}{oc kV dc pm cd ct:Value}(e:me x=true)(hc:PySem.W.nsIn K mainGlobals (ow x)=some (some (.ref C)))(a:PySem.W.findIn K (.ref C) (nm x)=some (some (.ref f)))(l:K.lookup f=some ⟨oc,od,.func (fno x kV dc pm an cd ct),sl⟩)(c:PySem.W.codeIn K cd (ql x)=true)(k:PySem.W.keepIn K (.ref f)=true)(t:PySem.W.isFn K (.ref f)=true):∃p:Addr×FuncData,At K x p.1 p.2:=by
 refine ⟨(f,fno x kV dc pm an cd ct),λz=>(by rw [e] at z;cases z),λ_=>⟨C,hc,a,t⟩,F1 (st:=st x) l c k,(F1 (st:=st x) l c k).binds (ps:=ps x) λ_ _ _ _ _ _ us hl=>?_,_,_,_,_,_,_,rfl⟩
 cases x <;> first | (obtain rfl:=ua3 hl;rfl) | (obtain ⟨_,rfl⟩:=us1 hl;rfl) | (obtain ⟨_,_,rfl⟩:=us2 hl;rfl) | (obtain ⟨_,_,_,rfl⟩:=us3 hl;rfl) | (obtain ⟨_,_,_,_,rfl⟩:=us4 hl;rfl) | (obtain ⟨_,_,_,_,_,rfl⟩:=us5 hl;rfl) | (obtain ⟨_,_,_,_,_,_,rfl⟩:=us6 hl;rfl) | (obtain ⟨_,_,_,_,_,_,_,rfl⟩:=us7 hl;rfl)
theorem xm_all {K:PySem.W.Frag}{h:Heap}{mg:Str->Option Value}{P c1 c2 c3:Addr}{f2:Addr}{od2 an2:Option Addr}{sl2:Array (Option Value)}{oc2 kV2 dc2 pm2 cd2 ct2:Value}(X:K.In h)(G:h.Ns mainGlobals mg)(p:PySem.W.nsIn K mainGlobals "ParleyError" = some (some (.ref P)))(a1:PySem.W.nsIn K mainGlobals "NoValue" = some (some (.ref c1)))(a2:PySem.W.nsIn K mainGlobals "Short" = some (some (.ref c2)))(a3:PySem.W.nsIn K mainGlobals "Broken" = some (some (.ref c3)))(q:PQ K P [c1,c2,c3]=true)(nd:[P,c1,c2,c3].Nodup)(fi2:PySem.W.findIn K (.ref c3) "__init__" = some (some (.ref f2)))(l2:K.lookup f2=some ⟨oc2,od2,.func (PySem.W.fnOf "__init__" "Broken.__init__" (DX (B8 (top 4) 0)) (Bt (B8 (top 4) 0)) (As (B8 (top 4) 0)) .none kV2 dc2 pm2 an2 cd2 ct2),sl2⟩)(ii2:MH K c3 f2=true)(hf2:PySem.W.isFn K (.ref f2)=true)(hs2:PySem.W.findIn K (.ref c3) "__setattr__" = some (some (.builtin "object.__setattr__")))(cc2:PySem.W.codeIn K cd2 "Broken.__init__" = true)(k2:PySem.W.keepIn K (.ref f2)=true)(n1:JE K c1=true)(n2:JE K c2=true):∃(P:Addr) (ca:Str->Addr),XM K mg P ca/\XF2 K (ca "Broken") P "Broken.__init__" (B8 (top 4) 0)/\∀n∈(["NoValue", "Short"]:List Str),XN0 K (ca n):=by
 have x:=aP X G p a1 a2 a3 q nd;refine ⟨P,_,x,Zt (C:=c3) (st:=(B8 (top 4) 0)) ⟨x.cl "Broken" (by decide),x.kp "Broken" (by decide),x.gt "Broken" (by decide),x.gc "Broken" (by decide),x.na "Broken" (by decide),x.nd "Broken" (by decide)⟩ ii2 hf2 hs2 l2 cc2 k2 (λ_ _ _ _ _ _ us hl=>by match us,hl with | [_,_,_],_=>rfl),?_⟩;intro n hn;simp only [ul3,ui1,or_false] at hn;rcases hn with rfl | rfl
 ·exact Sa n1
 ·exact Sa n2
theorem fin_mk {K:PySem.W.Frag}{h:Heap}{mg:Str->Option Value}{fa:Addr}(X:K.In h)(G:h.Ns mainGlobals mg)(hmg:mg "law" = some (.ref fa))(H:∀x:Fx,∃p:Addr×FuncData,At K x p.1 p.2)(eQ:PySem.W.nsIn K mainGlobals "bool" = some none)(eO:PySem.W.nsIn K mainGlobals "dict" = some none)(eS:PySem.W.nsIn K mainGlobals "int" = some none)(d6:PySem.W.nsIn K mainGlobals "isinstance" = some none)(eZ:PySem.W.nsIn K mainGlobals "len" = some none)(eI:PySem.W.nsIn K mainGlobals "list" = some none)(f7:PySem.W.nsIn K mainGlobals "min" = some none)(f8:PySem.W.nsIn K mainGlobals "ord" = some none)(eB:PySem.W.nsIn K mainGlobals "range" = some none)(eY:PySem.W.nsIn K mainGlobals "str" = some none)(eC:PySem.W.nsIn K mainGlobals "tuple" = some none){eU:Tok}(d7:PySem.W.nsIn K mainGlobals "FIRST_SIGN" = some (some (.int 32 eU))){eX:Tok}(d8:PySem.W.nsIn K mainGlobals "LAST_SIGN" = some (some (.int 126 eX))){eL:Tok}(d5:PySem.W.nsIn K mainGlobals "PERCENT_SIGN" = some (some (.int 37 eL))){fJ:Tok}(dZ:PySem.W.nsIn K mainGlobals "SIGNS" = some (some (.str " !\"#$ &'()*+,-./0123456789:;<=>?@ABCDEFGHIJKLMNOPQRSTUVWXYZ[\\]^_`abcdefghijklmnopqrstuvwxyz{|}~" fJ)))(xm:∃(P:Addr) (ca:Str->Addr),XM K mg P ca/\XF2 K (ca "Broken") P "Broken.__init__" (B8 (top 4) 0)/\∀n∈(["NoValue", "Short"]:List Str),XN0 K (ca n)){eK eD:Addr}(fM:PySem.W.nsIn K mainGlobals "Side" = some none)(eW:PySem.W.nsIn K mainGlobals "Lasting" = some none)(f9:PySem.W.nsIn K mainGlobals "Parley" = some none)(eR:PySem.W.nsIn K mainGlobals "Listener" = some none)(fG:PySem.W.nsIn K mainGlobals "Relay" = some none)(fL:PySem.W.nsIn K mainGlobals "Desk" = some none)(dY:PySem.W.nsIn K mainGlobals "Hearer" = some (some (.ref eK)))(d4:PySem.W.nsIn K mainGlobals "Reader" = some (some (.ref eD)))(fD:OR K eD=true)(fA:O9 K eD=true)(eE:PySem.W.findIn K (.ref eD) "state" = PySem.W.findIn K (.ref eK) "state")(eG:PySem.W.findIn K (.ref eD) "hear" = PySem.W.findIn K (.ref eK) "hear")(d9:PySem.W.findIn K (.ref eD) "unread_of" = PySem.W.findIn K (.ref eK) "unread_of")(fE:byB K eK "__init__" = true):∃(A:Fx->Addr) (fd:Fx->FuncData),Md K mg A fd/\A .law_=fa/\∀(s:Shared) (u:Value),BindsTo s (fd .law_) ⟨[u],[]⟩ [("script",u)]:=by
 obtain ⟨F,hF⟩:=Classical.axiomOfChoice H;have fm:∀x,me x=true->∀C,PySem.W.nsIn K mainGlobals (ow x)=some (some (.ref C))->PySem.W.findIn K (.ref C) (nm x)=some (some (.ref (F x).1))/\PySem.W.isFn K (.ref (F x).1)=true:=λx hx C h=>by
  obtain ⟨C,e1,e2,e3⟩:=(hF x).m hx;have e4:=e1.symm.trans h
  cases e4
  exact ⟨e2,e3⟩
 have eV:=fm .AG rfl _ dY;have eM:=fm .AM rfl _ dY;have eN:=fm .AS rfl _ dY;have eA:=fm .AB rfl _ dY;have eF:=fm .AH rfl _ d4;have eP:=fm .AN rfl _ d4;have eH:=fm .AI rfl _ d4;have cm:CM K:=Zv λn hn=>by
  simp only [Ki,ul3,ui1,or_false] at hn;rcases hn with rfl | rfl | rfl | rfl | rfl | rfl | rfl
  ·exact .inr ⟨_,d4,fD⟩
  ·exact .inl fM
  ·exact .inl eW
  ·exact .inl f9
  ·exact .inl eR
  ·exact .inl fG
  ·exact .inl fL
 refine ⟨λx=>(F x).1,λx=>(F x).2,{ fn:=λx=>(hF x).fn,mgs:=λx e=>um0 X G ((hF x).a e),bd:=λx=>(hF x).bd,cm:=cm,L5:=⟨_,d4,um0 X G d4,ZN fA eF.1 eF.2,⟨eP.1,eP.2,Fun.kp (hF .AN).fn⟩,⟨eH.1,eH.2,Fun.kp (hF .AI).fn⟩,⟨eE.trans eM.1,eM.2,Fun.kp (hF .AM).fn⟩,⟨eG.trans eN.1,eN.2,Fun.kp (hF .AS).fn⟩,⟨d9.trans eA.1,eA.2,Fun.kp (hF .AB).fn⟩⟩,fK:=⟨_,um0 X G dY,Zu fE eV.1 (Fun.kp (hF .AG).fn)⟩,xm:=xm,eQ:=uf8 X G eQ,eO:=uf8 X G eO,eS:=uf8 X G eS,d6:=uf8 X G d6,eZ:=uf8 X G eZ,eI:=uf8 X G eI,f7:=uf8 X G f7,f8:=uf8 X G f8,eB:=uf8 X G eB,eY:=uf8 X G eY,eC:=uf8 X G eC,d7:=⟨eU,um0 X G d7⟩,d8:=⟨eX,um0 X G d8⟩,d5:=⟨eL,um0 X G d5⟩,dZ:=⟨fJ,um0 X G dZ⟩ },?_,λs u=>?_⟩
 ·have e:=hmg.symm.trans (um0 X G ((hF .law_).a rfl))
  cases e
  rfl
 ·obtain ⟨_,_,_,_,_,_,e⟩:=(hF .law_).eq;show BindsTo s (F .law_).2 _ _;rw [e];exact .of_eq rfl
theorem walk {l:PySem.W.OpenLaw}{q:Program}{loose:List Str}{XP:(Str->Option Value)->Heap->Prop}{YP:World->Heap->Prop}{d:DefRec}{K:Params->PySem.W.Frag}(m:Nat)(hm:Room (2 * m + 2) callerA)(hn:l.most=some 63)(hdf:d.params.defaults=[])
 (hY:∀(w:World) (h:Heap),YP w h->(K w.params).In h) (lt:∀ns:List Int,ns.length<=63->∃S',run m .law_ [.scr ns] []=some (.bl true,S'))
 (F:∀(w:World) (mg:Str->Option Value) (fa:Addr) (h:Heap),(K w.params).In h->h.Ns mainGlobals mg->mg d.name=some (.ref fa)->
   ∃(A:Fx->Addr) (fd:Fx->FuncData),Md (K w.params) mg A fd/\A .law_=fa/\∀(s:Shared) (u:Value),BindsTo s (fd .law_) ⟨[u],[]⟩ [("script",u)]) :
 PySem.W.WalkO q loose XP YP l.row.toRowW d [] (λf vs=>PySem.call f vs):=
 L2.W3 (n:=63) (k:=2 * m + 2) (x:="script") (CX:=λ_=>CX0) (sp:=λw=>spF (K w.params) (run m .law_)) hn (by decide) hdf hm hY
  (λw mg fa h KX G hmg=>by obtain ⟨A,fd,M,e,b⟩:=F w mg fa h KX G hmg;subst e;exact ⟨fd .law_,b,λbase _ _=>all_ok M m .law_⟩)
  (λw H a ns hl hO hS=>by obtain ⟨S',e⟩:=lt ns hl;exact QT hO hS e) λ_ _ _ _ _ z=>z
theorem VJ (k:Nat):NM (run (k + 1) .Cp):=λd h=>MK h
theorem JV (k:Nat):Gg (run (k + 2) .A4):=R9 (VJ k)
theorem Ny (k:Nat):Ja (run (k + 1) .CT):=O3
theorem Ud (k:Nat):LU (run (k + 2) .Co):=MB (Ny k)
theorem My:∀(n k:Nat),2 * n + 3<=k->FU (run k .D7) n
 | 0,k,_=>λs hs=>absurd s.depth_pos (by lia)
 | n + 1,k,h=>by
   obtain ⟨j,rfl⟩:∃j,k=j + 4:=Nat.exists_eq_add_of_le' (by lia);have ih:=My n (j + 2) (by lia);exact Vf (Kk ih (JV j)) (MA ih) (Mz ih) (Ud (j + 1)) (JV (j + 1))
theorem MM (k:Nat):GK (run (k + 1) .CU):=Vy
theorem To (k:Nat):LN (run (k + 2) .BJ):=VM (MM k)
theorem OD (k:Nat):Jc (run (k + 1) .BE):=Ur
theorem Mx:∀(n k:Nat),n + 3<=k->Hv (run k .Bm) n
 | 0,k,_=>λs hs=>absurd s.depth_pos (by lia)
 | n + 1,k,h=>by
   obtain ⟨j,rfl⟩:∃j,k=j + 3:=Nat.exists_eq_add_of_le' (by lia);exact Ve (Mx n (j + 2) (by lia)) (OD (j + 1)) (To j)
theorem L4 (k:Nat):BXw (run (k + 1) .Ct):=Xp
theorem Zc (k:Nat):UXw (run (k + 2) .Bz):=Zd (L4 k)
theorem Y5 (k:Nat):SXw (run (k + 2) .Ds):=Y6 (Ny k) (L4 k)
theorem Nn:∀(n k:Nat),2 * n + 4<=k->I9 (run k .Bw) n
 | 0,k,_=>λs hs=>absurd s.depth_pos (by lia)
 | n + 1,k,h=>by
   obtain ⟨j,rfl⟩:∃j,k=j + 5:=Nat.exists_eq_add_of_le' (by lia);exact Ps rfl rfl rfl rfl rfl (Zc (j + 1)) (Y5 (j + 1)) (MM (j + 2)) (L4 (j + 2)) (OD (j + 2)) (Nn n (j + 3) (by lia))
theorem VD (k:Nat):OF (run (k + 11) .BK):=Th (Nn 3 (k + 10) (by lia))
theorem Pt (k:Nat):Iu (run (k + 12) .Dq):=No (VD k)
theorem SW (k:Nat):EH (run (k + 13) .AS):=QD (Pt k)
theorem Mt (k:Nat):EH (run (k + 14) .AN):=Qn (SW k)
theorem QC (k:Nat):LL (run (k + 2) .BI):=QB
theorem QG (k:Nat):LM (run (k + 3) .AG):=QF (QC k)
theorem MI (k:Nat):Lu (run (k + 4) .AH):=SZ (QG k)
theorem WR:VBF (run 98 .BX):=Ze (Mx 3 97 (by decide)) (My 3 97 (by decide))
theorem RC:JX (run 99 .B7):=O7 WR
theorem R7:JY (run 99 .Be):=O8
theorem Sm (k:Nat):LO (run (k + 1) .BG):=Ra
theorem K3 (k:Nat)(F:List (Nat×Ob)):FV F (run (k + 2) .BB):=We (Sm k)
theorem Ni (k:Nat):IZ (run (k + 2) .BB):=Rj (K3 k [])
theorem Hs (k:Nat)(F:List (Nat×Ob)):FW F (run (k + 1) .Bg):=YJ
theorem GC (k:Nat):PTakeOk (run (k + 1) .Bg):=TQ (Hs k [])
theorem K7:∀(n k:Nat),n + 1<=k->PShapeOk (run k .BS) n
 | 0,k,_=>λd a b S h=>absurd h (by lia)
 | n + 1,k,h=>by
   obtain ⟨j,rfl⟩:∃j,k=j + 2:=Nat.exists_eq_add_of_le' (by lia);exact Rm (GC j) (.inr (K7 n (j + 1) (by lia)))
theorem OC:∀(n k:Nat),n + 1<=k->PValOk (run k .BT) n
 | 0,k,_=>λs a b S h=>absurd s.depth_pos (by lia)
 | n + 1,k,h=>by
   obtain ⟨j,rfl⟩:∃j,k=j + 2:=Nat.exists_eq_add_of_le' (by lia);exact Wk (GC j) (.inr (OC n (j + 1) (by lia)))
theorem SV:LQ (run 99 .BH):=Re (GC 97) (K7 3 98 (by decide)) (Ni 96)
theorem Uc:LS 50 (run 99 .Cn):=Rn (by decide) (OC 3 98 (by decide)) (GC 97) (Ni 96)
theorem K2:∀(n k:Nat),n + 1<=k->FX (run k .BR) n
 | 0,k,h=>by
   obtain ⟨j,rfl⟩:∃j,k=j + 1:=Nat.exists_eq_add_of_le' (by lia);exact K1 (.inl rfl)
 | n + 1,k,h=>by
   obtain ⟨j,rfl⟩:∃j,k=j + 1:=Nat.exists_eq_add_of_le' (by lia);exact K1 (.inr (K2 n j (by lia)))
theorem VW:OH (run 99 .Bo):=Tt
theorem law_true (ns:List Int)(h:ns.length<=63):∃S',run 100 .law_ [.scr ns] []=some (.bl true,S'):=by
 obtain ⟨r,S',e,p⟩:=ZM (Mt 85) (QU (Mt 84) (MI 94)) VW (K2 7 99 (by decide)) VC (Vz (Hs 97)) (Hs 98) (K3 97) (O6 (MI 94)) R7 RC Uc SV (ns:=ns);subst p;exact ⟨S',e⟩
end K31
namespace PySem.W.Fast
def tw10048025752209362624:=0
def tw10150334960182837414:=0
def tw10232796869141403569:=0
def tw1036259859818472210:=0
def tw10515062434487771767:=0
def tw1053657145267092112:=0
def tw10762524084475367581:=0
def tw10764767710426876904:=0
def tw10850989336943337574:=0
def tw10944688693297573774:=0
def tw11030724495627255930:=0
def tw11035196982145828543:=0
def tw11045881250529958353:=0
def tw11046794375537178534:=0
def tw1108029569870344326:=0
def tw11106355749604929328:=0
def tw11155572492425709013:=0
def tw11182003074918005526:=0
def tw11209975337216104175:=0
def tw11270223676034700399:=0
def tw1128950860408654039:=0
def tw11299173559032533634:=0
def tw11582170628353525925:=0
def tw1176673456948918318:=0
def tw11882766700964230057:=0
def tw11946398227705080897:=0
def tw11975014831543297424:=0
def tw11997571857605268763:=0
def tw12011872394781614016:=0
def tw12013758468559551746:=0
def tw12102301642007805714:=0
def tw12143489314205355450:=0
def tw1216277533287653988:=0
def tw12232516341559705794:=0
def tw12277482060256207564:=0
def tw12290561135180103286:=0
def tw12293212034425539781:=0
def tw12458934029736037610:=0
def tw12499958389788608750:=0
def tw12586245894222065085:=0
def tw127553832856963648:=0
def tw1280913319189705490:=0
def tw12852166626476952638:=0
def tw12918310926357515281:=0
def tw12938881982672543184:=0
def tw12967242749920636624:=0
def tw13097835749861853800:=0
def tw13139268722763891098:=0
def tw1328007448403420064:=0
def tw13351580114651450503:=0
def tw13363192122852421764:=0
def tw13378921076425190479:=0
def tw13383479591907028745:=0
def tw13518832223135727266:=0
def tw13549576695630532359:=0
def tw13583145609391570601:=0
def tw13673778301306401780:=0
def tw13702126866052507507:=0
def tw13733355458843793941:=0
def tw13819143672097511059:=0
def tw13823070506444495454:=0
def tw14089197475185033971:=0
def tw14095557362314688600:=0
def tw14131257404382841135:=0
def tw1419869038079320405:=0
def tw14282537825367595784:=0
def tw14297260917029673032:=0
def tw14335192331303739988:=0
def tw1435088225060629110:=0
def tw14376044353187221344:=0
def tw14396393584942478817:=0
def tw14445567460048147940:=0
def tw14475622849982841967:=0
def tw14647746915891256104:=0
def tw1475237294831471830:=0
def tw14790724165716336396:=0
def tw14912760828703533538:=0
def tw15055899556389567302:=0
def tw15128829369185707534:=0
def tw1533598633814765609:=0
def tw15459949516427985176:=0
def tw15526071418477527943:=0
def tw15540846045753031219:=0
def tw1554314573463035949:=0
def tw15579935649720238373:=0
def tw15643621266573504689:=0
def tw15689824185035133785:=0
def tw15918687750336413971:=0
def tw15991213892969450863:=0
def tw16118080282941962057:=0
def tw16158323885524383217:=0
def tw16175142836742872723:=0
def tw16204025677485338153:=0
def tw1620412796782351891:=0
def tw16221860416192971852:=0
def tw16318369686025523991:=0
def tw16594963940027504724:=0
def tw16638445490811175123:=0
def tw1663847750097973095:=0
def tw16667026468066309488:=0
def tw16689301786705602534:=0
def tw16690791980089985214:=0
def tw16769029102733568037:=0
def tw16774275769355697728:=0
def tw16830561036550128598:=0
def tw16875020015756701560:=0
def tw16977415245780848468:=0
def tw16980709497375233140:=0
def tw16999090224478298983:=0
def tw17041842538461935729:=0
def tw17115630196193208120:=0
def tw17120192928169870965:=0
def tw17171139504808228814:=0
def tw17188720910411146950:=0
def tw17423615485960084867:=0
def tw17466885357248721182:=0
def tw17484286762949584896:=0
def tw17498142421836699913:=0
def tw17591214407421444376:=0
def tw17661305396732507800:=0
def tw17701223659431498425:=0
def tw17790654868267794169:=0
def tw17826486230544421345:=0
def tw17855493902833810718:=0
def tw17947500511335944690:=0
def tw17971942812917214091:=0
def tw17977490698025839381:=0
def tw17982773257407827648:=0
def tw18006258532172894737:=0
def tw18169952408433072209:=0
def tw18196338794359196258:=0
def tw18221011228211758089:=0
def tw18333623344739911929:=0
def tw2098676519321539998:=0
def tw2101822627321807818:=0
def tw2130497411333038601:=0
def tw2155136799864092578:=0
def tw2210265712546311072:=0
def tw2230476466419934652:=0
def tw2305348435321550508:=0
def tw2462963697867010381:=0
def tw2503388494679155936:=0
def tw2675171167940980229:=0
def tw2714408119613982542:=0
def tw2797547944468296568:=0
def tw2816380302366550382:=0
def tw2837870238880574251:=0
def tw2875338430643487973:=0
def tw2882453103924155373:=0
def tw2897194281608227:=0
def tw295652255455838620:=0
def tw2983091505413402423:=0
def tw2995589005230775032:=0
def tw3054598807750770306:=0
def tw3208418870575471827:=0
def tw324034505459457076:=0
def tw3313596317593811004:=0
def tw3439192134967706306:=0
def tw3692321221028559242:=0
def tw3814639893290513758:=0
def tw3863616186765008071:=0
def tw38678362157673269:=0
def tw3878882381430448457:=0
def tw3887245876930524716:=0
def tw3906535356619676976:=0
def tw3909556323374257973:=0
def tw3959690057186665997:=0
def tw4002166662141629945:=0
def tw408959451728362031:=0
def tw4108255726909484295:=0
def tw4117496271451245899:=0
def tw4265151408373999584:=0
def tw4379599541315164564:=0
def tw4428776417583628860:=0
def tw4523464727596578346:=0
def tw4523695695877559932:=0
def tw4729864889009041771:=0
def tw4759260680345988162:=0
def tw4851960472131214038:=0
def tw5026646397461729452:=0
def tw5218413846553275451:=0
def tw5357598530900658317:=0
def tw5403324196658642048:=0
def tw540504639374783136:=0
def tw5452169015507773366:=0
def tw5480062513460592709:=0
def tw5602658629301840552:=0
def tw5659541059263995301:=0
def tw5697688390188181038:=0
def tw5738168419998159367:=0
def tw5743841739490777242:=0
def tw5755982958548515022:=0
def tw5757350191701604863:=0
def tw6086519558975877387:=0
def tw6090597628824751432:=0
def tw6310130954543305409:=0
def tw6361494382279087978:=0
def tw6415413217575950623:=0
def tw6474512452715367396:=0
def tw6495741612174233477:=0
def tw6557021122403062220:=0
def tw6595188825555848529:=0
def tw6676803055141273413:=0
def tw674062888668168211:=0
def tw6743917249798859540:=0
def tw687466811790610187:=0
def tw6931004010730889620:=0
def tw6986021111403914035:=0
def tw7011771149880263872:=0
def tw7058484279689902640:=0
def tw7097556952541654970:=0
def tw7113131679123658195:=0
def tw7138768637588838323:=0
def tw7316371899284813592:=0
def tw7318813542334938658:=0
def tw7426852584693801832:=0
def tw7431410556886505607:=0
def tw746985782416150944:=0
def tw7508886438760340177:=0
def tw7570624178917998820:=0
def tw7576927846265620737:=0
def tw7614173528621891647:=0
def tw7633719398959464991:=0
def tw7633827903407837402:=0
def tw7796315404374528056:=0
def tw7819880402288231426:=0
def tw7858570473563109680:=0
def tw7963685720444430779:=0
def tw8179506058607017741:=0
def tw8180085354582085336:=0
def tw8341132827901078337:=0
def tw8380762999974333938:=0
def tw8385069837540754814:=0
def tw8403433540954435079:=0
def tw8423421532799333991:=0
def tw8441765638701007941:=0
def tw8550454114661028691:=0
def tw8580034676822901174:=0
def tw8625795759675385027:=0
def tw8651949996034302656:=0
def tw8664631780043796800:=0
def tw8805358042597032699:=0
def tw8891755384739806548:=0
def tw8905312275162267036:=0
def tw8991789068029699897:=0
def tw9063876115179936445:=0
def tw9090900485839244904:=0
def tw9136156993480260700:=0
def tw9163416988982278221:=0
def tw939835089642868033:=0
def tw9407680627563949203:=0
def tw9467010388060922898:=0
def tw955555111987352217:=0
def tw9595252310247868494:=0
def tw9752105368819684522:=0
def tw9931188066563634041:=0
end PySem.W.Fast
open PySem PySem.W PyProof.Rows
set_option maxRecDepth 100000 in
set_option maxHeartbeats 0 in
theorem PySem.Challenge.cw_wireparley_k31_fed_by_pieces_holds : PySem.Challenge.rw_wireparley_k31_fed_by_pieces.Holds := by
 w_on;o_law;k_head;(case hw=>w_witness2)
 k_fill
 refine K31.walk (l:=PySem.Challenge.rw_wireparley_k31_fed_by_pieces) 100 ⟨rfl,by decide,by decide⟩ rfl rfl (λw h Y=>PySem.W.kIn_of Y) K31.law_true ?F
 case F=>
  intro w mg fa h KX G hmg;refine' K31.fin_mk KX G hmg ?H ?eQ ?eO ?eS ?d6 ?eZ ?eI ?f7 ?f8 ?eB ?eY ?eC ?d7 ?d8 ?d5 ?dZ ?xm ?fM ?eW ?f9 ?eR ?fG ?fL ?dY ?d4 ?fD ?fA ?eE ?eG ?d9 ?fE
  (case H=>intro x;cases x <;> first | (refine' K31.at_mk rfl ?a ?l ?c ?k;(case a=>k_is);(case l=>k_is);(case c=>k_is);(case k=>k_is)) | (refine' K31.Xk rfl ?h ?a ?l ?c ?k ?t;(case h=>k_is);(case a=>k_is);(case l=>k_is);(case c=>k_is);(case k=>k_is);(case t=>k_is)))
  (case fM=>k_is)
  (case eW=>k_is)
  (case f9=>k_is)
  (case eR=>k_is)
  (case fG=>k_is)
  (case fL=>k_is)
  (case dY=>k_is)
  (case d4=>k_is)
  (case fD=>kernel_rfl)
  (case fA=>kernel_rfl)
  (case eE=>kernel_rfl)
  (case eG=>kernel_rfl)
  (case d9=>kernel_rfl)
  (case fE=>kernel_rfl)
  (case eQ=>k_is)
  (case eO=>k_is)
  (case eS=>k_is)
  (case d6=>k_is)
  (case eZ=>k_is)
  (case eI=>k_is)
  (case f7=>k_is)
  (case f8=>k_is)
  (case eB=>k_is)
  (case eY=>k_is)
  (case eC=>k_is)
  (case d7=>k_is)
  (case d8=>k_is)
  (case d5=>k_is)
  (case dZ=>k_is)
  (case xm=>refine' K31.xm_all KX G ?x_p ?x_a1 ?x_a2 ?x_a3 ?x_q ?x_nd ?y_fi ?y_l ?y_ii ?y_hf ?y_hs ?y_cc ?y_k ?x_n1 ?x_n2;(case x_p=>k_is);(case x_a1=>k_is);(case x_a2=>k_is);(case x_a3=>k_is);(case x_q=>kernel_rfl);(case x_nd=>decide);(case y_fi=>k_is);(case y_l=>k_is);(case y_ii=>kernel_rfl);(case y_hf=>k_is);(case y_hs=>k_is);(case y_cc=>k_is);(case y_k=>k_is);(case x_n1=>kernel_rfl);(case x_n2=>kernel_rfl))
