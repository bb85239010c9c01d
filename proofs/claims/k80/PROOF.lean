import PyProof.Rows.All
import Wide.All
import OpenK.AllK
import Wide.FinOn
import Lean
import PyProof.EqAt
import PyProof.EqKinds
import PyProof.TupleCall
import PyProof.NeKinds
import PyProof.ListMulRoad
import PyProof.MaxThree
import PyProof.Rows.StrJoinMade
import PyProof.ListStr
import PyProof.Rows.MinMaxN
import PyProof.Rows.Range3
import PyProof.ListRange
import PyProof.Rows.SetFrom
import PyProof.Rows.StrCase
import PyProof.SumAny
import PyProof.AutoIntG2
import PyProof.AutoListH
import PyProof.EnumStmt
import PyProof.EnumFor
import PyProof.EnumMake
import PyProof.Rows.EnumRows
import PyProof.ConsumeS
import PyProof.Rows.SortWalk
import KE.KDictSum
import PyProof.ZipIter
import KE.KEqDict
import PyProof.ExcClass2
import PyProof.RaisesMany
import PyProof.ExcBaseAll.ValueError
import PyProof.RulesDel
import PyProof.RulesAs
import PyProof.ExcArgs
import KE.KDictOf
import PyProof.AttrMissHeap
import KE.KMinKey
import PyProof.Rows.CallKwBuiltin
import PySem.Challenge.RW_wireparley_k80_whole_lost_and_gone_on
noncomputable section
abbrev ua0:=@PyProof.Rows.slot_tuple_getitem
abbrev ua1:=@Array.getElem?_setIfInBounds_ne
abbrev ua2:=@PyProof.Rows.callWith_type1
abbrev ua3:=@PySem.F.slot_int_bit_length
abbrev ua4:=@List.getElem?_append_right
abbrev ua5:=@PySem.F.excBase_ValueError
abbrev ua6:=@Array.getElem?_eq_some_iff
abbrev ua7:=@List.getD_eq_getElem?_getD
abbrev ua8:=@List.getElem?_eq_some_iff
abbrev ua9:=@List.getElem?_append_left
abbrev ub0:=@List.drop_eq_getElem_cons
abbrev ub1:=@List.getElem?_eq_none_iff
abbrev ub2:=@PySem.F.args_tuple_add_2
abbrev ub3:=@List.getElem?_eq_getElem
abbrev ub4:=@Array.size_setIfInBounds
abbrev ub5:=@List.getElem?_replicate
abbrev ub6:=@PySem.F.entry_tuple_add
abbrev ub7:=@List.length_eq_zero_iff
abbrev ub8:=@PySem.F.plainAttrs_list
abbrev ub9:=@List.getElem?_cons_succ
abbrev uc0:=@Int.eq_ofNat_of_zero_le
abbrev uc1:=@List.getElem?_set_self
abbrev uc2:=@PySem.Heap.get?_push_of_some
abbrev uc3:=@PySem.W.cellsFrom_some
abbrev uc4:=@PySem.F.slot_tuple_add
abbrev uc5:=@PySem.Heap.get?_update_other
abbrev uc6:=@Option.map_eq_some_iff
abbrev uc7:=@List.take_of_length_le
abbrev uc8:=@Nat.div_div_eq_div_mul
abbrev uc9:=@Nat.le_of_succ_le_succ
abbrev ud0:=@List.drop_eq_nil_of_le
abbrev ud1:=@List.mem_append_right
abbrev ud2:=@PySem.W.methodCall_KW
abbrev ud3:=@List.length_replicate
abbrev ud4:=@List.length_singleton
abbrev ud5:=@Nat.le_of_ble_eq_true
abbrev ud6:=@PySem.Heap.get?_update_self
abbrev ud7:=@List.take_append_drop
abbrev ud8:=@List.mem_cons_of_mem
abbrev ud9:=@List.getElem?_set_ne
abbrev ue0:=@List.mem_of_getElem?
abbrev ue1:=@List.filterMap_cons
abbrev ue2:=@Array.length_toList
abbrev ue3:=@PySem.Heap.get?_push_size
abbrev ue4:=@PySem.W.plainGet_of
abbrev ue5:=@List.replicate_succ
abbrev ue6:=@List.map_congr_left
abbrev ue7:=@Int.toNat_of_nonneg
abbrev ue8:=@List.take_succ_cons
abbrev ue9:=@Nat.lt_of_lt_of_le
abbrev uf0:=@List.mem_cons_self
abbrev uf1:=@Bool.false_ne_true
abbrev uf2:=@Array.find?_toList
abbrev uf3:=@PySem.W.callWith_K
abbrev uf4:=@List.length_append
abbrev uf5:=@Bool.false_eq_true
abbrev uf6:=@List.mem_singleton
abbrev uf7:=@List.getElem?_take
abbrev uf8:=@Int.emod_lt_of_pos
abbrev uf9:=@PySem.W.mg_none_of
abbrev ug0:=@List.size_toArray
abbrev ug1:=@List.getElem?_map
abbrev ug2:=@Int.toNat_natCast
abbrev ug3:=@List.flatten_cons
abbrev ug4:=@List.append_assoc
abbrev ug5:=@Bool.eq_false_iff
abbrev ug6:=@List.getElem?_set
abbrev ug7:=@Option.some.injEq
abbrev ug8:=@decide_eq_true_eq
abbrev ug9:=@of_decide_eq_true
abbrev uh0:=@List.getElem_inj
abbrev uh1:=@List.length_cons
abbrev uh2:=@Nat.lt_succ_self
abbrev uh3:=@List.length_take
abbrev uh4:=@List.length_drop
abbrev uh5:=@Bool.and_eq_true
abbrev uh6:=@List.lookup_cons
abbrev uh7:=@List.drop_length
abbrev uh8:=@Nat.le_add_right
abbrev uh9:=@List.all_eq_true
abbrev ui0:=@List.not_mem_nil
abbrev ui1:=@List.getElem_mem
abbrev ui2:=@List.cons_append
abbrev ui3:=@beq_self_eq_true
abbrev ui4:=@List.mem_append
abbrev ui5:=@Option.some.inj
abbrev ui6:=@List.length_map
abbrev ui7:=@PySem.W.kia_one
abbrev ui8:=@List.append_nil
abbrev ui9:=@List.nodup_cons
abbrev uj0:=@List.of_mem_zip
abbrev uj1:=@List.foldl_cons
abbrev uj2:=@List.nil_append
abbrev uj3:=@List.find?_cons
abbrev uj4:=@List.length_nil
abbrev uj5:=@Option.map_some
abbrev uj6:=@Bool.or_eq_true
abbrev uj7:=@List.map_append
abbrev uj8:=@List.length_set
abbrev uj9:=@Nat.min_eq_left
abbrev uk0:=@Int.emod_nonneg
abbrev uk1:=@decide_eq_false
abbrev uk2:=@List.mem_range
abbrev uk3:=@Bool.false_and
abbrev uk4:=@Bool.and_false
abbrev uk5:=@List.drop_zero
abbrev uk6:=@decide_eq_true
abbrev uk7:=@Nat.lt_irrefl
abbrev uk8:=@List.mem_cons
abbrev uk9:=@List.map_cons
abbrev ul0:=@Bool.or_false
abbrev ul1:=@List.any_cons
abbrev ul2:=@List.all_cons
abbrev ul3:=@Bool.true_and
abbrev ul4:=@Nat.add_assoc
abbrev ul5:=@Bool.and_self
abbrev ul6:=@PySem.W.mg_of
abbrev ul7:=@PySem.wpAny_holding
abbrev ul8:=@PySem.Heap.lt_size
abbrev ul9:=@Nat.ne_of_lt
abbrev um0:=@Nat.le_trans
abbrev um1:=@Nat.ne_of_gt
abbrev um2:=@Nat.mul_comm
abbrev um3:=@List.map_nil
abbrev um4:=@Nat.pow_succ
abbrev um5:=@List.mem_map
abbrev um6:=@Int.zero_add
abbrev um7:=@Nat.sub_self
abbrev um8:=@Nat.le_refl
abbrev um9:=@Nat.zero_le
abbrev un0:=@Nat.le_succ
abbrev un1:=@PySem.wpAny_field
abbrev un2:=@PySem.wpAny_bind
abbrev un3:=@PySem.wpAny_pure
abbrev un4:=@PySem.wpAny_mono
set_option Elab.async false
set_option linter.all false
set_option maxRecDepth 100000
local macro_rules | `(tactic| walk_at "h") => `(tactic| first | exact Or.inl rfl | exact Or.inr rfl | exact Or.inr (Or.inl rfl) | exact Or.inr (Or.inr rfl) | assumption)
namespace L2
open PySem PySem.Spec PyProof.Rows
abbrev Key:=Sum Int Str
noncomputable def IM:Key->Value->Bool
 | .inl k,v=>Value.isInt k v
 | .inr x,v=>Value.isStrOf x v
noncomputable def cy (w:World):Key->Int
 | .inl k=>hashInt k
 | .inr x=>hashStr w x
theorem BQ:∀{k:Key} {v:Value},IM k v=true->(∃i t,k=Sum.inl i/\v=Value.int i t)\/(∃x t,k=Sum.inr x/\v=Value.str x t)
 | .inl i,v,h=>by
   obtain ⟨t,e⟩:=Value.isInt_shape (k:=i) (v:=v) h;exact .inl ⟨i,t,rfl,e⟩
 | .inr x,v,h=>by
   obtain ⟨t,e⟩:=Value.isStrOf_shape (x:=x) (v:=v) h;exact .inr ⟨x,t,rfl,e⟩
theorem Q6 (i:Int)(t:Tok):IM (.inl i) (.int i t)=true:=by simp [IM,Value.isInt]
theorem Q7 (x:Str)(t:Tok):IM (.inr x) (.str x t)=true:=by simp [IM,Value.isStrOf]
theorem Yk (a b:Int):decide ((Sum.inl a:Key)=Sum.inl b)=(a == b):=by
 by_cases e:a=b
 ·subst e;simp
 ·have h:¬(Sum.inl a:Key)=Sum.inl b:=λq=>e (Sum.inl.inj q);rw [uk1 h];exact (beq_eq_false_iff_ne.mpr e).symm
theorem Yn (a b:Str):decide ((Sum.inr a:Key)=Sum.inr b)=decide (a=b):=by
 by_cases e:a=b
 ·subst e;simp
 ·have h:¬(Sum.inr a:Key)=Sum.inr b:=λq=>e (Sum.inr.inj q);rw [uk1 h,uk1 e]
theorem Yl (a:Int)(b:Str):decide ((Sum.inl a:Key)=Sum.inr b)=false:=uk1 (λq=>nomatch q)
theorem Ym (a:Str)(b:Int):decide ((Sum.inr a:Key)=Sum.inl b)=false:=uk1 (λq=>nomatch q)
def BL (prog:Program)(w:World):PySem.KeyKind prog w Key where
 is:=IM
 hash:=cy w
 inj:=λv a b ha hb=>by
  rcases BQ ha with ⟨i,t,rfl,rfl⟩ | ⟨x,t,rfl,rfl⟩
  ·rcases BQ hb with ⟨j,u,rfl,e⟩ | ⟨y,u,rfl,e⟩
   ·injection e with e1 _;rw [e1]
   ·exact nomatch e
  ·rcases BQ hb with ⟨j,u,rfl,e⟩ | ⟨y,u,rfl,e⟩
   ·exact nomatch e
   ·injection e with e1 _;rw [e1]
 byValue:=λk v h=>by
  rcases BQ h with ⟨i,t,rfl,rfl⟩ | ⟨x,t,rfl,rfl⟩ <;> rfl
 pyHash:=λhv h=>by
  rcases BQ hv with ⟨i,t,rfl,rfl⟩ | ⟨x,t,rfl,rfl⟩
  ·exact wpAny_pyHash_int h
  ·exact wpAny_pyHash_str h
 eqBool:=λhu hv h=>by
  rcases BQ hu with ⟨i,t,rfl,rfl⟩ | ⟨x,t,rfl,rfl⟩
  ·rcases BQ hv with ⟨j,u,rfl,rfl⟩ | ⟨y,u,rfl,rfl⟩
   ·rw [Yk] at h;exact wpAny_eqBool_int h
   ·rw [Yl] at h;exact SeqAt.EqAt.int_str i t y u _ _ _ _ h
  ·rcases BQ hv with ⟨j,u,rfl,rfl⟩ | ⟨y,u,rfl,rfl⟩
   ·rw [Ym] at h;exact SeqAt.EqAt.str_int x t j u _ _ _ _ h
   ·rw [Yn] at h;exact wpAny_eqBool_str h
 «strs»:=λk x t v h=>by
  rcases BQ h with ⟨i,u,rfl,e⟩ | ⟨y,u,rfl,e⟩
  ·exact nomatch e
  ·injection e with e1 _
   subst e1
   cases v <;> rfl
theorem NQ (prog:Program)(w:World)(i:Int)(t:Tok):(BL prog w).is (.inl i) (.int i t)=true:=Q6 i t
theorem NR (prog:Program)(w:World)(x:Str)(t:Tok):(BL prog w).is (.inr x) (.str x t)=true:=Q7 x t
inductive V where
 | non | bl (b:Bool) | int (i:Int) | str (x:Str) | byt (b:Array UInt8) | flt (b:UInt64) | ref (a:Addr) | ty (n:String)
 deriving DecidableEq
noncomputable def RelV:V->Value->Prop
 | .non,u=>u=Value.none
 | .bl b,u=>u=Value.bool b
 | .int i,u=>∃t,u=Value.int i t
 | .str x,u=>∃t,u=Value.str x t
 | .byt b,u=>∃t,u=Value.bytes b t
 | .flt b,u=>∃t,u=Value.float b t
 | .ref a,u=>u=Value.ref a
 | .ty n,u=>u=Value.type n
abbrev Vals:List V->List Value->Prop:=Paired RelV
theorem Vals.length {xs:List V}{us:List Value}(r:Vals xs us):xs.length=us.length:=Paired.length r
theorem Vals.get:∀{xs:List V} {us:List Value} {i:Nat} {x:V},Vals xs us->xs[i]?=some x->∃u,us[i]?=some u/\RelV x u
 | _,_,_,_,.nil,e=>by simp at e
 | _,_,0,_,.cons r _,e=>by simp at e;subst e;exact ⟨_,rfl,r⟩
 | _,_,i + 1,x,.cons _ t,e=>by
   obtain ⟨u,h1,h2⟩:=Vals.get (i:=i) (x:=x) t (by simpa using e);exact ⟨u,by simpa using h1,h2⟩
theorem Vals.append {xs ys:List V}{us ws:List Value}(r:Vals xs us)(s:Vals ys ws):Vals (xs++ys) (us++ws):=by
 cases r with
 | nil=>exact s
 | cons r t=>exact .cons r (Vals.append t s)
theorem Vals.take:∀{xs:List V} {us:List Value} (n:Nat),Vals xs us->Vals (xs.take n) (us.take n)
 | _,_,0,_=>.nil
 | _,_,_ + 1,.nil=>.nil
 | _,_,n + 1,.cons r t=>.cons r (Vals.take n t)
theorem Vals.drop:∀{xs:List V} {us:List Value} (n:Nat),Vals xs us->Vals (xs.drop n) (us.drop n)
 | _,_,0,r=>r
 | _,_,_ + 1,.nil=>.nil
 | _,_,n + 1,.cons _ t=>Vals.drop n t
def RelO:Option V->Option Value->Prop
 | some v,some u=>RelV v u
 | none,none=>True
 | _,_=>False
def KV {κ:Type}:List (κ×V)->List (κ×Value)->Prop:=Paired λ(p:κ×V) (q:κ×Value)=>p.1=q.1/\RelV p.2 q.2
noncomputable def kV:Key->V
 | .inl i=>.int i
 | .inr x=>.str x
inductive HO where
 /-- a list -/
 | lst (xs:List V)
 /-- a tuple (never changes) -/
 | tup (xs:List V)
 /-- a dict whose keys are ints and texts;one whose keys are tuples of ints and texts (the empty one is both) -/
 | dK (kvs:List (Key×V)) | dT (kvs:List (List Key×V))
 /-- a set of ints: its members,its size -/
 | set (S:Int->Bool) (n:Nat)
 /-- an instance of the class at C,its dict at dx,its attributes -/
 | ins (C dx:Addr) (fs:List (Str×V))
 /-- the dict of the instance at x -/
 | own (x:Addr)
 /-- the dict of an exception -/
 | xd (fs:List (Str×V))
 /-- a bound method,f of x -/
 | met (f x:Addr)
 /-- a range object lo,lo + 1,.. below hi -/
 | rng (lo hi:Int)
 /-- a thing that is known to the object (the script;a dict while a loop walks it): read,never written while it is so -/
 | frz (o:Obj) (u:HO)
 /-- a code object's table -/
 | tbl (ps:Array Value)
 /-- any other thing,by what is true of its one object (a def of one's own: SetO a S n:=HO.ext λh=>..) -/
 | ext (φ:Heap->Prop)
abbrev Hp:=Addr->Option HO
noncomputable def upd (H:Hp)(a:Addr)(o:HO):Hp:=λb=>if b=a then some o else H b
variable {H:Hp}{a:Addr}
theorem Aj {o:HO}:upd H a o a=some o:=by unfold upd;rw [if_pos rfl]
variable {b:Addr}
theorem Ag {o:HO}(h:b≠a):upd H a o b=H b:=by unfold upd;rw [if_neg h]
theorem Lq {o u:HO}:upd (upd H a o) a u=upd H a u:=by
 funext b;unfold upd;split <;> rfl
theorem AJ {o:HO}(h:H a=some o)(h':H b=none):a≠b:=by
 intro e;subst e;rw [h] at h';cases h'
section
variable (P:Program)(w:World)
def ObjOk (H:Hp)(h:Heap)(a:Addr):HO->Prop
 | .lst xs=>xs.length<=sizeLine/\∃(its:List Value) (n:Nat),Vals xs its/\h.get? a=some { cls:=.type "list",data:=.seq its.toArray n }
 | .tup xs=>xs.length<=sizeLine/\∃its:List Value,Vals xs its/\IsTup h a its.toArray
 | .dK kvs=>kvs.length<=sizeLine/\(a == sysModules)=false/\∃vs,KV kvs vs/\h.DictOf (BL P w) a vs
 | .dT kvs=>kvs.length<=sizeLine/\(a == sysModules)=false/\∃xs:List (List Key×Addr×Value),
    Paired (λ(p:List Key×V) (q:List Key×Addr×Value)=>p.1=q.1/\H q.2.1=some (.tup (p.1.map kV))/\RelV p.2 q.2.2) kvs xs/\
    ∃o es ep,h.get? a=some o/\o.ExactDict/\o.data = .dict es ep/\es.toList=xs.map (entryOfKey (tupleKind (BL P w)))/\(xs.map (·.1)).Nodup
 | .set S n=>h.SetOf (intKind P w) a S n
 | .ins C dx fs=>H dx=some (.own a)/\fs.length<=1000/\dx≠a/\h.get? a=some (PySem.W.instObj C dx)/\
    ∃mA,h.Ns1 dx mA/\(∀f,RelO (fs.lookup f) (mA f))/\PySem.Within mA (fs.map (·.1))
 | .own _=>∃o,h.get? a=some o
 | .xd fs=>∃mA,h.Ns1 a mA/\∀f,RelO (fs.lookup f) (mA f)
 | .rng lo hi=>∃t u v,h.get? a=some { cls:=.type "range",data:=.fields #[.int lo t,.int hi u,.int 1 v] }
 | .frz o u=>h.get? a=some o/\ObjOk H h a u
 | .tbl ps=>h.get? a=some { cls:=.none,data:=.fields ps }
 | .met f x=>h.get? a=some (PySem.W.methodObj (.ref f) (.ref x))
 | .ext φ=>φ h/\(∃o,h.get? a=some o)/\∀h1 h2:Heap,φ h1->(∀o,h1.get? a=some o->h2.get? a=some o)->φ h2
def HOk (H:Hp)(h:Heap):Prop:=∀a o,H a=some o->ObjOk P w H h a o
end
section
variable {P:Program}{w:World}{H H':Hp}{h h':Heap}{a:Addr}{o:HO}
theorem ObjOk.lt (x:ObjOk P w H h a o):a < h.objs.size:=by
 cases o with
 | lst xs=>obtain ⟨_,_,_,_,e⟩:=x;exact ul8 e
 | tup xs=>obtain ⟨_,_,_,p⟩:=x;exact p.lt
 | dK kvs=>obtain ⟨_,_,_,_,o,_,_,e,_⟩:=x;exact ul8 e
 | dT kvs=>obtain ⟨_,_,_,_,o,_,_,e,_⟩:=x;exact ul8 e
 | set S n=>obtain ⟨o,_,_,_,e,_⟩:=x;exact ul8 e
 | ins C dx fs=>obtain ⟨_,_,_,e,_⟩:=x;exact ul8 e
 | own y=>obtain ⟨_,e⟩:=x;exact ul8 e
 | xd fs=>obtain ⟨_,⟨_,_,_,e,_⟩,_⟩:=x;exact ul8 e
 | rng lo hi=>obtain ⟨_,_,_,e⟩:=x;exact ul8 e
 | frz ob u=>obtain ⟨e,_⟩:=x;exact ul8 e
 | tbl ps=>exact ul8 (show h.get? a=some _ from x)
 | met f y=>exact ul8 (show h.get? a=some _ from x)
 | ext φ=>obtain ⟨_,⟨_,e⟩,_⟩:=x;exact ul8 e
theorem Paired.mapP {α β:Type}{F G:α->β->Prop}:∀{l₁:List α} {l₂:List β},Paired F l₁ l₂->(∀a b,F a b->G a b)->Paired G l₁ l₂
 | _,_,.nil,_=>.nil
 | _,_,.cons r t,f=>.cons (f _ _ r) (Paired.mapP t f)
theorem ObjOk.stay (x:ObjOk P w H h a o)(k:∀b u,(b=a\/H b=some (.own a))->h.get? b=some u->h'.get? b=some u)
 (ho:∀b,H b=some (.own a)->H' b=some (.own a)) (ht:∀b xs,H b=some (.tup xs)->H' b=some (.tup xs)):ObjOk P w H' h' a o:=by
 induction o with
 | lst xs=>obtain ⟨z,its,n,r,e⟩:=x;exact ⟨z,its,n,r,k _ _ (.inl rfl) e⟩
 | tup xs=>obtain ⟨z,its,r,ob,e,c⟩:=x;exact ⟨z,its,r,ob,k _ _ (.inl rfl) e,c⟩
 | dK kvs=>obtain ⟨z,y,vs,r,ob,es,ep,e,c⟩:=x;exact ⟨z,y,vs,r,ob,es,ep,k _ _ (.inl rfl) e,c⟩
 | dT kvs=>
   obtain ⟨z,y,xs,r,ob,es,ep,e,c⟩:=x;exact ⟨z,y,xs,Paired.mapP r λp q z=>⟨z.1,ht _ _ z.2.1,z.2.2⟩,ob,es,ep,k _ _ (.inl rfl) e,c⟩
 | set S n=>obtain ⟨ob,es,ep,t,e,c⟩:=x;exact ⟨ob,es,ep,t,k _ _ (.inl rfl) e,c⟩
 | ins C dx fs=>
   obtain ⟨d,z,ne,e,mA,⟨od,es,ep,e2,c⟩,r⟩:=x;exact ⟨ho _ d,z,ne,k _ _ (.inl rfl) e,mA,⟨od,es,ep,k _ _ (.inr d) e2,c⟩,r⟩
 | own y=>obtain ⟨ob,e⟩:=x;exact ⟨ob,k _ _ (.inl rfl) e⟩
 | xd fs=>obtain ⟨mA,⟨od,es,ep,e,c⟩,r⟩:=x;exact ⟨mA,⟨od,es,ep,k _ _ (.inl rfl) e,c⟩,r⟩
 | rng lo hi=>obtain ⟨t,u,v,e⟩:=x;exact ⟨t,u,v,k _ _ (.inl rfl) e⟩
 | frz ob u ih=>obtain ⟨e,q⟩:=x;exact ⟨k _ _ (.inl rfl) e,ih q⟩
 | tbl ps=>
   have e:h.get? a=some { cls:=.none,data:=.fields ps }:=x;show h'.get? a=some { cls:=.none,data:=.fields ps };exact k a _ (.inl rfl) e
 | met f y=>
   have e:h.get? a=some (PySem.W.methodObj (.ref f) (.ref y)):=x;show h'.get? a=some (PySem.W.methodObj (.ref f) (.ref y));exact k a _ (.inl rfl) e
 | ext φ=>obtain ⟨p,⟨o,e⟩,st⟩:=x;exact ⟨st _ _ p λo q=>k _ _ (.inl rfl) q,⟨o,k _ _ (.inl rfl) e⟩,st⟩
theorem HOk.lt (x:HOk P w H h)(e:H a=some o):a < h.objs.size:=(x a o e).lt
theorem HOk.fresh (x:HOk P w H h)(e:h.objs.size<=a):H a=none:=by
 cases q:H a with
 | none=>rfl
 | some u=>exact absurd (ue9 (x.lt q) e) (uk7 _)
theorem HOk.kept (x:HOk P w H h)(k:∀b u,h.get? b=some u->h'.get? b=some u):HOk P w H h':=λa o e=>
 (x a o e).stay (λb u _ q=>k b u q) (λ_ q=>q) λ_ _ q=>q
theorem HOk.laid (x:HOk P w H h)(k:∀b u,h.get? b=some u->h'.get? b=some u)(hp:h.objs.size<=a)(new:ObjOk P w (upd H a o) h' a o):HOk P w (upd H a o) h':=λb u e=>by
 have hn:=x.fresh hp
 by_cases hb:b=a
 ·subst hb;rw [Aj] at e;cases e;exact new
 ·rw [Ag hb] at e;exact (x b u e).stay (λc v _ q=>k c v q) (λc q=>by rw [Ag (AJ q hn)];exact q) λc xs q=>by rw [Ag (AJ q hn)];exact q
end
def Rd (H:Hp)(a:Addr)(u:HO):Prop:=H a=some u\/∃o,H a=some (.frz o u)
variable {P:Program}{w:World}{h:Heap}
theorem Rd.ok {u:HO}(r:Rd H a u)(x:HOk P w H h):ObjOk P w H h a u:=by
 rcases r with r | ⟨o,r⟩
 ·exact x a u r
 ·obtain ⟨_,q⟩:=x a _ r;exact q
def Mut:Option HO->Prop
 | some (.lst _)=>True
 | some (.dK _)=>True
 | some (.dT _)=>True
 | some (.set _ _)=>True
 | some (.ins _ _ _)=>True
 | some (.ext _)=>True
 | _=>False
section
variable {P:Program}{w:World}{H:Hp}{h h':Heap}{x e:Addr}{o':HO}
theorem HOk.write (ok:HOk P w H h)(mu:Mut (H x))(he:e=x\/H e=some (.own x))(k:∀b u,b≠e->h.get? b=some u->h'.get? b=some u)(heo:∃u,h'.get? e=some u)
 (new:ObjOk P w (upd H x o') h' x o'):HOk P w (upd H x o') h':=λb u q=>by
 have nown:∀c y,H c=some (.own y)->c≠x:=λc y r z=>by subst z;rw [r] at mu;exact mu
 have ntup:∀c xs,H c=some (.tup xs)->c≠x:=λc xs r z=>by subst z;rw [r] at mu;exact mu
 by_cases hb:b=x
 ·subst hb;rw [Aj] at q;cases q;exact new
 ·rw [Ag hb] at q
  by_cases hbe:b=e
  ·have q':H b=some (.own x):=by
    rcases he with z | z
    ·exact absurd (hbe.trans z) hb
    ·rw [hbe];exact z
   rw [q] at q';cases q'
   obtain ⟨v,hv⟩:=heo;exact ⟨v,by rw [hbe];exact hv⟩
  ·refine (ok b u q).stay (λc v hc r=>k c v ?_ r) (λc r=>by rw [Ag (nown c b r)];exact r) λc xs r=>by rw [Ag (ntup c xs r)];exact r
   rcases hc with rfl | hc
   ·exact hbe
   ·rintro rfl;rcases he with z | z
    ·exact nown c b hc z
    ·rw [hc] at z;cases z;exact hb rfl
end
structure Un (fs ex:List Addr)(H H':Hp)(h h':Heap):Prop where
 keep:∀b o,h.get? b=some o->H b=none->b∉fs->b∉ex->h'.get? b=some o
 slot:∀b o,h.get? b=some o->H b=none->b∈fs->b∉ex->∃sl,h'.get? b=some { o with slots:=sl }
 free:∀b o,h.get? b=some o->H b=none->b∉ex->H' b=none
 there:∀b o,h.get? b=some o->b∉ex->∃o',h'.get? b=some o'
 tups:∀b xs,H b=some (.tup xs)->H' b=some (.tup xs)
 frzs:∀b o u,H b=some (.frz o u)->H' b=some (.frz o u)
 tbls:∀b ps,H b=some (.tbl ps)->∃more,H' b=some (.tbl (ps++more))
section
variable {fs fs' ex ex':List Addr}{H H1 H2:Hp}{h h1 h2 h':Heap}{a x e:Addr}{o:HO}
theorem Un.any (u:Un fs ex H H1 h h1){b:Addr}{ob:Obj}(q:h.get? b=some ob)(n:H b=none)(hx:b∉ex):∃sl,h1.get? b=some { ob with slots:=sl }:=by
 by_cases hb:b∈fs
 ·exact u.slot b ob q n hb hx
 ·exact ⟨ob.slots,u.keep b ob q n hb hx⟩
theorem Un.kept (k:∀b u,h.get? b=some u->h'.get? b=some u):Un fs ex H H h h':=
 ⟨λb ob q _ _ _=>k b ob q,λb ob q _ _ _=>⟨ob.slots,k b ob q⟩,λ_ _ _ n _=>n,λb ob q _=>⟨ob,k b ob q⟩,λ_ _ q=>q,λ_ _ _ q=>q,λ_ ps q=>⟨#[],by rw [q];simp⟩⟩
theorem Un.refl:Un fs ex H H h h:=Un.kept λ_ _ q=>q
theorem Un.laid (k:∀b u,h.get? b=some u->h'.get? b=some u)(hp:h.objs.size<=a)(hn:H a=none):Un fs ex H (upd H a o) h h' where
 keep:=λb u q _ _ _=>k b u q
 slot:=λb u q _ _ _=>⟨u.slots,k b u q⟩
 free:=λb u q n _=>by rw [Ag (ul9 (ue9 (ul8 q) hp))];exact n
 there:=λb u q _=>⟨u,k b u q⟩
 tups:=λb xs q=>by rw [Ag (AJ q hn)];exact q
 frzs:=λb u xs q=>by rw [Ag (AJ q hn)];exact q
 tbls:=λb ps q=>⟨#[],by rw [Ag (AJ q hn),q];simp⟩
theorem Un.write (mu:Mut (H x))(he:e=x\/H e=some (.own x))(k:∀b u,b≠e->h.get? b=some u->h'.get? b=some u)(heo:∃u,h'.get? e=some u):Un fs ex H (upd H x o) h h':=by
 have hx:∀b,H b=none->b≠x:=λb n z=>by subst z;rw [n] at mu;exact mu
 have hb:∀b,H b=none->b≠e:=λb n z=>by
  subst z;rcases he with r | r
  ·exact hx b n r
  ·rw [n] at r;cases r
 have hm:∀b u,H b=some u->¬Mut (some u)->b≠x:=λb u q nm z=>by subst z;rw [q] at mu;exact nm mu
 refine ⟨λb u q n _ _=>k b u (hb b n) q,λb u q n _ _=>⟨u.slots,k b u (hb b n) q⟩,λb u q n _=>by rw [Ag (hx b n)];exact n,λb u q _=>?_,
  λb xs q=>by rw [Ag (hm b _ q λz=>z)];exact q,λb u xs q=>by rw [Ag (hm b _ q λz=>z)];exact q,λb ps q=>⟨#[],by rw [Ag (hm b _ q λz=>z),q];simp⟩⟩
 by_cases hbe:b=e
 ·subst hbe;exact heo
 ·exact ⟨u,k b u hbe q⟩
end
noncomputable def trk (h:Heap)(H:Hp):List Addr:=(List.range h.objs.size).filter λa=>(H a).isSome
def Hb (h:Heap)(H:Hp):Heap:=PySem.W.hideAll h (trk h H)
theorem QV (h:Heap)(H:Hp):(Hb h H).objs.size=h.objs.size:=PySem.W.hideAll_size _ _
theorem Tv {o:Obj}(e:h.get? b=some o)(n:H b=none):(Hb h H).get? b=some o:=
 PySem.W.hideAll_get _ e λhm=>by
  have q:(H b).isSome=true:=(List.mem_filter.mp hm).2;rw [n] at q;simp at q
theorem Wb {o:Obj}(e:(Hb h H).get? b=some o):h.get? b=some o/\H b=none:=by
 have e':h.get? b=some o:=PySem.W.of_hideAll (trk h H) e;refine ⟨e',?_⟩
 cases q:H b with
 | none=>rfl
 | some x=>
   have hm:b∈trk h H:=List.mem_filter.mpr ⟨uk2.mpr (ul8 e'),by simp [q]⟩;have z:(Hb h H).get? b=none:=PySem.W.hideAll_none (trk h H) hm;rw [z] at e;cases e
noncomputable def Vg (g h:Heap)(L:Addr):List (Addr×Obj):=(List.range h.objs.size).filterMap λa=>if a=L\/(g.get? a).isSome=true then none else (h.get? a).map λo=>(a,o)
def rest (g h:Heap)(L d:Addr):List (Addr×Obj):=(Vg g h L).filter λp=>decide (p.1≠d)
structure Mod (K:PySem.W.Frag)(mg:Str->Option Value)(base:Heap):Prop where
 kin:K.In base
 glob:base.Ns mainGlobals mg
 blt:∃mb,base.Ns builtinsNs mb/\∀x:Str,x≠"__name__"->mb x=bootBuiltins x
 nolimit:base.NoLimit
structure Cx where
 prog:Program
 w:World
 K:PySem.W.Frag
 mg:Str->Option Value
 base:Heap
 A:Around
 N:List Str
 s₀:Shared
 H₀:Hp
 env:Env
 outer:List Env
 stack:List Env
 ex:List Addr
 fn:Str->Bool
 calm:Bool
 pn:List (Addr×Obj)
 xe:Value->Shared->Prop
noncomputable def frs (l:List Env):List Addr:=l.filterMap (·.frame)
abbrev Cx.fs (X:Cx):List Addr:=frs X.outer
def Vis (sc:Scope)(x:Str):Prop:=sc.names.lookup x=some .local\/sc.names.lookup x=some .cell\/sc.names.lookup x=some .free
def Loc (sc:Scope)(x:Str):Prop:=sc.names.lookup x=some .local\/sc.names.lookup x=some .cell
def bL (env:Env)(h:Heap)(m:Str->Option Value)(x:Str)(u:Value):Prop:=
 (env.kindOf x=some .local/\m x=some u)\/((env.kindOf x=some .cell\/env.kindOf x=some .free)/\∃c,env.cells.lookup x=some c/\h.IsCell c (some u))
structure Cx.Ok (X:Cx):Prop where
 mod:Mod X.K X.mg X.base
 kind:X.env.scope.kind = .function
 glob:X.env.globals=mainGlobals
 blt:X.env.builtins=builtinsNs
 above:X.s₀.heap.objs.size<=X.env.locals
 inj:∀x y c,X.env.cells.lookup x=some c->X.env.cells.lookup y=some c->x=y
 has:∀x,(X.env.kindOf x=some .cell\/X.env.kindOf x=some .free)->∃c,X.env.cells.lookup x=some c
 cab:∀x c,X.fn x=true->X.env.cells.lookup x=some c->X.s₀.heap.objs.size<=c
 hd:X.calm=true->X.A.handled=none
 frames:X.A.frames=some X.stack
 stk:X.stack=X.outer\/(X.stack=X.env :: X.outer/\X.env.frame=some X.env.locals)
 exf:∀b∈X.ex,b≠X.env.locals/\∀x c,X.env.cells.lookup x=some c->c≠b
 bs:∀b o,X.base.get? b=some o->X.s₀.heap.get? b=some o/\X.H₀ b=none
 bsz:X.base.objs.size<=X.s₀.heap.objs.size
 noex:∀b o,X.base.get? b=some o->b∉X.ex
 exfs:∀b∈X.ex,b∉X.fs
 funs:X.s₀.heap.FunFrames X.base X.outer
 frf:∀b∈X.fs,X.H₀ b=none
structure Inv (X:Cx)(pins:List (Addr×Obj))(σ:List (Option V))(H:Hp)(s:Shared):Prop where
 ok:X.Ok
 os:s.os=X.s₀.os
 bare:AllBare s.gens
 base:Un X.fs X.ex X.H₀ H X.s₀.heap s.heap
 loc:∃m,s.heap.Ns X.env.locals m/\∀(i:Nat) (x:Str) (v:V),X.N[i]?=some x->σ[i]?=some (some v)->Vis X.env.scope x->∃u,RelV v u/\bL X.env s.heap m x u
 cell:∀x c,X.env.cells.lookup x=some c->∃v,s.heap.IsCell c v
 free:H X.env.locals=none
 freeC:∀x c,X.env.cells.lookup x=some c->H c=none
 pin:∀p∈X.pn++pins,s.heap.get? p.1=some p.2/\H p.1=none/\p.1≠X.env.locals/\p.1∉X.fs/\∀v,p.2.data≠.cell v
 hok:HOk X.prog X.w H s.heap
 len:σ.length=X.N.length
variable {t' i:Nat}{ch:List Addr}{E:Value->Shared->Prop}{v:V}{u:Value}{Q:Unit->Shared->Prop}
section
variable {X:Cx}{pins:List (Addr×Obj)}{σ:List (Option V)}{H H':Hp}{s:Shared}{h':Heap}
theorem Cx.Ok.nofr (ok:X.Ok){b:Addr}{o:Obj}(e:X.base.get? b=some o):b∉X.fs:=λhb=>by
 have:=(ok.funs.mem hb).1;rw [e] at this;cases this
theorem Inv.bs (I:Inv X pins σ H s):∀b o,X.base.get? b=some o->s.heap.get? b=some o/\H b=none:=λb o e=>
 ⟨I.base.keep b o (I.ok.bs b o e).1 (I.ok.bs b o e).2 (I.ok.nofr e) (I.ok.noex b o e),I.base.free b o (I.ok.bs b o e).1 (I.ok.bs b o e).2 (I.ok.noex b o e)⟩
theorem Inv.bk (I:Inv X pins σ H s):∀b o,X.base.get? b=some o->s.heap.get? b=some o:=λb o e=>(I.bs b o e).1
theorem Inv.mod (I:Inv X pins σ H s):Mod X.K X.mg X.base:=I.ok.mod
theorem Inv.kIn (I:Inv X pins σ H s):X.K.In s.heap:=I.ok.mod.kin.keeps I.bk
theorem Inv.lt (I:Inv X pins σ H s):X.env.locals < s.heap.objs.size:=let ⟨_,hn,_⟩:=I.loc;hn.lt
theorem Inv.sz (I:Inv X pins σ H s):X.s₀.heap.objs.size<=s.heap.objs.size:=um0 I.ok.above (Nat.le_of_lt I.lt)
theorem Inv.nofs (I:Inv X pins σ H s){a:Addr}(h:s.heap.objs.size<=a):a∉X.fs:=λhb=>by
 obtain ⟨_,o,ho,_⟩:=I.ok.funs.mem hb;exact absurd (ue9 (ul8 ho) (um0 I.sz h)) (uk7 _)
theorem Inv.cne (I:Inv X pins σ H s):∀x c,X.env.cells.lookup x=some c->c≠X.env.locals:=λx c e z=>by
 obtain ⟨v,o,ho,hd⟩:=I.cell x c e;obtain ⟨m,⟨o',es,ep,ho',hd',_⟩,_⟩:=I.loc;rw [z,ho'] at ho;cases ho;rw [hd'] at hd;cases hd
theorem Inv.funs (I:Inv X pins σ H s):s.heap.FunFrames X.base X.outer:=by
 have all:∀(l:List Env),(∀b∈frs l,b∈X.fs)->X.s₀.heap.FunFrames X.base l->s.heap.FunFrames X.base l:=by
  intro l
  induction l with
  | nil=>intro _ _;trivial
  | cons env r ih=>
    intro hs hl;obtain ⟨hk,⟨L,o,hf,hn,ho,hd⟩,hr⟩:=hl;have hL:L∈X.fs:=hs L (by unfold frs;rw [ue1,hf];exact uf0);obtain ⟨sl,e⟩:=I.base.slot L o ho (I.ok.frf L hL) hL λz=>I.ok.exfs L z hL;exact ⟨hk,⟨L,_,hf,hn,e,hd⟩,ih (λb hb=>hs b (by unfold frs;rw [ue1,hf];exact ud8 _ hb)) hr⟩
 exact all X.outer (λ_ hb=>hb) I.ok.funs
theorem Inv.stack (I:Inv X pins σ H s):s.heap.FunFrames X.base X.stack:=by
 rcases I.ok.stk with e | ⟨e,hf⟩
 ·rw [e];exact I.funs
 ·rw [e];obtain ⟨m,hn,_⟩:=I.loc;refine .cons (by rw [I.ok.kind];decide) hf hn ?_ I.funs;exact Heap.get?_none_of_le (um0 I.ok.bsz I.ok.above)
theorem Inv.stkSub (I:Inv X pins σ H s):∀b∈frs X.stack,b∈X.env.locals :: X.fs:=λb hb=>by
 rcases I.ok.stk with e | ⟨e,hf⟩
 ·rw [e] at hb;exact ud8 _ hb
 ·rw [e] at hb;unfold frs at hb;rw [ue1,hf] at hb;exact hb
theorem Inv.stkFree (I:Inv X pins σ H s):∀b∈frs X.stack,H b=none:=λb hb=>by
 rcases uk8.mp (I.stkSub b hb) with e | hb
 ·rw [e];exact I.free
 ·obtain ⟨_,o,ho,_⟩:=I.ok.funs.mem hb;exact I.base.free b o ho (I.ok.frf b hb) λz=>I.ok.exfs b z hb
theorem Inv.step {g':Array GenState}{d':Drawn}(I:Inv X pins σ H s)
 (hch:∀b∈ch,(b∈X.ex\/X.s₀.heap.objs.size<=b)/\b≠X.env.locals/\(∀x c,X.env.cells.lookup x=some c->c≠b)/\∀p∈X.pn++pins,p.1≠b)
 (keep:∀b o,b≠X.env.locals->b∉X.fs->b∉ch->s.heap.get? b=some o->H b=none->h'.get? b=some o)
 (slot:∀b o,b≠X.env.locals->b∈X.fs->b∉ch->s.heap.get? b=some o->H b=none->∃sl,h'.get? b=some { o with slots:=sl }) (free:∀b o,b∉ch->s.heap.get? b=some o->H b=none->H' b=none)
 (there:∀b o,b∉ch->s.heap.get? b=some o->∃o',h'.get? b=some o')
 (tups:∀b xs,H b=some (.tup xs)->H' b=some (.tup xs)) (frzs:∀b o u,H b=some (.frz o u)->H' b=some (.frz o u)) (tbls:∀b ps,H b=some (.tbl ps)->∃more,H' b=some (.tbl (ps++more)))
 (ns:∀m,s.heap.Ns X.env.locals m->h'.Ns X.env.locals m) (hok:HOk X.prog X.w H' h') (hg:AllBare g') :
 Inv X pins σ H' { s with heap:=h',gens:=g',drawn:=d',toks:=t' }:=by
 have neL:∀b o,X.s₀.heap.get? b=some o->b≠X.env.locals:=λb o e=>ul9 (ue9 (ul8 e) I.ok.above);have neC:∀b o,X.s₀.heap.get? b=some o->b∉X.ex->b∉ch:=λb o e hx hb=>by
  rcases (hch b hb).1 with z | z
  ·exact hx z
  ·exact absurd (ue9 (ul8 e) z) (uk7 _)
 have cellK:∀x c,X.env.cells.lookup x=some c->∀v,s.heap.IsCell c v->h'.IsCell c v:=λx c e v z9=>by
  obtain ⟨o,ho,hd⟩:=z9;have nch:c∉ch:=λz=>(hch c z).2.2.1 x c e rfl
  by_cases hc:c∈X.fs
  ·obtain ⟨sl,q⟩:=slot c o (I.cne x c e) hc nch ho (I.freeC x c e);exact ⟨_,q,hd⟩
  ·exact ⟨o,keep c o (I.cne x c e) hc nch ho (I.freeC x c e),hd⟩
 refine ⟨I.ok,I.os,hg,⟨λb o e n hb hx=>?_,λb o e n hb hx=>?_,λb o e n hx=>?_,λb o e hx=>?_,λb xs e=>tups b xs (I.base.tups b xs e),λb o xs e=>frzs b o xs (I.base.frzs b o xs e),λb ps e=>?_⟩,?_,λx c e=>?_,?_,λx c e=>?_,λp hp=>?_,hok,I.len⟩
 ·exact keep b o (neL b o e) hb (neC b o e hx) (I.base.keep b o e n hb hx) (I.base.free b o e n hx)
 ·obtain ⟨sl,e1⟩:=I.base.slot b o e n hb hx;obtain ⟨sl',e2⟩:=slot b _ (neL b o e) hb (neC b o e hx) e1 (I.base.free b o e n hx);exact ⟨sl',e2⟩
 ·obtain ⟨o',e1⟩:=I.base.there b o e hx;exact free b o' (neC b o e hx) e1 (I.base.free b o e n hx)
 ·obtain ⟨o',e1⟩:=I.base.there b o e hx;exact there b o' (neC b o e hx) e1
 ·obtain ⟨m1,e1⟩:=I.base.tbls b ps e;obtain ⟨m2,e2⟩:=tbls b _ e1;exact ⟨m1++m2,by rw [e2,Array.append_assoc]⟩
 ·obtain ⟨m,hn,hl⟩:=I.loc;refine ⟨m,ns m hn,λi x v e1 e2 e3=>?_⟩;obtain ⟨u,r,l⟩:=hl i x v e1 e2 e3;refine ⟨u,r,?_⟩;rcases l with l | ⟨k,c,e,z⟩
  ·exact .inl l
  ·exact .inr ⟨k,c,e,cellK x c e _ z⟩
 ·obtain ⟨v,z⟩:=I.cell x c e;exact ⟨v,cellK x c e v z⟩
 ·obtain ⟨m,⟨o,_,_,ho,_⟩,_⟩:=I.loc;exact free _ o (λz=>(hch _ z).2.1 rfl) ho I.free
 ·obtain ⟨v,o,ho,hd⟩:=I.cell x c e;exact free c o (λz=>(hch c z).2.2.1 x c e rfl) ho (I.freeC x c e)
 ·obtain ⟨e,n,ne,nf,d⟩:=I.pin p hp;have nch:p.1∉ch:=λz=>(hch p.1 z).2.2.2 p hp rfl;exact ⟨keep p.1 p.2 ne nf nch e n,free p.1 p.2 nch e n,ne,nf,d⟩
theorem Inv.un (I:Inv X pins σ H s)(u:Un X.fs [] H H' s.heap h')(hok:HOk X.prog X.w H' h'):Inv X pins σ H' { s with heap:=h',toks:=t' }:=by
 obtain ⟨m,⟨o,es,ep,ho,r⟩,_⟩:=id I.loc;obtain ⟨sl,hL⟩:=u.any ho I.free (by simp);exact I.step (g':=s.gens) (d':=s.drawn) (ch:=[]) (λ_ z=>nomatch z) (λb o _ hb _ e n=>u.keep b o e n hb (by simp)) (λb o _ hb _ e n=>u.slot b o e n hb (by simp)) (λb o _ e n=>u.free b o e n (by simp)) (λb o _ e=>u.there b o e (by simp)) u.tups u.frzs u.tbls (λm' hm=>by
  obtain ⟨o',es',ep',ho',r'⟩:=hm;rw [ho] at ho';cases ho'
  exact ⟨_,es',ep',hL,r'⟩) hok I.bare
theorem Inv.call {g':Array GenState}{d':Drawn}(I:Inv X pins σ H s)(u:Un (frs X.stack) ch H H' s.heap h')(hok:HOk X.prog X.w H' h')(hg:AllBare g')
 (hch:∀b∈ch,(b∈X.ex\/X.s₀.heap.objs.size<=b)/\b≠X.env.locals/\(∀x c,X.env.cells.lookup x=some c->c≠b)/\∀p∈X.pn++pins,p.1≠b) :
 Inv X pins σ H' { s with heap:=h',gens:=g',drawn:=d',toks:=t' }:=by
 obtain ⟨m,⟨o,es,ep,ho,r⟩,_⟩:=id I.loc;obtain ⟨sl,hL⟩:=u.any ho I.free λz=>(hch _ z).2.1 rfl;exact I.step (ch:=ch) hch (λb o hL hb hc e n=>u.keep b o e n (λz=>(uk8.mp (I.stkSub b z)).elim hL hb) hc) (λb o _ _ hc e n=>u.any e n hc) (λb o hc e n=>u.free b o e n hc) (λb o hc e=>u.there b o e hc) u.tups u.frzs u.tbls (λm' hm=>by
  obtain ⟨o',es',ep',ho',r'⟩:=hm;rw [ho] at ho';cases ho'
  exact ⟨_,es',ep',hL,r'⟩) hok hg
theorem Inv.turned {it:Addr}(I:Inv X pins σ H s)(k:∀b o,b≠it->s.heap.get? b=some o->h'.get? b=some o)(hn:H it=none)(hL:it≠X.env.locals)
 (h1:it∈X.ex\/X.s₀.heap.objs.size<=it) (h2:∀x c,X.env.cells.lookup x=some c->c≠it) (h3:∀p∈X.pn++pins,p.1≠it):Inv X pins σ H { s with heap:=h',toks:=t' }:=by
 have nit:∀b u,H b=some u->b≠it:=λb u e z=>by rw [z,hn] at e;cases e
 refine I.step (g':=s.gens) (d':=s.drawn) (ch:=[it]) (λb hb=>?_) (λb o _ _ hc e _=>k b o (λz=>hc (by simp [z])) e) (λb o _ _ hc e _=>⟨o.slots,k b o (λz=>hc (by simp [z])) e⟩) (λ_ _ _ _ n=>n)
  (λb o hc e=>⟨o,k b o (λz=>hc (by simp [z])) e⟩) (λ_ _ e=>e) (λ_ _ _ e=>e) (λb ps e=>⟨#[],by rw [e];simp⟩) (λm hm=>?_) (λb u e=>?_) I.bare
 ·have e:b=it:=by simpa using hb
  subst e;exact ⟨h1,hL,h2,h3⟩
 ·obtain ⟨o,es,ep,ho,r⟩:=hm;exact ⟨o,es,ep,k _ o (Ne.symm hL) ho,r⟩
 ·refine (I.hok b u e).stay (λc v hc q=>k c v ?_ q) (λ_ q=>q) λ_ _ q=>q;rcases hc with z | z
  ·rw [z];exact nit b u e
  ·exact nit c _ z
theorem Inv.tok (I:Inv X pins σ H s)(t:Nat):Inv X pins σ H { s with toks:=t }:=I.un (h':=s.heap) (t':=t) Un.refl I.hok
theorem Inv.kept {t':Nat}(I:Inv X pins σ H s)(k:∀b u,s.heap.get? b=some u->h'.get? b=some u):Inv X pins σ H { s with heap:=h',toks:=t' }:=I.un (Un.kept k) (I.hok.kept k)
theorem Inv.laid {a:Addr}{o:HO}{t':Nat}(I:Inv X pins σ H s)(k:∀b u,s.heap.get? b=some u->h'.get? b=some u)(hp:s.heap.objs.size<=a)(new:ObjOk X.prog X.w (upd H a o) h' a o) :
 Inv X pins σ (upd H a o) { s with heap:=h',toks:=t' }:=I.un (Un.laid k hp (I.hok.fresh hp)) (I.hok.laid k hp new)
theorem Inv.write {x e:Addr}{o:HO}{t':Nat}(I:Inv X pins σ H s)(mu:Mut (H x))(he:e=x\/H e=some (.own x))(k:∀b u,b≠e->s.heap.get? b=some u->h'.get? b=some u)(heo:∃u,h'.get? e=some u)
 (new:ObjOk X.prog X.w (upd H x o) h' x o):Inv X pins σ (upd H x o) { s with heap:=h',toks:=t' }:=I.un (Un.write mu he k heo) (I.hok.write mu he k heo new)
theorem Inv.pins_of {pins':List (Addr×Obj)}(I:Inv X pins σ H s)(h:∀p∈pins',s.heap.get? p.1=some p.2/\H p.1=none/\p.1≠X.env.locals/\p.1∉X.fs/\∀v,p.2.data≠.cell v):Inv X pins' σ H s:=
 ⟨I.ok,I.os,I.bare,I.base,I.loc,I.cell,I.free,I.freeC,λp hp=>(ui4.mp hp).elim (λz=>I.pin p (List.mem_append_left _ z)) (h p),I.hok,I.len⟩
theorem Hh {N:List Str}(hN:N.Nodup){i j:Nat}{x:Str}(a:N[i]?=some x)(b:N[j]?=some x):i=j:=by
 obtain ⟨h1,e1⟩:=ua8.mp a;obtain ⟨h2,e2⟩:=ua8.mp b;exact (uh0 hN).mp (e1.trans e2.symm)
theorem LO {M:Model}{A:Around}{x:Str}(I:Inv X pins σ H s)(hN:X.N.Nodup)(hi:X.N[i]?=some x)(hx:Loc X.env.scope x)(r:RelV v u)
 (h:∀s',Inv X pins (σ.set i (some v)) H s'->(∃a,Heap.SameBut a s.heap s'.heap/\(a=X.env.locals\/X.env.cells.lookup x=some a))->Q () s') (hf:X.fn x=true\/X.env.scope.names.lookup x=some .local:=by walk_at "h"):wpAny M A (storeName X.env x u) Q E s:=by
 obtain ⟨m,hn,hl⟩:=id I.loc;have hcls:(X.env.scope.kind == .class || (X.env.scope.kind == .module && X.env.locals != X.env.globals))=false:=by rw [I.ok.kind];rfl
 have hiσ:i < σ.length:=by rw [I.len];exact (ua8.mp hi).1
 have cne:=I.cne;have tracked:∀{a:Addr} {h':Heap},(∃o,s.heap.get? a=some o/\H a=none)->Heap.SameBut a s.heap h'->HOk X.prog X.w H h':=λ{a h'} ha hs b ob e=>by
  obtain ⟨_,_,hfree⟩:=ha;refine (I.hok b ob e).stay (λc w' hc q=>(hs.2 c ?_).trans q) (λ_ q=>q) λ_ _ q=>q;rintro rfl;rcases hc with rfl | hc
  ·rw [hfree] at e;cases e
  ·rw [hfree] at hc;cases hc
 rcases hx with hk | hk
 ·refine wpAny_storeName_local hk hn (λh' hn' hs=>?_) hcls;obtain ⟨oL,_,_,hoL,_⟩:=id hn;refine h _ ⟨I.ok,I.os,I.bare,⟨λb o e n hb hx=>?_,λb o e n hb hx=>?_,I.base.free,λb o e hx=>?_,I.base.tups,I.base.frzs,I.base.tbls⟩,⟨_,hn',λj y v' e1 e2 e3=>?_⟩,λy c e=>?_,I.free,I.freeC,λp hp=>?_,tracked ⟨oL,hoL,I.free⟩ hs,by simpa using I.len⟩ ⟨_,hs,.inl rfl⟩
  ·exact (hs.2 b (ul9 (ue9 (ul8 e) I.ok.above))).trans (I.base.keep b o e n hb hx)
  ·obtain ⟨sl,e1⟩:=I.base.slot b o e n hb hx;exact ⟨sl,(hs.2 b (ul9 (ue9 (ul8 e) I.ok.above))).trans e1⟩
  ·obtain ⟨o',e1⟩:=I.base.there b o e hx;exact ⟨o',(hs.2 b (ul9 (ue9 (ul8 e) I.ok.above))).trans e1⟩
  ·by_cases hj:j=i
   ·subst hj;rw [hi] at e1;cases e1
    rw [uc1 hiσ] at e2
    cases e2
    exact ⟨u,r,.inl ⟨hk,by simp⟩⟩
   ·rw [ud9 (Ne.symm hj)] at e2;obtain ⟨u',r',q⟩:=hl j y v' e1 e2 e3;refine ⟨u',r',?_⟩;rcases q with ⟨k,e⟩ | ⟨k,c,e,z⟩
    ·refine .inl ⟨k,?_⟩;have:y≠x:=λe=>hj (Hh hN e1 (e ▸ hi));simp [this,e]
    ·exact .inr ⟨k,c,e,z.sameBut hs (cne y c e)⟩
  ·obtain ⟨w',z⟩:=I.cell y c e;exact ⟨w',z.sameBut hs (cne y c e)⟩
  ·obtain ⟨e,n,ne,nf,d⟩:=I.pin p hp;exact ⟨(hs.2 p.1 ne).trans e,n,ne,nf,d⟩
 ·have hfn:X.fn x=true:=by
   rcases hf with z | z
   ·exact z
   ·rw [z] at hk;cases hk
  obtain ⟨c,hc⟩:=I.ok.has x (.inl hk);obtain ⟨w',z⟩:=I.cell x c hc;refine wpAny_storeName_cell I.ok.kind hk hc z (λh' hc' hs=>?_);obtain ⟨oc,hoc,hocd⟩:=id z;refine h { s with heap:=h' } ⟨I.ok,I.os,I.bare,⟨λb o e n hb hx=>?_,λb o e n hb hx=>?_,I.base.free,λb o e hx=>?_,I.base.tups,I.base.frzs,I.base.tbls⟩,⟨m,hn.sameBut hs (Ne.symm (cne x c hc)),λj y v' e1 e2 e3=>?_⟩,λy c' e=>?_,I.free,I.freeC,λp hp=>?_,tracked ⟨oc,hoc,I.freeC x c hc⟩ hs,by simpa using I.len⟩ ⟨c,hs,.inr hc⟩
  ·exact (hs.2 b (ul9 (ue9 (ul8 e) (I.ok.cab x c hfn hc)))).trans (I.base.keep b o e n hb hx)
  ·obtain ⟨sl,e1⟩:=I.base.slot b o e n hb hx;exact ⟨sl,(hs.2 b (ul9 (ue9 (ul8 e) (I.ok.cab x c hfn hc)))).trans e1⟩
  ·obtain ⟨o',e1⟩:=I.base.there b o e hx;exact ⟨o',(hs.2 b (ul9 (ue9 (ul8 e) (I.ok.cab x c hfn hc)))).trans e1⟩
  ·by_cases hj:j=i
   ·subst hj;rw [hi] at e1;cases e1
    rw [uc1 hiσ] at e2
    cases e2
    exact ⟨u,r,.inr ⟨.inl hk,c,hc,hc'⟩⟩
   ·rw [ud9 (Ne.symm hj)] at e2;obtain ⟨u',r',q⟩:=hl j y v' e1 e2 e3;refine ⟨u',r',?_⟩;rcases q with q | ⟨k,c',e,z'⟩
    ·exact .inl q
    ·refine .inr ⟨k,c',e,z'.sameBut hs ?_⟩;rintro rfl;exact hj (Hh hN e1 (I.ok.inj _ _ _ e hc ▸ hi))
  ·by_cases hcc:c'=c
   ·subst hcc;exact ⟨_,hc'⟩
   ·obtain ⟨w2,z2⟩:=I.cell y c' e;exact ⟨w2,z2.sameBut hs hcc⟩
  ·obtain ⟨e,n,ne,nf,d⟩:=I.pin p hp;refine ⟨(hs.2 p.1 ?_).trans e,n,ne,nf,d⟩;intro q;rw [q,hoc] at e;have q':oc=p.2:=ui5 e;exact d w' (by rw [<-q'];exact hocd)
theorem F6 {M:Model}{A:Around}{x:Str}(I:Inv X pins σ H s)(hN:X.N.Nodup)(hi:X.N[i]?=some x)(hx:Loc X.env.scope x)(r:RelV v u)
 (h:∀s',Inv X pins (σ.set i (some v)) H s'->Q () s') (hf:X.fn x=true\/X.env.scope.names.lookup x=some .local:=by walk_at "h"):wpAny M A (storeName X.env x u) Q E s:=
 LO I hN hi hx r (λs' I' _=>h s' I') hf
theorem Inv.call' {s':Shared}(I:Inv X pins σ H s)(ho:s'.os=s.os)(u:Un (frs X.stack) ch H H' s.heap s'.heap)(hok:HOk X.prog X.w H' s'.heap)(hg:AllBare s'.gens)
 (hch:∀b∈ch,(b∈X.ex\/X.s₀.heap.objs.size<=b)/\b≠X.env.locals/\(∀x c,X.env.cells.lookup x=some c->c≠b)/\∀p∈X.pn++pins,p.1≠b):Inv X pins σ H' s':=by
 obtain ⟨h',g',d',t',o'⟩:=s';have e:o'=s.os:=ho;subst e;exact I.call (g':=g') (t':=t') (d':=d') u hok hg hch
end
abbrev XK:=Value->Option Addr->Hp->Prop
abbrev St:=List (Option V)
abbrev VK:=V->Hp->Prop
abbrev TE:=St->Hp->VK->Prop
abbrev TT:=St->Hp->(Bool->Hp->Prop)->Prop
abbrev TA:=St->Hp->(List V->Hp->Prop)->Prop
structure Ends where
 nx:St->Hp->Prop
 rt:VK
 bk:St->Hp->Prop:=λ_ _=>False
 ct:St->Hp->Prop:=λ_ _=>False
abbrev TS:=Ends->St->Hp->Prop
inductive EP (X:Cx)(pins:List (Addr×Obj))(σ:St)(Q:VK)(u:Value)(s':Shared):Prop where
 | mk (v:V) (H':Hp) (i:Inv X pins σ H' s') (r:RelV v u) (q:Q v H'):EP X pins σ Q u s'
inductive TP (X:Cx)(pins:List (Addr×Obj))(σ:St)(Q:Bool->Hp->Prop)(b:Bool)(s':Shared):Prop where
 | mk (H':Hp) (i:Inv X pins σ H' s') (q:Q b H'):TP X pins σ Q b s'
inductive AP (X:Cx)(pins:List (Addr×Obj))(σ:St)(Q:List V->Hp->Prop)(us:List Value)(s':Shared):Prop where
 | mk (vs:List V) (H':Hp) (i:Inv X pins σ H' s') (r:Vals vs us) (q:Q vs H'):AP X pins σ Q us s'
def SP (X:Cx)(pins:List (Addr×Obj))(D:Ends)(f:Flow)(s':Shared):Prop:=
 match f with
 | .next=>∃σ' H',Inv X pins σ' H' s'/\D.nx σ' H'
 | .brk=>∃σ' H',Inv X pins σ' H' s'/\D.bk σ' H'
 | .cont=>∃σ' H',Inv X pins σ' H' s'/\D.ct σ' H'
 | .ret u=>∃v σ' H',Inv X pins σ' H' s'/\RelV v u/\D.rt v H'
def PE (X:Cx)(e:Expr)(t:TE):Prop:=
 ∀(pins:List (Addr×Obj)) (s:Shared) (σ:St) (H:Hp) (Q:VK),Inv X pins σ H s->t σ H Q->wpAny (model X.prog X.w) X.A (eval e X.env) (EP X pins σ Q) X.xe s
def PT (X:Cx)(e:Expr)(t:TT):Prop:=
 ∀(pins:List (Addr×Obj)) (s:Shared) (σ:St) (H:Hp) (Q:Bool->Hp->Prop),Inv X pins σ H s->t σ H Q->wpAny (model X.prog X.w) X.A (isTrue e X.env (eval e X.env)) (TP X pins σ Q) X.xe s
def PW (X:Cx)(e:Expr)(t:TT):Prop:=
 ∀(whole:Sem Value) (pins:List (Addr×Obj)) (s:Shared) (σ:St) (H:Hp) (Q:Bool->Hp->Prop),Inv X pins σ H s->t σ H Q->wpAny (model X.prog X.w) X.A (isTrue e X.env whole) (TP X pins σ Q) X.xe s
variable {X:Cx}{e:Expr}
theorem PW.pt {t:TT}(h:PW X e t):PT X e t:=h _
def PA (X:Cx)(es:List Expr)(t:TA):Prop:=
 ∀(pos:Pos) (pins:List (Addr×Obj)) (s:Shared) (σ:St) (H:Hp) (Q:List V->Hp->Prop),Inv X pins σ H s->t σ H Q->wpAny (model X.prog X.w) X.A (spliced (backTo pos (starEach es X.env))) (AP X pins σ Q) X.xe s
def PS (X:Cx)(st:Stmt)(t:TS):Prop:=
 ∀(pins:List (Addr×Obj)) (s:Shared) (σ:St) (H:Hp) (D:Ends),Inv X pins σ H s->t D σ H->wpAny (model X.prog X.w) X.A (exec st X.env) (SP X pins D) X.xe s
def PSs (X:Cx)(st:List Stmt)(t:TS):Prop:=
 ∀(pins:List (Addr×Obj)) (s:Shared) (σ:St) (H:Hp) (D:Ends),Inv X pins σ H s->t D σ H->wpAny (model X.prog X.w) X.A (execs st X.env) (SP X pins D) X.xe s
variable {s:Shared}
theorem thn {α:Type}{t:Sem α}{Q Q':α->Shared->Prop}{M:Model}{A:Around}(h:wpAny M A t Q E s)(hQ:∀a s,Q a s->Q' a s):wpAny M A t Q' E s:=un4 h hQ λ_ _ x=>x
variable {pins:List (Addr×Obj)}{σ:St}{c:Expr}
section
variable {X:Cx}
def ZB (i:Nat):TE:=λσ H Q=>∃v,σ[i]?=some (some v)/\Q v H
def tC (v:V):TE:=λ_ H Q=>Q v H
theorem CB {x:Str}{pos:Pos}(hN:X.N[i]?=some x)(hv:Vis X.env.scope x)(hd:(x == ("__debug__" : Str))=false:=by decide)(hcd:(x == ("__classdict__" : Str))=false:=by decide):PE X (.Name x pos) (ZB i):=by
 intro pins s σ H Q I h;obtain ⟨v,e,h⟩:=h;obtain ⟨m,hn,hl⟩:=I.loc;obtain ⟨u,r,l⟩:=hl i x v hN e hv;have fin:EP X pins σ Q u s:=⟨v,H,I,r,h⟩;rcases l with ⟨hk,hm⟩ | ⟨hk,c,hc,hcell⟩
 ·exact wpAny_Name (wpAny_loadName_local I.ok.kind hk hn hm fin) hd
 ·rcases hk with hk | hk
  ·exact wpAny_Name (wpAny_loadName_cell I.ok.kind hk hc hcell fin) hd
  ·exact wpAny_Name (wpAny_loadName_free I.ok.kind hk hc hcell fin hcd) hd
theorem YM {i j pos}:PE X (.Constant (.int i) j pos) (tC (.int i)):=λ_ _ _ H _ I h=>wpAny_Constant_int ⟨.int i,H,I.tok _,⟨_,rfl⟩,h⟩
theorem au {b j pos}:PE X (.Constant (.bool b) j pos) (tC (.bl b)):=λ_ _ _ H _ I h=>Constant_bool ⟨.bl b,H,I,rfl,h⟩
theorem YO {j pos}:PE X (.Constant .none j pos) (tC .non):=λ_ _ _ H _ I h=>Constant_none ⟨.non,H,I,rfl,h⟩
theorem Ry {x j pos}:PE X (.Constant (.str x) j pos) (tC (.str x)):=λ_ _ _ H _ I h=>Calls.Constant_str ⟨.str x,H,I.tok _,⟨_,rfl⟩,h⟩
def Gl (X:Cx)(x:Str):Prop:=X.env.kindOf x=some .globalImplicit
theorem Cu {x:Str}{pos:Pos}{Q:Value->Shared->Prop}(I:Inv X pins σ H s)(hg:Gl X x)(hm:X.mg x=some u)(h:Q u s)
 (hd:(x == ("__debug__" : Str))=false:=by decide):wpAny (model X.prog X.w) X.A (eval (.Name x pos) X.env) Q E s:=
 Calls.Name_function_global I.ok.kind hg (Calls.loadGlobal_global (by rw [I.ok.glob];exact I.mod.glob.keeps I.bk) hm h) hd
theorem GD {x:Str}{pos:Pos}{Q:Value->Shared->Prop}(I:Inv X pins σ H s)(hg:Gl X x)(hm:X.mg x=none)(hv:bootBuiltins x=some u)(h:Q u s)
 (hn:x≠"__name__":=by decide) (hd:(x == ("__debug__" : Str))=false:=by decide):wpAny (model X.prog X.w) X.A (eval (.Name x pos) X.env) Q E s:=by
 obtain ⟨mb,h1,h2⟩:=I.mod.blt;exact Calls.Name_function_global I.ok.kind hg (Calls.loadGlobal_builtin (by rw [I.ok.glob];exact I.mod.glob.keeps I.bk) hm (by rw [I.ok.blt];exact h1.keeps I.bk) ((h2 x hn).trans hv) h) hd
theorem OA {x:Str}{pos:Pos}(hg:Gl X x)(hm:X.mg x=some u)(r:RelV v u)(hd:(x == ("__debug__" : Str))=false:=by decide):PE X (.Name x pos) (tC v):=
 λ_ _ _ H _ I h=>Cu I hg hm ⟨v,H,I,r,h⟩ hd
theorem Wm {x:Str}{pos:Pos}(hg:Gl X x)(hm:X.mg x=none)(hv:bootBuiltins x=some u)(r:RelV v u)(hn:x≠"__name__":=by decide)(hd:(x == ("__debug__" : Str))=false:=by decide):PE X (.Name x pos) (tC v):=
 λ_ _ _ H _ I h=>GD I hg hm hv ⟨v,H,I,r,h⟩ hn hd
variable {a b:Expr}{ta tb:TE}{pos:Pos}
def tB (t:TE):TT:=λσ H Q=>t σ H λx H1=>∃c,x = .bl c/\Q c H1
theorem Y4 {t:TE}(h:PE X e t)(he:∀whole,isTrue e X.env whole=(do let v <-whole;standAt e.pos;holding [v] (truthy v)):=by intro _;rfl):PT X e (tB t):=by
 intro pins s σ H Q I hw;refine isTrue_plain (thn (h pins s σ H _ I hw) λv s1 z9=>?_) (he _);obtain ⟨x,H1,I1,r1,q1⟩:=z9;obtain ⟨d,rfl,q⟩:=q1
 cases r1
 exact wpAny_truthy_bool ⟨H1,I1,q⟩
variable {tA tB':TT}{rest:List Expr}
def cG (t u:TT):TT:=λσ H Q=>t σ H λc H1=>if c=true then u σ H1 Q else Q false H1
def tOr (t u:TT):TT:=λσ H Q=>t σ H λc H1=>if c=true then Q true H1 else u σ H1 Q
def cO (t:TT):TT:=λσ H Q=>t σ H λc H1=>Q (!c) H1
theorem WF (ha:PT X a tA):PW X (.BoolOp .And [a] pos) tA:=by
 intro wh pins s σ H Q I h;refine isTrue_and (thn (ha pins s σ H Q I h) λc s1 e=>?_)
 cases c with
 | true=>exact isTrue_and_nil e
 | false=>exact e
theorem Y6 (ha:PT X a tA):PW X (.BoolOp .Or [a] pos) tA:=by
 intro wh pins s σ H Q I h;refine isTrue_or (thn (ha pins s σ H Q I h) λc s1 e=>?_)
 cases c with
 | false=>exact isTrue_or_nil e
 | true=>exact e
theorem Y5 (ha:PT X a tA)(hb:PW X (.BoolOp .And (b :: rest) pos) tB'):PW X (.BoolOp .And (a :: b :: rest) pos) (cG tA tB'):=by
 intro wh pins s σ H Q I h;refine isTrue_and (thn (ha pins s σ H _ I h) λc s1 z9=>?_);obtain ⟨H1,I1,q1⟩:=z9
 cases c with
 | true=>exact hb wh pins s1 σ H1 Q I1 q1
 | false=>exact ⟨H1,I1,q1⟩
theorem aE (ha:PT X a tA)(hb:PW X (.BoolOp .Or (b :: rest) pos) tB'):PW X (.BoolOp .Or (a :: b :: rest) pos) (tOr tA tB'):=by
 intro wh pins s σ H Q I h;refine isTrue_or (thn (ha pins s σ H _ I h) λc s1 z9=>?_);obtain ⟨H1,I1,q1⟩:=z9
 cases c with
 | true=>exact ⟨H1,I1,q1⟩
 | false=>exact hb wh pins s1 σ H1 Q I1 q1
theorem Y0 (ha:PT X a tA):PT X (.UnaryOp .Not a pos) (cO tA):=by
 intro pins s σ H Q I h;refine isTrue_not (thn (ha pins s σ H (λc H1=>Q (!c) H1) I h) λc s1 z=>?_);obtain ⟨H1,I1,q1⟩:=z;exact ⟨H1,I1,q1⟩
def aI (ta tb:TE):TE:=λσ H Q=>ta σ H λx H1=>∃c,x = .bl c/\if c=true then tb σ H1 Q else Q (.bl false) H1
def aN (ta:TE):TE:=λσ H Q=>ta σ H λx H1=>∃c,x = .bl c/\Q (.bl (!c)) H1
theorem YR {op}{t:TE}(h:PE X a t):PE X (.BoolOp op [a] pos) t:=λpins s σ H Q I hw=>BoolOp_one (h pins s σ H Q I hw)
theorem YK (ha:PE X a ta)(hb:PE X (.BoolOp .And (b :: rest) pos) tb):PE X (.BoolOp .And (a :: b :: rest) pos) (aI ta tb):=by
 intro pins s σ H Q I h;refine BoolOp_and (thn (ha pins s σ H _ I h) λv s1 z9=>?_);obtain ⟨x,H1,I1,r1,q1⟩:=z9;obtain ⟨c,rfl,q1⟩:=q1
 cases r1
 refine wpAny_truthy_bool ?_
 cases c with
 | true=>exact hb pins s1 σ H1 Q I1 q1
 | false=>exact ⟨.bl false,H1,I1,rfl,q1⟩
theorem YQ (ha:PE X a ta):PE X (.UnaryOp .Not a pos) (aN ta):=by
 intro pins s σ H Q I h;refine UnaryOp_ (thn (ha pins s σ H _ I h) λv s1 z9=>?_);obtain ⟨x,H1,I1,r1,q1⟩:=z9;obtain ⟨c,rfl,q1⟩:=q1
 cases r1
 exact not_of (wpAny_truthy_bool ⟨.bl (!c),H1,I1,rfl,q1⟩)
def tIf (t:TT)(ta tb:TE):TE:=λσ H Q=>t σ H λc H1=>if c=true then ta σ H1 Q else tb σ H1 Q
theorem T7 (hc:PT X c tA)(ha:PE X a ta)(hb:PE X b tb):PE X (.IfExp c a b pos) (tIf tA ta tb):=by
 intro pins s σ H Q I h;refine wpAny_IfExp (thn (hc pins s σ H _ I h) λd s1 z9=>?_);obtain ⟨H1,I1,q1⟩:=z9
 cases d with
 | true=>exact ha pins s1 σ H1 Q I1 q1
 | false=>exact hb pins s1 σ H1 Q I1 q1
end
def SqL (K:PySem.W.Frag)(H:Hp)(a:Addr)(xs:List V):Prop:=
 Rd H a (.lst xs)\/
  ∃(o:Obj) (its:Array Value) (n:Nat),K.lookup a=some o/\o.cls = .type "list"/\o.dict=none/\o.data = .seq its n/\its.size<=sizeLine/\Vals xs its.toList
def SqT (K:PySem.W.Frag)(H:Hp)(a:Addr)(xs:List V):Prop:=
 Rd H a (.tup xs)\/
  ∃(o:Obj) (its:Array Value) (n:Nat),K.lookup a=some o/\o.cls = .type "tuple"/\o.data = .seq its n/\its.size<=sizeLine/\Vals xs its.toList
noncomputable def bT:Value->Option V
 | .none=>some .non
 | .bool b=>some (.bl b)
 | .int i _=>some (.int i)
 | .str x _=>some (.str x)
 | .bytes b _=>some (.byt b)
 | .float b _=>some (.flt b)
 | .ref a=>some (.ref a)
 | .type n=>some (.ty n)
 | _=>none
theorem RelV.abs {x:V}(r:RelV x u):bT u=some x:=by
 cases x with
 | non=>cases r;rfl
 | bl _=>cases r;rfl
 | int _=>obtain ⟨t,rfl⟩:=r;rfl
 | str _=>obtain ⟨t,rfl⟩:=r;rfl
 | byt _=>obtain ⟨t,rfl⟩:=r;rfl
 | flt _=>obtain ⟨t,rfl⟩:=r;rfl
 | ref _=>cases r;rfl
 | ty _=>cases r;rfl
theorem RelV.inj {x y:V}{u:Value}(r:RelV x u)(q:RelV y u):x=y:=ui5 (r.abs.symm.trans q.abs)
theorem Vals.inj {xs ys:List V}{us:List Value}(a:Vals xs us)(b:Vals ys us):xs=ys:=by
 cases a with
 | nil=>
   cases b
   rfl
 | cons r t=>
   cases b with
   | cons r' t'=>rw [r.inj r',Vals.inj t t']
variable {K:PySem.W.Frag}
section
variable {X:Cx}{pins:List (Addr×Obj)}{σ:St}{H:Hp}{s:Shared}{a:Addr}{xs ys:List V}
theorem SqL.of (h:H a=some (.lst xs)):SqL K H a xs:=.inl (.inl h)
theorem SqT.of (h:H a=some (.tup xs)):SqT K H a xs:=.inl (.inl h)
theorem Inv.list (I:Inv X pins σ H s)(h:SqL X.K H a xs):∃its:List Value,Vals xs its/\PlainL s.heap a its.toArray/\xs.length<=sizeLine:=by
 rcases h with h | ⟨o,its,n,hk,hc,hd,hs,hz,r⟩
 ·obtain ⟨z,its,n,r,e⟩:=h.ok I.hok;exact ⟨its,r,⟨_,n,e,rfl,rfl,rfl⟩,z⟩
 ·refine ⟨its.toList,r,⟨o,n,I.kIn a o hk,hc,hd,by simpa using hs⟩,?_⟩;have e:=r.length;simp only [ue2] at e;lia
theorem Inv.tuple (I:Inv X pins σ H s)(h:SqT X.K H a xs):∃its:List Value,Vals xs its/\IsTup s.heap a its.toArray/\xs.length<=sizeLine:=by
 rcases h with h | ⟨o,its,n,hk,hc,hs,hz,r⟩
 ·obtain ⟨z,its,r,p⟩:=h.ok I.hok;exact ⟨its,r,p,z⟩
 ·refine ⟨its.toList,r,⟨o,I.kIn a o hk,hc,n,by simpa using hs⟩,?_⟩;have e:=r.length;simp only [ue2] at e;lia
theorem Inv.list_inj (I:Inv X pins σ H s)(h:SqL X.K H a xs)(h':SqL X.K H a ys):xs=ys:=by
 obtain ⟨its,r,⟨o,n,e,_,_,d⟩,_⟩:=I.list h;obtain ⟨its',r',⟨o',n',e',_,_,d'⟩,_⟩:=I.list h';rw [e] at e';cases e'
 rw [d] at d';injection d' with d1 _
 have:its=its':=by simpa using congrArg Array.toList d1
 subst this;exact r.inj r'
theorem Inv.tuple_inj (I:Inv X pins σ H s)(h:SqT X.K H a xs)(h':SqT X.K H a ys):xs=ys:=by
 obtain ⟨its,r,⟨o,e,_,n,d⟩,_⟩:=I.tuple h;obtain ⟨its',r',⟨o',e',_,n',d'⟩,_⟩:=I.tuple h';rw [e] at e';cases e'
 rw [d] at d';injection d' with d1 _
 have:its=its':=by simpa using congrArg Array.toList d1
 subst this;exact r.inj r'
end
abbrev Cx.wish (X:Cx)(E:Value->Shared->Prop):Cx:={ X with xe:=E }
abbrev Cx.nox (X:Cx):Cx:=X.wish λ_ _=>False
theorem Cx.Ok.wish {X:Cx}(ok:X.Ok)(E:Value->Shared->Prop):(X.wish E).Ok:=
 ⟨ok.mod,ok.kind,ok.glob,ok.blt,ok.above,ok.inj,ok.has,ok.cab,ok.hd,ok.frames,ok.stk,ok.exf,ok.bs,ok.bsz,ok.noex,ok.exfs,ok.funs,ok.frf⟩
theorem Cx.Ok.unwish (ok:(X.wish E).Ok):X.Ok:=
 ⟨ok.mod,ok.kind,ok.glob,ok.blt,ok.above,ok.inj,ok.has,ok.cab,ok.hd,ok.frames,ok.stk,ok.exf,ok.bs,ok.bsz,ok.noex,ok.exfs,ok.funs,ok.frf⟩
section
variable {X:Cx}{pins:List (Addr×Obj)}{σ:St}{H:Hp}{s:Shared}{E:Value->Shared->Prop}
theorem Inv.wish (I:Inv X pins σ H s)(E:Value->Shared->Prop):Inv (X.wish E) pins σ H s:=⟨I.ok.wish E,I.os,I.bare,I.base,I.loc,I.cell,I.free,I.freeC,I.pin,I.hok,I.len⟩
theorem Inv.unwish (I:Inv (X.wish E) pins σ H s):Inv X pins σ H s:=⟨I.ok.unwish,I.os,I.bare,I.base,I.loc,I.cell,I.free,I.freeC,I.pin,I.hok,I.len⟩
theorem SP.unwish {D:Ends}{f:Flow}{s':Shared}(h:SP (X.wish E) pins D f s'):SP X pins D f s':=by
 cases f with
 | next=>obtain ⟨σ',H',I,q⟩:=h;exact ⟨σ',H',I.unwish,q⟩
 | brk=>obtain ⟨σ',H',I,q⟩:=h;exact ⟨σ',H',I.unwish,q⟩
 | cont=>obtain ⟨σ',H',I,q⟩:=h;exact ⟨σ',H',I.unwish,q⟩
 | ret u=>obtain ⟨v,σ',H',I,r,q⟩:=h;exact ⟨v,σ',H',I.unwish,r,q⟩
theorem PSs.nox {st:List Stmt}{t:TS}(h:PSs X.nox st t):PSs X st t:=λpins s σ H D I hw=>
 un4 (h pins s σ H D (I.wish _) hw) (λ_ _ q=>q.unwish) λ_ _ z=>False.elim z
end
section
variable {X:Cx}{st:Stmt}{rest:List Stmt}{t u:TS}{e:Expr}{te:TE}{pos:Pos}
def Vc:TS:=λD σ H=>D.nx σ H
def cR (t u:TS):TS:=λD σ H=>t { D with nx:=u D } σ H
theorem WD:PSs X [] Vc:=λ_ _ σ H _ I h=>wpAny_execs_nil ⟨σ,H,I,h⟩
theorem JE (h1:PS X st t)(h2:PSs X rest u):PSs X (st :: rest) (cR t u):=by
 intro pins s σ H D I h;refine wpAny_execs_cons (thn (h1 pins s σ H { D with nx:=u D } I h) λf s1 q=>?_)
 cases f with
 | next=>
   obtain ⟨σ',H',I',q⟩:=q;exact h2 pins s1 σ' H' D I' q
 | ret v=>exact q
 | brk=>exact q
 | cont=>exact q
theorem GI (h1:PS X st t):PSs X [st] t:=by
 intro pins s σ H D I h;refine wpAny_execs_cons (thn (h1 pins s σ H D I h) λf s1 q=>?_)
 cases f with
 | next=>exact wpAny_execs_nil q
 | ret v=>exact q
 | brk=>exact q
 | cont=>exact q
def Zw:TS:=λD σ H=>D.bk σ H
theorem WC:PS X (.Pass pos) Vc:=λ_ _ σ H _ I h=>wpAny_Pass ⟨σ,H,I,h⟩
theorem Ue:PS X (.Break pos) Zw:=λ_ _ σ H _ I h=>wpAny_Break ⟨σ,H,I,h⟩
theorem Inv.quiet (I:Inv X pins σ H s):interactive X.env=false:=by simp [interactive,I.ok.kind]
def Va (te:TE):TS:=λD σ H=>te σ H λ_ H1=>D.nx σ H1
theorem Lh (he:PE X e te)(hs:swapsWith e none pos.line X.env=pure false:=by rfl):PS X (.Expr e pos) (Va te):=by
 intro pins s σ H D I h;exact wpAny_Expr_any (thn (he pins s σ H _ I h) λv s1 z9=>by obtain ⟨x,H1,I1,r1,q1⟩:=z9;exact ⟨σ,H1,I1,q1⟩) I.quiet hs
def cQ (te:TE):TS:=λD σ H=>te σ H D.rt
theorem Ir (he:PE X e te):PS X (.Return (some e) pos) (cQ te):=by
 intro pins s σ H D I h;exact wpAny_Return_some (thn (he pins s σ H _ I h) λv s1 z9=>by obtain ⟨x,H1,I1,r1,q1⟩:=z9;exact ⟨x,σ,H1,I1,r1,q1⟩)
def cL (c:TT)(t u:TS):TS:=λD σ H=>c σ H λb H1=>if b=true then t D σ H1 else u D σ H1
theorem aD {a b:List Stmt}{tc:TT}(hc:PT X c tc)(ha:PSs X a t)(hb:PSs X b u):PS X (.If c a b pos) (cL tc t u):=by
 intro pins s σ H D I h;refine wpAny_If (thn (hc pins s σ H _ I h) λd s1 z9=>?_);obtain ⟨H1,I1,q1⟩:=z9
 cases d with
 | true=>exact ha pins s1 σ H1 D I1 q1
 | false=>exact hb pins s1 σ H1 D I1 q1
end
abbrev TG:=V->St->Hp->(St->Hp->Prop)->Prop
abbrev TGs:=List V->St->Hp->(St->Hp->Prop)->Prop
def PG (X:Cx)(target:Expr)(t:TG):Prop:=
 ∀(pins:List (Addr×Obj)) (s:Shared) (σ:St) (H:Hp) (v:V) (u:Value) (Q:St->Hp->Prop),Inv X pins σ H s->RelV v u->t v σ H Q->
  wpAny (model X.prog X.w) X.A (assign target X.env u) (λ_ s'=>∃σ' H',Inv X pins σ' H' s'/\Q σ' H') X.xe s
def PGs (X:Cx)(ts:List Expr)(t:TGs):Prop:=
 ∀(pins:List (Addr×Obj)) (s:Shared) (σ:St) (H:Hp) (vs:List V) (us:List Value) (Q:St->Hp->Prop),Inv X pins σ H s->Vals vs us->t vs σ H Q->
  wpAny (model X.prog X.w) X.A (assignInOrder ((assignEach ts X.env).map (·.2)) us) (λ_ s'=>∃σ' H',Inv X pins σ' H' s'/\Q σ' H') X.xe s
abbrev SH:=V->V->V->Hp->(Hp->Prop)->Prop
def Xv (X:Cx)(t:SH):Prop:=
 ∀(pins:List (Addr×Obj)) (s:Shared) (σ:St) (H:Hp) (o i v:V) (ov iv u:Value) (Q:Hp->Prop),Inv X pins σ H s->RelV o ov->RelV i iv->RelV v u->t o i v H Q->
  wpAny (model X.prog X.w) X.A (setItem ov iv u) (λ_ s'=>∃H',Inv X pins σ H' s'/\Q H') X.xe s
variable {tg:Expr}
section
variable {X:Cx}{pos:Pos}
def Mc (i:Nat):TG:=λv σ H Q=>Q (σ.set i (some v)) H
theorem Ws {x:Str}(hN:X.N.Nodup)(hi:X.N[i]?=some x)(hx:Loc X.env.scope x)(hf:X.fn x=true\/X.env.scope.names.lookup x=some .local:=by walk_at "h"):PG X (.Name x pos) (Mc i):=by
 intro pins s σ H v u Q I r h;exact wpAny_assign_Name (F6 I hN hi hx r (λs' I'=>⟨_,H,I',h⟩) hf)
def b7:TGs:=λvs σ H Q=>vs=[]/\Q σ H
def UX (t:TG)(u:TGs):TGs:=λvs σ H Q=>∃v r,vs=v :: r/\t v σ H λσ' H'=>u r σ' H' Q
theorem Wt:PGs X [] b7:=by
 intro pins s σ H vs us Q I r h;obtain ⟨e,h⟩:=h;subst e
 cases r
 exact assignInOrder_nil ⟨σ,H,I,h⟩
theorem Ub {es:List Expr}{t:TG}{u:TGs}(h1:PG X e t)(h2:PGs X es u)
 (hs:(assignEach (e :: es) X.env).map (·.2)=assign e X.env :: (assignEach es X.env).map (·.2):=by rfl):PGs X (e :: es) (UX t u):=by
 intro pins s σ H vs us Q I r h;obtain ⟨v,vr,e1,h⟩:=h;subst e1
 cases r with
 | cons r rr=>
   rw [hs];refine assignInOrder_cons (thn (h1 pins s σ H _ _ _ I r h) λ_ s1 z9=>?_);obtain ⟨σ1,H1,I1,q1⟩:=z9;exact h2 pins s1 σ1 H1 _ _ Q I1 rr q1
def b9 (K:PySem.W.Frag)(n:Nat)(t:TGs):TG:=λv σ H Q=>∃a xs,v = .ref a/\SqT K H a xs/\xs.length=n/\t xs σ H Q
theorem YU {es:List Expr}{k:Nat}{t:TGs}{n:Nat}(hc:X.calm=true)(h:PGs X es t)
 (hn:(assignEach es X.env).length=n:=by rfl) (hst:(assignEach es X.env).findIdx? (·.1)=none:=by rfl):PG X (.Tuple es k pos) (b9 X.K n t):=by
 intro pins s σ H v u Q I r hw;obtain ⟨a,xs,e1,hq,hl,hw⟩:=hw;subst e1
 cases r
 obtain ⟨its,rv,ht,hz⟩:=I.tuple hq;refine assign_Tuple_tuple (I.ok.hd hc) ht (by simp [hn,<-hl,rv.length]) hst λh' hx=>?_;have I1:Inv X pins σ H { s with heap:=h' }:=I.kept (t':=s.toks) λb o e=>hx b o (ul9 (ul8 e)) e;exact h pins _ σ H xs _ Q I1 (by simpa using rv) hw
def b8 (to ti:TE)(t:SH):TG:=λv σ H Q=>to σ H λo H1=>ti σ H1 λi H2=>t o i v H2 λH3=>Q σ H3
theorem YT {o i:Expr}{to ti:TE}{t:SH}(ho:PE X o to)(hi:PE X i ti)(hs:Xv X t)
 (ha:∀v,assign (.Subscript o i pos) X.env v=(do
   let ov <-holding [v] (eval o X.env)
   let iv <-holding [v,ov] (eval i X.env)
   standAt pos
   holding [v,ov,iv] (setItem ov iv v)
   release [v,ov,iv] []):=by intro _;rfl):PG X (.Subscript o i pos) (b8 to ti t):=by
 intro pins s σ H v u Q I r h;rw [ha];refine un2 (ul7 (thn (ho pins s σ H _ I h) λov s1 z9=>?_));obtain ⟨x,H1,I1,r1,q1⟩:=z9;refine un2 (ul7 (thn (hi pins s1 σ H1 _ I1 q1) λiv s2 z9=>?_));obtain ⟨y,H2,I2,r2,q2⟩:=z9;refine un2 (wpAny_standAt (un2 (ul7 (thn (hs pins s2 σ H2 x y v ov iv u _ I2 r1 r2 r q2) λ_ s3 z9=>?_))));obtain ⟨H3,I3,q3⟩:=z9;exact wpAny_release ⟨σ,H3,I3,q3⟩
def P5 (te:TE)(g:TG):TS:=λD σ H=>te σ H λx H1=>g x σ H1 D.nx
theorem RJ {te:TE}{g:TG}(he:PE X e te)(hg:PG X tg g)(hs:swapsWithSole [tg] e pos.line X.env=pure false:=by rfl)(hw:swappedStores [tg] e X.env=pure none:=by rfl)
 (h1:(assignEach [tg] X.env).map (·.2)=[assign tg X.env]:=by rfl):PS X (.Assign [tg] e pos) (P5 te g):=by
 intro pins s σ H D I h;refine wpAny_Assign_stores (thn (he pins s σ H _ I h) λv s1 z9=>?_) hs hw;obtain ⟨x,H1,I1,r1,q1⟩:=z9;rw [h1];exact thn (hg pins s1 σ H1 x v _ I1 r1 q1) λ_ s2 q=>q
theorem Np {x:Str}{te:TE}{pos':Pos}(hN:X.N.Nodup)(hi:X.N[i]?=some x)(hx:Loc X.env.scope x)(he:PE X e te)(hs:swapsWith e (some (.Name x pos')) pos.line X.env=pure false:=by rfl)(hf:X.fn x=true\/X.env.scope.names.lookup x=some .local:=by walk_at "h") :
 PS X (.Assign [.Name x pos'] e pos) (P5 te (Mc i)):=by
 intro pins s σ H D I h;refine wpAny_Assign_Name (thn (he pins s σ H _ I h) λv s1 z9=>?_) hs;obtain ⟨y,H1,I1,r1,q1⟩:=z9;exact F6 I1 hN hi hx r1 (λs2 I2=>⟨_,H1,I2,q1⟩) hf
end
section
variable {X:Cx}{pos:Pos}
def Sf (c:TT)(tb:TS):TS:=λD σ H=>∃W:Nat->St->Hp->Prop,(∃m,W m σ H)/\∀m σ H,W m σ H->
 c σ H λb H1=>if b=true then ∃N:St->Hp->Prop,(∀σ' H',N σ' H'->∃m',m' < m/\W m' σ' H')/\tb { D with nx:=N,ct:=N,bk:=D.nx } σ H1 else D.nx σ H1
theorem Uf {body:List Stmt}{tc:TT}{tb:TS}(hp:PassesOwn (model X.prog X.w) X.A X.env X.xe)(hc:PT X c tc)(hb:PSs X body tb):PS X (.While c body [] pos) (Sf tc tb):=by
 intro pins s σ H D I h;obtain ⟨W,⟨m0,w0⟩,turn⟩:=h;refine wpAny_While (codeAny_whileLoop (λn s'=>∃σ' H',Inv X pins σ' H' s'/\W n σ' H') ?_ m0 ⟨σ,H,I,w0⟩);rintro n s1 ⟨σ1,H1,I1,w1⟩;refine wpAny_passesOwn hp (thn (hc pins s1 σ1 H1 _ I1 (turn n σ1 H1 w1)) λb s2 z9=>?_);obtain ⟨H2,I2,q2⟩:=z9
 cases b with
 | true=>
   obtain ⟨N,hN,q2⟩:=q2;rw [if_pos rfl];refine wpAny_passesOwn hp (thn (hb pins s2 σ1 H2 _ I2 q2) λf s3 q3=>?_)
   cases f with
   | next=>
     obtain ⟨σ3,H3,I3,n3⟩:=q3;obtain ⟨m',hm,w3⟩:=hN σ3 H3 n3;exact ⟨m',hm,σ3,H3,I3,w3⟩
   | cont=>
     obtain ⟨σ3,H3,I3,n3⟩:=q3;obtain ⟨m',hm,w3⟩:=hN σ3 H3 n3;exact ⟨m',hm,σ3,H3,I3,w3⟩
   | brk=>exact q3
   | ret v=>exact q3
 | false=>
   rw [if_neg uf1];exact wpAny_execs_nil ⟨σ1,H2,I2,q2⟩
end
structure It where
 go:Nat->Hp->Prop
 yld:Nat->Hp->V->Hp->Prop
 stop:Nat->Hp->Prop
def FpOk (X:Cx)(pins:List (Addr×Obj))(H:Hp)(b:Addr):Prop:=
 H b=none/\b≠X.env.locals/\b∉X.fs/\(b∈X.ex\/X.s₀.heap.objs.size<=b)/\(∀x c,X.env.cells.lookup x=some c->c≠b)/\∀p∈X.pn++pins,p.1≠b
theorem Inv.fpOk {H':Hp}(I:Inv X pins σ H s)(hb:s.heap.objs.size<=b)(hn:H' b=none):FpOk X pins H' b:=by
 refine ⟨hn,um1 (ue9 I.lt hb),I.nofs hb,.inr (um0 I.sz hb),λx c e z=>?_,λp hp z=>?_⟩
 ·obtain ⟨v,q⟩:=I.cell x c e;exact absurd (ue9 q.lt (by rw [z];exact hb)) (uk7 _)
 ·exact absurd (ue9 (ul8 (I.pin p hp).1) (by rw [z];exact hb)) (uk7 _)
structure Turn (P:Program)(w:World)(K:PySem.W.Frag)(tg:Expr)(J:It)(fp:List Addr)(it:Addr)(tn:Nat->Heap->Prop):Prop where
 mem:it∈fp
 obj:∀i h,tn i h->∀b∈fp,∃o,h.get? b=some o/\∀v,o.data≠.cell v
 keep:∀i h h',tn i h->(∀b∈fp,∀o,h.get? b=some o->h'.get? b=some o)->tn i h'
 item:∀(X:Cx),X.prog=P->X.w=w->X.K=K->X.calm=true->∀(i:Nat) (pins:List (Addr×Obj)) (s:Shared) (σ:St) (H:Hp) (E:Value->Shared->Prop),Inv X pins σ H s->(∀b∈fp,FpOk X pins H b)->tn i s.heap->J.go i H->
  wpAny (model P w) X.A (pyNext (.ref it)) (λr s1=>∃u,r=some u/\
   wpAny (model P w) X.A (letOwnedTupleGo tg (.ref it) u) (λ_ s2=>∃x H',Inv X pins σ H' s2/\RelV x u/\J.yld i H x H'/\tn (i + 1) s2.heap/\∀b∈fp,H' b=none) E s1) E s
 done:∀(X:Cx),X.prog=P->X.w=w->X.K=K->X.calm=true->∀(i:Nat) (pins:List (Addr×Obj)) (s:Shared) (σ:St) (H:Hp) (E:Value->Shared->Prop),Inv X pins σ H s->(∀b∈fp,FpOk X pins H b)->tn i s.heap->J.stop i H->
  wpAny (model P w) X.A (pyNext (.ref it)) (λr s1=>r=none/\Inv X pins σ H s1) E s
 self:∀(A:Around) (i:Nat) (s:Shared) (Q:Value->Shared->Prop) (E:Value->Shared->Prop),tn i s.heap->Q (.ref it) s->wpAny (model P w) A (pyIter (.ref it)) Q E s
abbrev TI:=St->Hp->(It->Hp->Prop)->Prop
def PIE (X:Cx)(pins:List (Addr×Obj))(σ:St)(tg:Expr)(R:It->Hp->Prop)(itv:Value)(s2:Shared):Prop:=
 ∃(it:Addr) (fp:List Addr) (tn:Nat->Heap->Prop) (J:It) (H':Hp),itv = .ref it/\Inv X pins σ H' s2/\Turn X.prog X.w X.K tg J fp it tn/\tn 0 s2.heap/\(∀b∈fp,FpOk X pins H' b)/\R J H'
def PI (X:Cx)(tg iter:Expr)(wi:TI):Prop:=
 ∀(pins:List (Addr×Obj)) (s:Shared) (σ:St) (H:Hp) (R:It->Hp->Prop),Inv X pins σ H s->wi σ H R->
  wpAny (model X.prog X.w) X.A (eval iter X.env) (λv s1=>wpAny (model X.prog X.w) X.A (pyIter v) (PIE X pins σ tg R) X.xe s1) X.xe s
theorem Me {M:Model}{A:Around}{it:Addr}{o:Obj}{n:String}{vs:Array Value}(ho:s.heap.get? it=some o)(hc:o.cls = .type n)(hd:o.data = .fields vs)
 (hn:["enumerate", "zip", "dict_itemiterator", "dict_reverseitemiterator", "odict_iterator", "itertools.zip_longest", "itertools.pairwise"].contains n=false) (hQ:Q () s):wpAny M A (letOwnedTupleGo tg (.ref it) u) Q E s:=by
 unfold letOwnedTupleGo
 cases tg <;> first
  | exact un3 hQ
  | (cases u <;> first
      | exact un3 hQ
      | (refine un2 (wpAny_load ho ?_)
         rw [hc,hd];show wpAny M A (if (["enumerate", "zip", "dict_itemiterator", "dict_reverseitemiterator", "odict_iterator", "itertools.zip_longest", "itertools.pairwise"].contains n && vs[0]? == some (rawInt _))=true then _ else _) Q E s;rw [if_neg (by intro h;rw [hn,uk3] at h;cases h)]
         exact un3 hQ))
def Itl (K:PySem.W.Frag)(a:Addr):It:=
 ⟨λi H=>∃xs x,SqL K H a xs/\xs[i]?=some x,λi H x H'=>H'=H/\∀xs,SqL K H a xs->xs[i]?=some x,λi H=>∃xs,SqL K H a xs/\xs.length<=i⟩
def Itt (K:PySem.W.Frag)(a:Addr):It:=
 ⟨λi H=>∃xs x,SqT K H a xs/\xs[i]?=some x,λi H x H'=>H'=H/\∀xs,SqT K H a xs->xs[i]?=some x,λi H=>∃xs,SqT K H a xs/\xs.length<=i⟩
noncomputable def Itr (lo:Int)(n:Nat):It:=⟨λi _=>i < n,λi H x H'=>H'=H/\x = .int (lo + i),λi _=>n<=i⟩
theorem Sm (a it:Addr):Turn P w K tg (Itl K a) [it] it (λi h=>h.IsListIter it a i) where
 mem:=by simp
 obj:=λi h st b hb=>by
  have e:b=it:=by simpa using hb
  subst e;obtain ⟨o,e,c,d⟩:=st;exact ⟨o,e,λv z=>by rw [d] at z;cases z⟩
 keep:=λi h h' st k=>st.at λo e=>k it (by simp) o e
 item:=by
  intro X hP hw hK hc i pins s σ H E I hf st hg;subst hP hw hK;obtain ⟨xs,x,hq,hx⟩:=hg;obtain ⟨its,rv,p,hz⟩:=I.list hq;obtain ⟨u,hu,ru⟩:=rv.get hx;obtain ⟨f0,f1,f2,f3,f4,f5⟩:=hf it (by simp);refine wpAny_pyNext_list_item st p.isList (x:=u) (by simpa using hu) λh' st' sb=>?_;have I1:Inv X pins σ H { s with heap:=h' }:=I.turned (t':=s.toks) (λb o hb e=>(sb.2 b hb).trans e) f0 f1 f3 f4 f5;obtain ⟨o,e,c,d⟩:=id st';exact ⟨u,rfl,Me (s:={ s with heap:=h' }) e c d (by decide) ⟨x,H,I1,ru,⟨rfl,λys hy=>by rw [I.list_inj hy hq];exact hx⟩,st',λb hb=>(hf b hb).1⟩⟩
 done:=by
  intro X hP hw hK hc i pins s σ H E I hf st hg;subst hP hw hK;obtain ⟨xs,hq,hx⟩:=hg;obtain ⟨its,rv,p,hz⟩:=I.list hq;obtain ⟨f0,f1,f2,f3,f4,f5⟩:=hf it (by simp);have hl:=rv.length;exact wpAny_pyNext_list_end (I.ok.hd hc) st p.isList (by simp;lia) λh' eb=>⟨rfl,I.turned (t':=s.toks) (λb o hb e=>eb b o hb e) f0 f1 f3 f4 f5⟩
 self:=λ_ _ _ _ _ st h=>wpAny_pyIter_listiter st h
theorem P8 (a it:Addr):Turn P w K tg (Itt K a) [it] it (λi h=>h.IsTupleIter it a i) where
 mem:=by simp
 obj:=λi h st b hb=>by
  have e:b=it:=by simpa using hb
  subst e;obtain ⟨o,e,c,d⟩:=st;exact ⟨o,e,λv z=>by rw [d] at z;cases z⟩
 keep:=λi h h' st k=>st.at λo e=>k it (by simp) o e
 item:=by
  intro X hP hw hK hc i pins s σ H E I hf st hg;subst hP hw hK;obtain ⟨xs,x,hq,hx⟩:=hg;obtain ⟨its,rv,p,hz⟩:=I.tuple hq;obtain ⟨u,hu,ru⟩:=rv.get hx;obtain ⟨f0,f1,f2,f3,f4,f5⟩:=hf it (by simp);refine wpAny_pyNext_tuple_item st (show s.heap.IsTuple a its.toArray from p) (x:=u) (by simpa using hu) λh' st' sb=>?_;have I1:Inv X pins σ H { s with heap:=h' }:=I.turned (t':=s.toks) (λb o hb e=>(sb.2 b hb).trans e) f0 f1 f3 f4 f5;obtain ⟨o,e,c,d⟩:=id st';exact ⟨u,rfl,Me (s:={ s with heap:=h' }) e c d (by decide) ⟨x,H,I1,ru,⟨rfl,λys hy=>by rw [I.tuple_inj hy hq];exact hx⟩,st',λb hb=>(hf b hb).1⟩⟩
 done:=by
  intro X hP hw hK hc i pins s σ H E I hf st hg;subst hP hw hK;obtain ⟨xs,hq,hx⟩:=hg;obtain ⟨its,rv,p,hz⟩:=I.tuple hq;obtain ⟨f0,f1,f2,f3,f4,f5⟩:=hf it (by simp);have hl:=rv.length;exact wpAny_pyNext_tuple_end (I.ok.hd hc) st (show s.heap.IsTuple a its.toArray from p) (by simp;lia) λh' eb=>⟨rfl,I.turned (t':=s.toks) (λb o hb e=>eb b o hb e) f0 f1 f3 f4 f5⟩
 self:=λ_ _ _ _ _ st h=>wpAny_pyIter_tupleiter st h
theorem P7 (it:Addr)(lo:Int)(n:Nat):Turn P w K tg (Itr lo n) [it] it (λi h=>IsRangeIter h it (lo + (i:Nat) * 1) ((n:Int) - (i:Nat)) 1) where
 mem:=by simp
 obj:=λi h st b hb=>by
  have e:b=it:=by simpa using hb
  subst e;exact ⟨_,st,λv z=>by
   have z':Data.fields _=Data.cell v:=z
   cases z'⟩
 keep:=λi h h' st k=>k it (by simp) _ st
 item:=by
  intro X hP hw hK hc i pins s σ H E I hf st hg;subst hP hw hK;obtain ⟨f0,f1,f2,f3,f4,f5⟩:=hf it (by simp);have W:=Walks.range (prog:=X.prog) (w:=X.w) (I.ok.hd hc) it lo 1 n;refine W.item i s _ _ hg st λv h' tk hv st' kk=>?_;obtain ⟨t,rfl⟩:=hv;have I1:Inv X pins σ H { s with heap:=h',toks:=tk }:=I.turned (λb o hb e=>kk b o (by simpa using hb) e) f0 f1 f3 f4 f5;refine ⟨_,rfl,Me (s:={ s with heap:=h',toks:=tk }) (n:="range_iterator") st' rfl rfl (by decide) ⟨.int (lo + i),H,I1,⟨t,?_⟩,⟨rfl,rfl⟩,st',λb hb=>(hf b hb).1⟩⟩;rw [Int.mul_one]
 done:=by
  intro X hP hw hK hc i pins s σ H E I hf st hg;subst hP hw hK;obtain ⟨f0,f1,f2,f3,f4,f5⟩:=hf it (by simp);exact wpAny_pyNext_range_end (I.ok.hd hc) st (by have:n<=i:=hg;lia) λh' eb=>⟨rfl,I.turned (t':=s.toks) (λb o hb e=>eb b o hb e) f0 f1 f3 f4 f5⟩
 self:=λ_ _ _ _ _ st h=>wpAny_pyIter_rangeiter st h
variable {fp:List Addr}
section
variable {X:Cx}{tg:Expr}
theorem Nt {R:It->Hp->Prop}{lo hi:Int}{t u v:Tok}{tk:Nat}(I:Inv X pins σ H s)(h1 : -(2 ^ 62)<=lo)(h2:lo < 2 ^ 62)(h3 : -(2 ^ 62)<=hi)(h4:hi < 2 ^ 62)
 (q:R (Itr lo (hi - lo).toNat) H):wpAny (model X.prog X.w) X.A (pyIter (.ref s.heap.objs.size)) (PIE X pins σ tg R) E { s with heap:=s.heap.push { cls:=.type "range",data:=.fields #[.int lo t,.int hi u,.int 1 v] },toks:=tk }:=by
 refine wpAny_pyIter_range (IsRange.new ..) (small_one h1 h2 h3 h4) ?_;have I1:Inv X pins σ H { s with heap:=s.heap.push { cls:=.type "range",data:=.fields #[.int lo t,.int hi u,.int 1 v] },toks:=tk }:=I.kept λb o e=>uc2 _ e;refine ⟨(s.heap.push { cls:=.type "range",data:=.fields #[.int lo t,.int hi u,.int 1 v] }).objs.size,[(s.heap.push { cls:=.type "range",data:=.fields #[.int lo t,.int hi u,.int 1 v] }).objs.size],_,_,H,rfl,
  I1.kept (t':=tk) λb o e=>uc2 _ e,P7 _ lo (hi - lo).toNat,?_,λb hb=>?_,q⟩
 ·have e1:lo + ((0:Nat):Int) * 1=lo:=by simp
  have e2:(((hi - lo).toNat:Nat):Int) - ((0:Nat):Int)=Builtin.Range.rangeSize lo hi 1:=by rw [rangeSize_one];split <;> lia
  show IsRangeIter _ _ (lo + ((0:Nat):Int) * 1) ((((hi - lo).toNat:Nat):Int) - ((0:Nat):Int)) 1;rw [e1,e2];exact ue3 _ rfl
 ·have e:b=(s.heap.push { cls:=.type "range",data:=.fields #[.int lo t,.int hi u,.int 1 v] }).objs.size:=by simpa using hb
  subst e;exact I1.fpOk (um8 _) (I1.hok.fresh (um8 _))
def aj (ta:TA):TI:=λσ H R=>ta σ H λvs H1=>∃j:Int,vs=[.int j]/\-(2 ^ 62)<=j/\j < 2 ^ 62/\R (Itr 0 j.toNat) H1
def ak (ta:TA):TI:=λσ H R=>ta σ H λvs H1=>∃i j:Int,vs=[.int i,.int j]/\(-(2 ^ 62)<=i/\i < 2 ^ 62/\-(2 ^ 62)<=j/\j < 2 ^ 62)/\R (Itr i (j - i).toNat) H1
theorem RB {a:Expr}{ta:TA}{p pos:Pos}(hg:Gl X "range")(hm:X.mg "range" = none)(ha:PA X [a] ta)(hs:starEach [a] X.env=[(false,eval a X.env)]:=by rfl):PI X tg (.Call (.Name "range" p) [a] [] pos) (aj ta):=by
 intro pins s σ H R I h;refine Call_ (GD I hg hm boot_range (ua2 (thn (ha pos pins s σ H _ I h) λus s1 z9=>?_) hs rfl));obtain ⟨vs,H1,I1,r1,q1⟩:=z9;obtain ⟨j,e,q1,q2,q⟩:=q1;subst e
 cases r1 with
 | cons r rr=>
   cases rr
   obtain ⟨t,rfl⟩:=r;exact call_range_1 (Nt I1 (by lia) (by lia) q1 q2 (by simpa using q))
theorem RC {a b:Expr}{ta:TA}{p pos:Pos}(hg:Gl X "range")(hm:X.mg "range" = none)(ha:PA X [a,b] ta)(hs:starEach [a,b] X.env=[(false,eval a X.env),(false,eval b X.env)]:=by rfl)(hs2:starEach [b] X.env=[(false,eval b X.env)]:=by rfl) :
 PI X tg (.Call (.Name "range" p) [a,b] [] pos) (ak ta):=by
 intro pins s σ H R I h;refine Call_ (GD I hg hm boot_range (ua2 (thn (ha pos pins s σ H _ I h) λus s1 z9=>?_) (by rw [hs,hs2]) (by rw [hs2];rfl)));obtain ⟨vs,H1,I1,r1,q1⟩:=z9;obtain ⟨i,j,e,⟨q1,q2,q3,q4⟩,q⟩:=q1;subst e
 cases r1 with
 | cons r rr=>
   cases rr with
   | cons r' rr=>
     cases rr
     obtain ⟨t,rfl⟩:=r;obtain ⟨t',rfl⟩:=r';exact call_range_2 (Nt I1 q1 q2 q3 q4 q)
def Zy (wi:TI)(g:TG)(tb:TS):TS:=λD σ H=>wi σ H λJ H1=>∃W:Nat->Nat->St->Hp->Prop,(∃m,W 0 m σ H1)/\∀i m σ H,W i m σ H->
 (J.stop i H/\D.nx σ H)\/(J.go i H/\∃N:St->Hp->Prop,(∀σ' H',N σ' H'->∃m',m' < m/\W (i + 1) m' σ' H')/\∀x H',J.yld i H x H'->g x σ H' λσ2 H2=>tb { D with nx:=N,ct:=N,bk:=D.nx } σ2 H2)
noncomputable def Iq (fp:List Addr)(h:Heap):List (Addr×Obj):=fp.filterMap λb=>(h.get? b).map λo=>(b,o)
theorem Fw {o:Obj}(hb:b∈fp)(e:h.get? b=some o):(b,o)∈Iq fp h:=List.mem_filterMap.mpr ⟨b,hb,by rw [e];rfl⟩
theorem Rp {p:Addr×Obj}(hp:p∈Iq fp h):p.1∈fp/\h.get? p.1=some p.2:=by
 obtain ⟨b,hb,e⟩:=List.mem_filterMap.mp hp
 cases q:h.get? b with
 | none=>rw [q] at e;cases e
 | some o=>
   rw [q] at e;have e':(b,o)=p:=ui5 e;subst e';exact ⟨hb,q⟩
theorem Inv.pinned (I:Inv X pins σ H s)(hf:∀b∈fp,FpOk X pins H b)(ho:∀b∈fp,∃o,s.heap.get? b=some o/\∀v,o.data≠.cell v):Inv X (pins++Iq fp s.heap) σ H s:=
 I.pins_of λp hp=>(ui4.mp hp).elim (λz=>I.pin p (ud1 _ z)) λz=>by
  obtain ⟨hb,e⟩:=Rp z;obtain ⟨f0,f1,f2,_⟩:=hf p.1 hb;obtain ⟨o,e',d⟩:=ho p.1 hb;rw [e] at e';cases e'
  exact ⟨e,f0,f1,f2,d⟩
theorem Inv.unpinned {pl:List (Addr×Obj)}(I:Inv X (pins++pl) σ H s):Inv X pins σ H s:=I.pins_of λp hp=>I.pin p (ud1 _ (List.mem_append_left _ hp))
theorem YY {iter:Expr}{body:List Stmt}{wi:TI}{g:TG}{tb:TS}{pos:Pos}(hp:PassesOwn (model X.prog X.w) X.A X.env X.xe)(hc:X.calm=true)(hi:PI X tg iter wi)(hg:PG X tg g)(hb:PSs X body tb)
 (hs:∀x,foldedSetIterable iter X.env x=pure x:=by intro _;rfl):PS X (.For tg iter body [] pos) (Zy wi g tb):=by
 intro pins s σ H D I h;refine wpAny_For (thn (hi pins s σ H _ I h) λv s1 h1=>thn h1 λitv s2 h2=>?_) hs;obtain ⟨it,fp,tn,J,H2,e,I2,T,st2,f2,W,⟨m0,w0⟩,turn⟩:=h2;subst e
 -- what stays true of the iterator's objects through the loop
 have stat:∀{H':Hp},(∀b∈fp,H' b=none)->∀b∈fp,FpOk X pins H' b:=λhn b hb=>⟨hn b hb,(f2 b hb).2⟩;refine codeAny_forLoop_any (λn s'=>∃i σ' H',Inv X pins σ' H' s'/\tn i s'.heap/\(∀b∈fp,H' b=none)/\W i n σ' H') ?_ m0 ⟨0,σ,H2,I2,st2,λb hb=>(f2 b hb).1,w0⟩;rintro n s3 ⟨i,σ3,H3,I3,st3,fr3,w3⟩;rcases turn i n σ3 H3 w3 with ⟨stop,qn⟩ | ⟨go,N,hN,step⟩
 ·refine wpAny_passesOwn hp (thn (T.done X rfl rfl rfl hc i pins s3 σ3 H3 X.xe I3 (stat fr3) st3 stop) λr s4 z9=>?_);obtain ⟨hr,I4⟩:=z9;subst hr;exact wpAny_execs_nil ⟨σ3,H3,I4,qn⟩
 ·refine wpAny_passesOwn hp (thn (T.item X rfl rfl rfl hc i pins s3 σ3 H3 X.xe I3 (stat fr3) st3 go) λr s4 z9=>?_);obtain ⟨u,hr,h4⟩:=z9;subst hr;refine wpAny_passesOwn hp (thn h4 λ_ s5 z9=>?_);obtain ⟨x,H5,I5,r5,y5,st5,fr5⟩:=z9;have I5':=I5.pinned (stat fr5) (T.obj _ _ st5);refine wpAny_passesOwn hp (thn (hg _ s5 σ3 H5 x u _ I5' r5 (step x H5 y5)) λ_ s6 z9=>?_);obtain ⟨σ6,H6,I6,q6⟩:=z9;refine wpAny_passesOwn hp (thn (hb _ s6 σ6 H6 _ I6 q6) λf s7 q7=>?_);have again:∀{σ7:St} {H7:Hp},Inv X (pins++Iq fp s5.heap) σ7 H7 s7->N σ7 H7->∃m,m < n/\∃i σ' H',Inv X pins σ' H' s7/\tn i s7.heap/\(∀b∈fp,H' b=none)/\W i m σ' H':=λ{σ7 H7} I7 n7=>by
   obtain ⟨m',hm,w7⟩:=hN σ7 H7 n7;refine ⟨m',hm,i + 1,σ7,H7,I7.unpinned,T.keep _ _ _ st5 λb hb o e=>(I7.pin (b,o) (ud1 _ (ud1 _ (Fw hb e)))).1,λb hb=>?_,w7⟩;obtain ⟨o,e,d⟩:=T.obj _ _ st5 b hb;exact (I7.pin (b,o) (ud1 _ (ud1 _ (Fw hb e)))).2.1
  cases f with
  | next=>obtain ⟨σ7,H7,I7,n7⟩:=q7;exact again I7 n7
  | cont=>obtain ⟨σ7,H7,I7,n7⟩:=q7;exact again I7 n7
  | brk=>obtain ⟨σ7,H7,I7,q7⟩:=q7;exact ⟨σ7,H7,I7.unpinned,q7⟩
  | ret v=>obtain ⟨x7,σ7,H7,I7,r7,q7⟩:=q7;exact ⟨x7,σ7,H7,I7.unpinned,r7,q7⟩
end
abbrev R2:=V->V->Hp->VK->Prop
def OpR (X:Cx)(f:Value->Value->Sem Value)(r:R2):Prop:=
 ∀(pins:List (Addr×Obj)) (s:Shared) (σ:St) (H:Hp) (x y:V) (v u:Value) (Q:VK),Inv X pins σ H s->RelV x v->RelV y u->r x y H Q->
  wpAny (model X.prog X.w) X.A (f v u) (EP X pins σ Q) X.xe s
def UnR (X:Cx)(f:Value->Sem Value)(r:V->Hp->VK->Prop):Prop:=
 ∀(pins:List (Addr×Obj)) (s:Shared) (σ:St) (H:Hp) (x:V) (v:Value) (Q:VK),Inv X pins σ H s->RelV x v->r x H Q->
  wpAny (model X.prog X.w) X.A (f v) (EP X pins σ Q) X.xe s
def Dw (X:Cx)(f:Value)(r:List V->Hp->VK->Prop):Prop:=
 ∀(pins:List (Addr×Obj)) (s:Shared) (σ:St) (H:Hp) (xs:List V) (us:List Value) (Q:VK),Inv X pins σ H s->Vals xs us->r xs H Q->
  wpAny (model X.prog X.w) X.A (call f us) (EP X pins σ Q) X.xe s
def tOp (r:R2)(ta tb:TE):TE:=λσ H Q=>ta σ H λx H1=>tb σ H1 λy H2=>r x y H2 Q
def tUn (r:V->Hp->VK->Prop)(ta:TE):TE:=λσ H Q=>ta σ H λx H1=>r x H1 Q
def rI (C:Int->Int->Prop)(g:Int->Int->V):R2:=λx y H Q=>∃i j,x = .int i/\y = .int j/\C i j/\Q (g i j) H
def rI0 (g:Int->Int->V):R2:=λx y H Q=>∃i j,x = .int i/\y = .int j/\Q (g i j) H
def rU (g:Int->V):V->Hp->VK->Prop:=λx H Q=>∃i,x = .int i/\Q (g i) H
variable {r:R2}{f:Value->Value->Sem Value}
section
variable {X:Cx}{a b c:Expr}{ta tb tc:TE}{pos:Pos}
theorem SM (ha:PE X a ta)(hb:PE X b tb){pins:List (Addr×Obj)}{s:Shared}{σ:St}{H:Hp}{R:V->V->Hp->Prop}(I:Inv X pins σ H s)
 (h:ta σ H λx H1=>tb σ H1 λy H2=>R x y H2) {Q:Value->Shared->Prop} {f:Value->Value->Sem Value}
 (hf:∀v u s2 x y H2,Inv X pins σ H2 s2->RelV x v->RelV y u->R x y H2->wpAny (model X.prog X.w) X.A (f v u) Q X.xe s2) :
 wpAny (model X.prog X.w) X.A (eval a X.env) (λv s₁=>wpAny (model X.prog X.w) X.A (eval b X.env) (λu s₂=>wpAny (model X.prog X.w) X.A (f v u) Q X.xe s₂) X.xe s₁) X.xe s:=by
 refine thn (ha pins s σ H _ I h) λv s1 z9=>?_;obtain ⟨x,H1,I1,r1,q1⟩:=z9;refine thn (hb pins s1 σ H1 _ I1 q1) λu s2 z9=>?_;obtain ⟨y,H2,I2,r2,q2⟩:=z9;exact hf v u s2 x y H2 I2 r1 r2 q2
theorem PN {op:Operator}(ho:OpR X (binaryOp op) r)(ha:PE X a ta)(hb:PE X b tb):PE X (.BinOp a op b pos) (tOp r ta tb):=by
 intro pins s σ H Q I h;exact wpAny_BinOp (SM ha hb I h λv u s2 x y H2 I2 rx ry q=>ho pins s2 σ H2 x y v u Q I2 rx ry q)
theorem aw {op:UnaryOp}{r:V->Hp->VK->Prop}(ho:UnR X (unaryOp op) r)(ha:PE X a ta):PE X (.UnaryOp op a pos) (tUn r ta):=by
 intro pins s σ H Q I h;exact UnaryOp_ (thn (ha pins s σ H _ I h) λv s1 z9=>by obtain ⟨x,H1,I1,r1,q1⟩:=z9;exact ho pins s1 σ H1 x v Q I1 r1 q1)
theorem opI {C:Int->Int->Prop}{g:Int->Int->Int}
 (rule:∀(i j:Int) (t u:Tok) (s:Shared) (Q:Value->Shared->Prop) (E:Value->Shared->Prop),C i j->Q (.int (g i j) s.toks) { s with toks:=s.toks + 1 }->wpAny (model X.prog X.w) X.A (f (.int i t) (.int j u)) Q E s) :
 OpR X f (rI C λi j=>.int (g i j)):=by
 intro pins s σ H x y v u Q I rx ry h;obtain ⟨i,j,rfl,rfl,hc,q⟩:=h;obtain ⟨t,rfl⟩:=rx;obtain ⟨t',rfl⟩:=ry;exact rule i j t t' s _ _ hc ⟨.int (g i j),H,I.tok _,⟨_,rfl⟩,q⟩
theorem Yy {g:Int->Int->Int}
 (rule:∀(i j:Int) (t u:Tok) (s:Shared) (Q:Value->Shared->Prop) (E:Value->Shared->Prop),Q (.int (g i j) s.toks) { s with toks:=s.toks + 1 }->wpAny (model X.prog X.w) X.A (f (.int i t) (.int j u)) Q E s) :
 OpR X f (rI0 λi j=>.int (g i j)):=by
 intro pins s σ H x y v u Q I rx ry h;obtain ⟨i,j,rfl,rfl,q⟩:=h;obtain ⟨t,rfl⟩:=rx;obtain ⟨t',rfl⟩:=ry;exact rule i j t t' s _ _ ⟨.int (g i j),H,I.tok _,⟨_,rfl⟩,q⟩
theorem PL {g:Int->Int->Bool}
 (rule:∀(i j:Int) (t u:Tok) (s:Shared) (Q:Value->Shared->Prop) (E:Value->Shared->Prop),Q (.bool (g i j)) s->wpAny (model X.prog X.w) X.A (f (.int i t) (.int j u)) Q E s) :
 OpR X f (rI0 λi j=>.bl (g i j)):=by
 intro pins s σ H x y v u Q I rx ry h;obtain ⟨i,j,rfl,rfl,q⟩:=h;obtain ⟨t,rfl⟩:=rx;obtain ⟨t',rfl⟩:=ry;exact rule i j t t' s _ _ ⟨.bl (g i j),H,I,rfl,q⟩
def Xr (i j:Int):Prop:=0 < j/\j < 1073741824
def Xs (i j:Int):Prop:=0<=j/\j<=1000000/\i.natAbs < 2 ^ 64
def CMul (i j:Int):Prop:=(-(2 ^ 64) < i/\i < 2 ^ 64)\/(-(2 ^ 64) < j/\j < 2 ^ 64)
theorem CMul.ok {i j:Int}(h:CMul i j):IntMulOk i j:=by
 rcases h with ⟨h1,h2⟩ | ⟨h1,h2⟩
 ·exact .of_left (intBits_le_64 h1 h2)
 ·exact .of_right (intBits_le_64 h1 h2)
theorem two_pow_nn (k:Nat):(0:Int)<=2 ^ k:=by
 rw [two_pow_cast];exact Int.natCast_nonneg _
theorem op_add:OpR X (binaryOp .Add) (rI0 λi j=>.int (i + j)):=Yy λ_ _ _ _ _ _ _ q=>add_int q
theorem YH:OpR X (binaryOp .Sub) (rI0 λi j=>.int (i - j)):=Yy λ_ _ _ _ _ _ _ q=>sub_int q
theorem op_mul:OpR X (binaryOp .Mult) (rI CMul λi j=>.int (i * j)):=opI λ_ _ _ _ _ _ _ hc q=>mul_int q hc.ok
theorem We:OpR X (binaryOp .FloorDiv) (rI Xr λi j=>.int (i / j)):=opI λi j _ _ _ _ _ hc q=>by
 have h1:(0:Int) < j:=hc.1;have h2:j < 1073741824:=hc.2;exact floordiv_int (by lia) (by rw [Int.fdiv_eq_ediv_of_nonneg i (by lia)];exact q) (.inl (PyProof.noPylong_small (by lia)))
theorem YD:OpR X (binaryOp .Mod) (rI (λ_ j=>0 < j) λi j=>.int (i % j)):=opI λi j _ _ _ _ _ hc q=>by
 have h1:(0:Int) < j:=hc;exact mod_int' (by lia) (by rw [Int.fmod_eq_emod_of_nonneg i (by lia)];exact q)
theorem YE:OpR X (binaryOp .Pow) (rI Xs λi j=>.int (i ^ j.toNat)):=opI λ_ _ _ _ _ _ _ hc q=>pow_int_small hc.1 hc.2.1 hc.2.2 q
theorem YG:OpR X (binaryOp .RShift) (rI (λ_ j=>0<=j) λi j=>.int (i / 2 ^ j.toNat)):=opI λi j _ _ _ _ _ hc q=>
 rshift_int hc (by rw [Int.fdiv_eq_ediv_of_nonneg i (two_pow_nn _)];exact q)
theorem unI {f:Value->Sem Value}{g:Int->Int}
 (rule:∀(i:Int) (t:Tok) (s:Shared) (Q:Value->Shared->Prop) (E:Value->Shared->Prop),Q (.int (g i) s.toks) { s with toks:=s.toks + 1 }->wpAny (model X.prog X.w) X.A (f (.int i t)) Q E s) :
 UnR X f (rU λi=>.int (g i)):=by
 intro pins s σ H x v Q I rx h;obtain ⟨i,rfl,q⟩:=h;obtain ⟨t,rfl⟩:=rx;exact rule i t s _ _ ⟨.int (g i),H,I.tok _,⟨_,rfl⟩,q⟩
theorem ZD:UnR X (unaryOp .USub) (rU λi=>.int (-i)):=unI λ_ _ _ _ _ q=>neg_int q
end
variable {op:CmpOp}{us:List Value}
section
variable {X:Cx}{a b c:Expr}{ta tb tc:TE}{pos:Pos}
theorem op_lt:OpR X (compareOp .Lt) (rI0 λi j=>.bl (decide (i < j))):=PL λ_ _ _ _ _ _ _ q=>lt_int q
theorem op_le:OpR X (compareOp .LtE) (rI0 λi j=>.bl (decide (i<=j))):=PL λ_ _ _ _ _ _ _ q=>le_int q
theorem op_gt:OpR X (compareOp .Gt) (rI0 λi j=>.bl (decide (j < i))):=PL λ_ _ _ _ _ _ _ q=>gt_int q
theorem op_ge:OpR X (compareOp .GtE) (rI0 λi j=>.bl (decide (j<=i))):=PL λ_ _ _ _ _ _ _ q=>ge_int q
theorem OpR.or {r':R2}(h:OpR X f r)(h':OpR X f r'):OpR X f (λx y H Q=>r x y H Q\/r' x y H Q):=by
 intro pins s σ H x y v u Q I rx ry q;rcases q with q | q
 ·exact h pins s σ H x y v u Q I rx ry q
 ·exact h' pins s σ H x y v u Q I rx ry q
theorem D5 (b:Expr){op:CmpOp}(h:op≠.In:=by decide)(h2:op≠.NotIn:=by decide):behindInMarks op b=false:=by
 have e1:(op == CmpOp.In)=false:=by cases op <;> first | rfl | exact absurd rfl h
 have e2:(op == CmpOp.NotIn)=false:=by cases op <;> first | rfl | exact absurd rfl h2
 cases b <;> simp [behindInMarks,e1,e2]
theorem Wn (ho:OpR X (compareOp op) r)(ha:PE X a ta)(hb:PE X b tb)(hm:behindInMarks op b=false):PE X (.Compare a [op] [b] pos) (tOp r ta tb):=by
 intro pins s σ H Q I h;exact wpAny_Compare1 (SM ha hb I h λv u s2 x y H2 I2 rx ry q=>ho pins s2 σ H2 x y v u Q I2 rx ry q) hm
def aP (t:TE):TT:=λσ H Q=>t σ H λx H'=>∃k,x = .bl k/\Q k H'
theorem WE (ho:OpR X (compareOp op) r)(ha:PE X a ta)(hb:PE X b tb)(hm:behindInMarks op b=false):PT X (.Compare a [op] [b] pos) (aP (tOp r ta tb)):=by
 intro pins s σ H Q I h;refine wpAny_isTrue_Compare1 (thn (ha pins s σ H _ I h) λv s1 ⟨x,H1,I1,r1,q1⟩=>thn (hb pins s1 σ H1 _ I1 q1) λu s2 ⟨y,H2,I2,r2,q2⟩=>
  thn (ho pins s2 σ H2 x y v u _ I2 r1 r2 q2) λc s3 ⟨z,H3,I3,r3,k,e,q3⟩=>?_) hm
 subst e
 cases r3
 exact wpAny_truthy_bool ⟨H3,I3,q3⟩
def Se (r r':R2)(ta tb tc:TE):TE:=λσ H Q=>ta σ H λx H1=>tb σ H1 λy H2=>r x y H2 λz H3=>∃k,z = .bl k/\
 (if k=true then tc σ H3 λw' H4=>r' y w' H4 Q else Q (.bl false) H3)
theorem T5 {op':CmpOp}{r':R2}(ho:OpR X (compareOp op) r)(ho':OpR X (compareOp op') r')(ha:PE X a ta)(hb:PE X b tb)(hc:PE X c tc)
 (hm:lastMarks [op,op'] [b,c]=false:=by with_unfolding_all rfl):PE X (.Compare a [op,op'] [b,c] pos) (Se r r' ta tb tc):=by
 intro pins s σ H Q I h;refine Compare_chain (thn (ha pins s σ H _ I h) λv s1 ⟨x,H1,I1,r1,q1⟩=>chain_link (thn (hb pins s1 σ H1 _ I1 q1) λu s2 ⟨y,H2,I2,r2,q2⟩=>
  thn (ho pins s2 σ H2 x y v u _ I2 r1 r2 q2) λd s3 ⟨z,H3,I3,r3,k,e,q3⟩=>?_)) hm
 subst e
 cases r3
 refine wpAny_truthy_bool ?_
 cases k with
 | false=>exact ite_ff ⟨.bl false,H3,I3,rfl,q3⟩
 | true=>exact ite_tt (chain_last (thn (hc pins s3 σ H3 _ I3 q3) λw' s4 z9=>by obtain ⟨z',H4,I4,r4,q4⟩:=z9;exact ho' pins s4 σ H4 y z' u w' Q I4 r2 r4 q4))
theorem Kh:(sizeLine:Nat) < 2 ^ 63:=by rw [sizeLine_eq];decide
theorem op_add_str:OpR X (binaryOp .Add) (λx y H Q=>∃i j,x = .str i/\y = .str j/\i.length + j.length<=sizeLine/\Q (.str (i++j)) H):=by
 intro pins s σ H x y v u Q I rx ry h;obtain ⟨i,j,rfl,rfl,hz,q⟩:=h;obtain ⟨t,rfl⟩:=rx;obtain ⟨t',rfl⟩:=ry;exact add_str (λt' tk=>⟨.str (i++j),H,I.tok _,⟨_,rfl⟩,q⟩) hz
theorem Hv {x:V}(r:Vals [x] us):∃u,us=[u]/\RelV x u:=by
 cases r with
 | cons r1 r2=>cases r2;exact ⟨_,rfl,r1⟩
theorem aS {x y:V}(r:Vals [x,y] us):∃u w',us=[u,w']/\RelV x u/\RelV y w':=by
 cases r with
 | cons r1 r2=>
   cases r2 with
   | cons r3 r4=>cases r4;exact ⟨_,_,rfl,r1,r3⟩
theorem Qr:Dw X (.type "int") (λxs H Q=>(∃i,xs=[.int i]/\Q (.int i) H)\/∃k,xs=[.bl k]/\Q (.int (if k then 1 else 0)) H):=by
 intro pins s σ H xs us Q I r h;rcases h with ⟨i,rfl,q⟩ | ⟨k,rfl,q⟩
 ·obtain ⟨u,rfl,t,rfl⟩:=Hv r;exact call_int_int ⟨.int i,H,I,⟨_,rfl⟩,q⟩
 ·obtain ⟨u,rfl,r1⟩:=Hv r
  cases r1
  exact call_int_bool ⟨.int (if k then 1 else 0),H,I.tok _,⟨_,rfl⟩,q⟩
theorem ST:Dw X (.builtin "ord") (λxs H Q=>∃x,xs=[.str x]/\x.length=1/\Q (.int (x.cps.getD 0 0:Nat)) H):=by
 intro pins s σ H xs us Q I r h;obtain ⟨x,rfl,hz,q⟩:=h;obtain ⟨u,rfl,t,rfl⟩:=Hv r;exact ord_of_one hz ⟨.int _,H,I.tok _,⟨_,rfl⟩,q⟩
def Xu (K:PySem.W.Frag)(x:V)(H:Hp)(n:Nat):Prop:=
 match x with
 | .str y=>y.length<=sizeLine/\n=y.length
 | .byt y=>y.size<=sizeLine/\n=y.size
 | .ref p=>(∃xs,SqL K H p xs/\n=xs.length)\/∃xs,SqT K H p xs/\n=xs.length
 | _=>False
theorem SS:Dw X (.builtin "len") (λxs H Q=>∃x n,xs=[x]/\Xu X.K x H n/\Q (.int n) H):=by
 intro pins s σ H xs us Q I r h;obtain ⟨x,n,rfl,e,q⟩:=h;obtain ⟨u,rfl,rx⟩:=Hv r;have hl:=Kh;have hs:sizeLine=16777216:=sizeLine_eq
 cases x with
 | str y=>
   obtain ⟨t,rfl⟩:=rx;obtain ⟨hy,e'⟩:y.length<=sizeLine/\n=y.length:=e;subst e';exact len_str (by lia) ⟨.int _,H,I.tok _,⟨_,rfl⟩,q⟩
 | byt y=>
   obtain ⟨t,rfl⟩:=rx;obtain ⟨hy,e'⟩:y.size<=sizeLine/\n=y.size:=e;subst e';exact PySem.W.len_bytes (by lia) ⟨.int _,H,I.tok _,⟨_,rfl⟩,q⟩
 | ref p=>
   cases rx
   have e':(∃xs,SqL X.K H p xs/\n=xs.length)\/∃xs,SqT X.K H p xs/\n=xs.length:=e;rcases e' with ⟨xs,hx,e'⟩ | ⟨xs,hx,e'⟩
   ·subst e';obtain ⟨its,r',pl,hz⟩:=I.list hx;have hlen:=r'.length;exact Calls.call_len_list pl.isList (by simp only [ug0];lia) ⟨.int xs.length,H,I.tok _,⟨_,by simp only [ug0];rw [hlen]⟩,q⟩
   ·subst e';obtain ⟨its,r',pl,hz⟩:=I.tuple hx;have hlen:=r'.length;exact len_tuple pl (by simp only [ug0];lia) ⟨.int xs.length,H,I.tok _,⟨_,by simp only [ug0];rw [hlen]⟩,q⟩
 | _=>exact (show False from e).elim
end
structure ObjM (h:Heap)(x dx C:Addr)(mA:Str->Option Value):Prop where
 obj:h.get? x=some (PySem.W.instObj C dx)
 ns:h.Ns1 dx mA
 ne:dx≠x
theorem Ib {dx:Addr}{mA:Str->Option Value}(n:h.Ns1 dx mA):∃od,h.get? dx=some od/\∀name,PySem.W.lookIn name od=some (mA name):=by
 obtain ⟨o,es,ep,ho,hd,hk,_,hm⟩:=n;refine ⟨o,ho,λname=>?_⟩;have e:=hm name;unfold nsFind findBy at e;rw [<-uf2] at e;unfold PySem.W.lookIn;rw [hd];dsimp only
 split
 ·rename_i y q;rw [q] at e;exact congrArg some e
 ·rename_i q;rw [q] at e;have a:es.toList.any (·.refKey)=false:=by
   rw [List.any_eq_false];intro y hy;obtain ⟨z,t,hkey⟩:=hk y (Array.mem_toList_iff.mp hy);simp [DictEntry.refKey,hkey]
  have a':¬es.toList.any (·.refKey)=true:=by rw [a];exact uf1
  rw [if_neg a'];exact congrArg some e
variable {C:Addr}
theorem ObjM.look {x dx:Addr}{mA:Str->Option Value}(I:ObjM h x dx C mA):∃od,PySem.W.InstAt h x (PySem.W.instObj C dx) C (some od)/\∀name,PySem.W.lookIn name od=some (mA name):=
 let ⟨od,ho,hl⟩:=Ib I.ns
 ⟨od,⟨I.obj,rfl,rfl,ho⟩,hl⟩
variable {pl:Sem Bool}{kw:List (Str×Value)}
section
variable {prog:Program}{w:World}{A:Around}{E:Value->Shared->Prop}{s:Shared}{K:PySem.W.Frag}{x dx C f:Addr}{mA:Str->Option Value}{name:Str}{v:Value}
theorem VO {expr:Bool}{Q:Value->Shared->Prop}(X:K.In s.heap)(I:ObjM s.heap x dx C mA)(hg:PySem.W.plainGet K C name=true)(hh:PySem.W.hasDictIn K C=true)
 (ha:PySem.W.findIn K (.ref C) name=some none) (hv:mA name=some v) (hv':PySem.W.handedIn v=true) (h:Q v { s with toks:=s.toks + 1 }) :
 wpAny (model prog w) A (getAttr (.ref x) name expr) Q E s:=by
 obtain ⟨od,J,hl⟩:=I.look;exact PySem.W.get_value X J (ue4 hg).1 (PySem.W.findObj_own hh ha rfl (by rw [hl,hv])) hv' h
theorem To {Q:Value×List Value->Shared->Prop}(X:K.In s.heap)(I:ObjM s.heap x dx C mA)(hg:PySem.W.plainGet K C name=true)
 (hf:PySem.W.findIn K (.ref C) name=some (some (.ref f))) (ht:PySem.W.isFn K (.ref f)=true) (hv:mA name=none) (h:Q (.ref f,[.ref x]) s) :
 wpAny (model prog w) A (getMethod (.ref x) name pl) Q E s:=by
 obtain ⟨od,J,hl⟩:=I.look;exact PySem.W.method_fn X J (ue4 hg).1 (ue4 hg).2 hf (beq_iff_eq.mp ht) (by show (PySem.W.lookIn name od).map (·.isSome)=some false;rw [hl,hv];rfl) h
theorem W8 {ns:List Str}(X:K.In s.heap)(I:ObjM s.heap x dx C mA)
 (hs:PySem.W.findIn K (.ref C) "__setattr__" = some (some (.builtin "object.__setattr__"))) (hp:PySem.W.plainOver K C=true) (ht:PySem.W.takerIn K C name=some none) (hh:PySem.W.hasDictIn K C=true)
 (hw:PySem.Within mA ns) (hsz:ns.length<=sizeLine)
 (h:∀h',ObjM h' x dx C (λy=>if y=name then some v else mA y)->Heap.SameBut dx s.heap h'->Q () { s with heap:=h',toks:=s.toks + 2 }) :
 wpAny (model prog w) A (setAttr (.ref x) name v) Q E s:=by
 obtain ⟨od,J,hl⟩:=I.look;refine PySem.W.set_plain X J hs (PySem.W.osa_open (s:={ s with toks:=s.toks + 1 }) (r:=none) X J hp ht λb=>?_);obtain ⟨cd,hc,hd'⟩:=PySem.W.any_some hh;have hx:s.heap.get? x=some ⟨.ref C,some dx,.plain,#[]⟩:=I.obj;refine un2 (un3 (un2 (un2 (wpAny_loadPart hx (un2 (PySem.W.Looks.here (s:={ s with toks:=s.toks + 1 }) (PySem.W.looks_clsIn X hc) ?_))))));rw [hd'];refine un3 (a:=some dx) (un2 (un3 (un2 ?_)));refine wpAny_nsSet1 (s:={ s with toks:=s.toks + 1 }) I.ns λh' hn2 hs2=>?_;obtain ⟨oD,esD,epD,hoD,hdD,hcD⟩:=hn2.count (PySem.Within.cons name v hw);refine un2 (wpAny_lookBehind hoD (by rw [hdD];exact pastItsLine_dict (um0 hcD (by rw [uh1];lia))) ?_);exact un3 (h _ ⟨(hs2.2 _ (Ne.symm I.ne)).trans I.obj,hn2,I.ne⟩ hs2)
theorem TM {R:Result->Shared->Prop}{vs:List Value}(X:K.In s.heap)(hm:PySem.W.makesIn K C=true)
 (hi:PySem.W.findIn K (.ref C) "__init__" = some (some (.ref f))) (hf:PySem.W.typeIn K (.ref f)=some (.type "function"))
 (h:codeAny (model prog w) (A.under (.builtin "type.__call__" ⟨.ref C :: vs,kw⟩)) (.call (.ref f) ⟨.ref (s.heap.objs.size + 1) :: vs,kw⟩) (PySem.W.InitBack (s.heap.objs.size + 1) R)
   { s with heap:=(s.heap.push PySem.W.emptyDict).push (PySem.W.instObj C s.heap.objs.size) }) :
 codeAny (model prog w) A (.call (.ref C) ⟨vs,kw⟩) R s:=by
 obtain ⟨hh,g,d,t,os⟩:=s;exact PySem.W.make_core (PySem.W.makes_of X hm) (PySem.W.looks_findIn X hi) (λself=>PySem.W.bind_fn X self hf) (.inl rfl) h
end
def Dh (f:Str)(v:V):List (Str×V)->List (Str×V)
 | []=>[(f,v)]
 | (g,x) :: r=>if g=f then (g,v) :: r else (g,x) :: Dh f v r
theorem Jd (f g:Str)(v:V):∀fs:List (Str×V),(Dh f v fs).lookup g=if g=f then some v else fs.lookup g
 | []=>by
   show List.lookup g [(f,v)]=_
   by_cases h:g=f
   ·have hb:(g == f)=true:=beq_iff_eq.mpr h;simp only [List.lookup,hb,if_pos h]
   ·have hb:(g == f)=false:=beq_eq_false_iff_ne.mpr h;simp only [List.lookup,hb,if_neg h]
 | (k,x) :: r=>by
   have ih:=Jd f g v r;rw [show Dh f v ((k,x) :: r)=(if k=f then (k,v) :: r else (k,x) :: Dh f v r) from rfl]
   by_cases hk:k=f
   ·rw [if_pos hk]
    by_cases h:g=k
    ·have hb:(g == k)=true:=beq_iff_eq.mpr h;simp only [List.lookup,hb,if_pos (h.trans hk)]
    ·have hb:(g == k)=false:=beq_eq_false_iff_ne.mpr h;simp only [List.lookup,hb,if_neg (λe:g=f=>h (e.trans hk.symm))]
   ·rw [if_neg hk]
    by_cases h:g=k
    ·have hb:(g == k)=true:=beq_iff_eq.mpr h;simp only [List.lookup,hb,if_neg (λe:g=f=>hk (h.symm.trans e))]
    ·have hb:(g == k)=false:=beq_eq_false_iff_ne.mpr h;simp only [List.lookup,hb];exact ih
theorem H9 (f:Str)(v:V):∀fs:List (Str×V),f∈(Dh f v fs).map (·.1)/\∀g,g∈fs.map (·.1)->g∈(Dh f v fs).map (·.1)
 | []=>⟨by simp [Dh],λg h=>by simp at h⟩
 | (k,x) :: r=>by
   obtain ⟨i1,i2⟩:=H9 f v r;rw [show Dh f v ((k,x) :: r)=(if k=f then (k,v) :: r else (k,x) :: Dh f v r) from rfl]
   by_cases hk:k=f
   ·rw [if_pos hk];subst hk;exact ⟨by simp,λg h=>by simpa using h⟩
   ·rw [if_neg hk];refine ⟨?_,λg h=>?_⟩
    ·rw [uk9];exact ud8 _ i1
    ·rw [uk9] at h ⊢;rcases uk8.mp h with e | e
     ·exact uk8.mpr (.inl e)
     ·exact ud8 _ (i2 g e)
theorem Ja (f:Str)(v:V):∀fs:List (Str×V),(Dh f v fs).length<=fs.length + 1
 | []=>by simp [Dh]
 | (k,x) :: r=>by
   have ih:=Ja f v r;rw [show Dh f v ((k,x) :: r)=(if k=f then (k,v) :: r else (k,x) :: Dh f v r) from rfl]
   by_cases hk:k=f
   ·rw [if_pos hk,uh1,uh1];lia
   ·rw [if_neg hk,uh1,uh1];lia
theorem RelO.some_of {o:Option Value}(r:RelO (some v) o):∃u,o=some u/\RelV v u:=by
 cases o with
 | none=>exact (show False from r).elim
 | some u=>exact ⟨u,rfl,r⟩
theorem RelO.none_of {o:Option Value}(r:RelO none o):o=none:=by
 cases o with
 | none=>rfl
 | some u=>exact (show False from r).elim
theorem LD (r:RelV v u):PySem.W.handedIn u=true:=by
 cases v with
 | non=>cases (show u=Value.none from r);rfl
 | bl b=>cases (show u=Value.bool b from r);rfl
 | int i=>obtain ⟨t,e⟩:=(show ∃t,u=Value.int i t from r);cases e;rfl
 | str x=>obtain ⟨t,e⟩:=(show ∃t,u=Value.str x t from r);cases e;rfl
 | byt b=>obtain ⟨t,e⟩:=(show ∃t,u=Value.bytes b t from r);cases e;rfl
 | flt b=>obtain ⟨t,e⟩:=(show ∃t,u=Value.float b t from r);cases e;rfl
 | ref a=>cases (show u=Value.ref a from r);rfl
 | ty n=>cases (show u=Value.type n from r);rfl
section
variable {P:Program}{w:World}{H H':Hp}{h h':Heap}{a C dx:Addr}{fs fs':List (Str×V)}
theorem IL (hok:HOk P w H h)(e:H a=some (.ins C dx fs)):∃mA,ObjM h a dx C mA/\(∀f,RelO (fs.lookup f) (mA f))/\PySem.Within mA (fs.map (·.1))/\fs.length<=1000/\H dx=some (.own a):=by
 obtain ⟨d,z,ne,ob,mA,n,r,q⟩:=(show ObjOk P w H h a (.ins C dx fs) from hok a _ e);exact ⟨mA,⟨ob,n,ne⟩,r,q,z,d⟩
end
structure Cls (K:PySem.W.Frag)(C:Addr):Prop where
 pg:PySem.W.plainGet K C Str.empty=true
 hd:PySem.W.hasDictIn K C=true
 po:PySem.W.plainOver K C=true
 sa:PySem.W.findIn K (.ref C) "__setattr__" = some (some (.builtin "object.__setattr__"))
theorem Cls.get {K:PySem.W.Frag}{C:Addr}(c:Cls K C)(f:Str):PySem.W.plainGet K C f=true:=c.pg
def NoAttr (K:PySem.W.Frag)(C:Addr)(f:Str):Prop:=PySem.W.findIn K (.ref C) f=some none
theorem NoAttr.taker {f:Str}(n:NoAttr K C f):PySem.W.takerIn K C f=some none:=by
 unfold PySem.W.takerIn;rw [show PySem.W.findIn K (.ref C) f=some none from n];rfl
structure Con (K:PySem.W.Frag)(C:Addr)(f:Str)(v:V)(u:Value):Prop where
 at_:PySem.W.findIn K (.ref C) f=some (some u)
 rel:RelV v u
 get:PySem.W.specialIn K u "__get__" = some none
 cp:PySem.W.copiedNames.contains f=false
structure Meth (K:PySem.W.Frag)(C:Addr)(m:Str)(f:Addr):Prop where
 at_:PySem.W.findIn K (.ref C) m=some (some (.ref f))
 fn:PySem.W.isFn K (.ref f)=true
 kp:PySem.W.keepIn K (.ref f)=true
section
variable {X:Cx}{pins:List (Addr×Obj)}{σ:St}{H:Hp}{s:Shared}{a C dx:Addr}{fs:List (Str×V)}{f:Str}{v:V}{A:Around}{E:Value->Shared->Prop}
theorem Pu {b:Bool}{Q:Value->Shared->Prop}(I:Inv X pins σ H s)(e:H a=some (.ins C dx fs))(c:Cls X.K C)(n:NoAttr X.K C f)(l:fs.lookup f=some v)
 (h:∀u s',Inv X pins σ H s'->RelV v u->Q u s'):wpAny (model X.prog X.w) A (getAttr (.ref a) f b) Q E s:=by
 obtain ⟨mA,O,r,_,_,_⟩:=IL I.hok e;obtain ⟨u,hu,ru⟩:=RelO.some_of (v:=v) (o:=mA f) (by rw [<-l];exact r f);exact VO I.kIn O (c.get f) c.hd n hu (LD ru) (h u _ (I.tok _) ru)
theorem Ha {m:Str}{g:Addr}{Q:Value×List Value->Shared->Prop}(I:Inv X pins σ H s)(e:H a=some (.ins C dx fs))(c:Cls X.K C)(k:Meth X.K C m g)(l:fs.lookup m=none)
 (h:Q (.ref g,[.ref a]) s):wpAny (model X.prog X.w) A (getMethod (.ref a) m pl) Q E s:=by
 obtain ⟨mA,O,r,_,_,_⟩:=IL I.hok e;have hn:mA m=none:=RelO.none_of (by rw [<-l];exact r m);exact To I.kIn O (c.get m) k.at_ k.fn hn h
theorem P3 {y:V}(I:Inv X pins σ H s)(e:H a=some (.ins C dx fs))(c:Cls X.K C)(n:NoAttr X.K C f)(hl:fs.length < 1000)(ry:RelV y u)
 (h:∀s',Inv X pins σ (upd H a (.ins C dx (Dh f y fs))) s'->Q () s'):wpAny (model X.prog X.w) A (setAttr (.ref a) f u) Q E s:=by
 obtain ⟨mA,O,r,wi,_,ho⟩:=IL I.hok e;have hz:(fs.map (·.1)).length<=sizeLine:=by rw [ui6,sizeLine_eq];lia
 refine W8 I.kIn O c.sa c.po n.taker c.hd wi hz λh' O' sb=>h _ ?_;have hd:∃o,h'.get? dx=some o:=let ⟨o,_,_,e',_⟩:=O'.ns;⟨o,e'⟩;refine I.write (x:=a) (e:=dx) (by rw [e];exact True.intro) (.inr ho) (λb q hb z=>(sb.2 b hb).trans z) hd ?_;refine ⟨by rw [Ag O.ne];exact ho,?_,O.ne,O'.obj,_,O'.ns,λg=>?_,λg hg=>?_⟩
 ·have:=Ja f y fs;lia
 ·show RelO ((Dh f y fs).lookup g) (if g=f then some u else mA g);rw [Jd]
  by_cases q:g=f
  ·rw [if_pos q,if_pos q];exact ry
  ·rw [if_neg q,if_neg q];exact r g
 ·by_cases q:g=f
  ·rw [q];exact (H9 f y fs).1
  ·refine (H9 f y fs).2 g (wi g λz=>hg ?_);show (if g=f then some u else mA g)=none;rw [if_neg q];exact z
theorem Inv.made (I:Inv X pins σ H s):Inv X pins σ (upd (upd H s.heap.objs.size (.own (s.heap.objs.size + 1))) (s.heap.objs.size + 1) (.ins C s.heap.objs.size []))
 { s with heap:=(s.heap.push PySem.W.emptyDict).push (PySem.W.instObj C s.heap.objs.size) }:=by
 have e1:(s.heap.push PySem.W.emptyDict).get? s.heap.objs.size=some PySem.W.emptyDict:=ue3 s.heap rfl;have e2:((s.heap.push PySem.W.emptyDict).push (PySem.W.instObj C s.heap.objs.size)).get? (s.heap.objs.size + 1)=some (PySem.W.instObj C s.heap.objs.size):=by
  have:=ue3 (s.heap.push PySem.W.emptyDict) (o:=PySem.W.instObj C s.heap.objs.size) rfl
  rwa [Heap.size_push] at this
 have e3:(s.heap.push PySem.W.emptyDict).Ns s.heap.objs.size (λ_=>none):=⟨PySem.W.emptyDict,#[],_,e1,rfl,(λe he=>absurd he (by simp)),λ_=>rfl⟩;have I1:=I.laid (a:=s.heap.objs.size) (o:=.own (s.heap.objs.size + 1)) (h':=s.heap.push PySem.W.emptyDict) (t':=s.toks) (λb u q=>uc2 _ q) (um8 _) ⟨_,e1⟩;refine I1.laid (a:=s.heap.objs.size + 1) (o:=.ins C s.heap.objs.size []) (t':=s.toks) (λb u q=>uc2 _ q) (Nat.le_of_eq (Heap.size_push _ _)) ?_;have ne:s.heap.objs.size≠s.heap.objs.size + 1:=ul9 (uh2 _);refine ⟨by rw [Ag ne,Aj],um9 _,ne,e2,λ_=>none,(Heap.Ns1.of_empty e3).at λo q=>uc2 _ q,λ_=>True.intro,λy hy=>absurd rfl hy⟩
theorem N4 {prog:Program}{env:Env}{f:Str}{pos:Pos}{s:Shared}{Q:Value->Shared->Prop}(hb:attributeBase e f env (eval e env)=eval e env)
 (h:wpAny (model prog w) A (eval e env) (λo s₁=>wpAny (model prog w) A (getAttr o f true) Q E s₁) E s):wpAny (model prog w) A (eval (.Attribute e f pos) env) Q E s:=
 Attribute_any_ h (by rw [arm_eval_Attribute,hb])
end
def cH (K:PySem.W.Frag)(ta:TE)(f:Str):TE:=λσ H Q=>ta σ H λx H1=>∃a C dx fs v,x = .ref a/\H1 a=some (.ins C dx fs)/\Cls K C/\NoAttr K C f/\fs.lookup f=some v/\Q v H1
def cD (K:PySem.W.Frag)(ta tv:TE)(f:Str):TS:=λD σ H=>tv σ H λy H1=>ta σ H1 λx H2=>∃a C dx fs,x = .ref a/\H2 a=some (.ins C dx fs)/\Cls K C/\NoAttr K C f/\fs.length < 1000/\
 D.nx σ (upd H2 a (.ins C dx (Dh f y fs)))
section
variable {X:Cx}{o e value:Expr}{f:Str}{pos pos' tpos:Pos}{ta tv:TE}
theorem YL (he:PE X e ta)(hb:attributeBase e f X.env (eval e X.env)=eval e X.env):PE X (.Attribute e f pos) (cH X.K ta f):=by
 intro pins s σ H Q I h;refine N4 hb (thn (he pins s σ H _ I h) λu s1 z9=>?_);obtain ⟨x,H1,I1,rx,a,C,dx,fs,v,ex,ea,c,n,l,q⟩:=z9;subst ex;obtain rfl:u=Value.ref a:=rx;exact Pu I1 ea c n l λu' s2 I2 ru=>⟨v,H1,I2,ru,q⟩
theorem YX (ha:PE X o ta)(hv:PE X value tv)(hs:swapsWith value (some (.Attribute o f pos')) pos.line X.env=pure false):PS X (.Assign [.Attribute o f pos'] value pos) (cD X.K ta tv f):=by
 intro pins s σ H D I h;refine plainObj_wpAny_Assign_Attribute (thn (hv pins s σ H _ I h) λu s1 ⟨y,H1,I1,ry,q⟩=>thn (ha pins s1 σ H1 _ I1 q) λov s2 z9=>?_) hs;obtain ⟨x,H2,I2,rx,a,C,dx,fs,ex,ea,c,n,l,q2⟩:=z9;subst ex;obtain rfl:ov=Value.ref a:=rx;exact P3 I2 ea c n l ry λs3 I3=>⟨σ,_,I3,q2⟩
end
section
variable {X:Cx}{pins:List (Addr×Obj)}{σ:St}{H:Hp}{s:Shared}{A:Around}{E:Value->Shared->Prop}{Q:Value->Shared->Prop}{c:Value}{b:Bool}
inductive TyOf (K:PySem.W.Frag)(H:Hp):V->Value->Prop where
 | non:TyOf K H .non (.type "NoneType")
 | bl (x:Bool):TyOf K H (.bl x) (.type "bool")
 | int (i:Int):TyOf K H (.int i) (.type "int")
 | str (x:Str):TyOf K H (.str x) (.type "str")
 | flt (x:UInt64):TyOf K H (.flt x) (.type "float")
 | lst {a:Addr} {xs:List V} (e:H a=some (.lst xs)):TyOf K H (.ref a) (.type "list")
 | frz {a:Addr} {o:Obj} {xs:List V} (e:H a=some (.frz o (.lst xs))):TyOf K H (.ref a) (.type "list")
 | tup {a:Addr} {xs:List V} (e:H a=some (.tup xs)):TyOf K H (.ref a) (.type "tuple")
 | dK {a:Addr} {kvs:List (Key×V)} (e:H a=some (.dK kvs)):TyOf K H (.ref a) (.type "dict")
 | dT {a:Addr} {kvs:List (List Key×V)} (e:H a=some (.dT kvs)):TyOf K H (.ref a) (.type "dict")
 | ins {a C dx:Addr} {fs:List (Str×V)} (e:H a=some (.ins C dx fs)) (cl:Cls K C) (ha:PySem.W.findIn K (.ref C) "__class__" = some (some (.builtin "object.__class__")))
    (hn:PySem.W.specialIn K (.builtin "object.__class__") "__get__" = some (some (.builtin "getset_descriptor.__get__"))) (htk:PySem.W.takesIn K (.builtin "object.__class__")=some true)
    (hm:PySem.W.mroIn K C (.type "object")=some true):TyOf K H (.ref a) (.ref C)
theorem Q4 {x:V}{t:Value}(I:Inv X pins σ H s)(rx:RelV x u)(ty:TyOf X.K H x t)(e:PySem.W.kitOne X.K t c=some b)(h:∀tk,Q (.bool b) { s with toks:=tk }) :
 wpAny (model X.prog X.w) A (call (.builtin "isinstance") [u,c]) Q E s:=by
 cases ty with
 | non=>cases (show u=Value.none from rx);exact ui7 PySem.W.kitx_none I.kIn True.intro e (λz=>nomatch z) h
 | bl y=>cases (show u=Value.bool y from rx);exact ui7 PySem.W.kitx_bool I.kIn True.intro e (λz=>nomatch z) h
 | int i=>obtain ⟨t,q⟩:=(show ∃t,u=Value.int i t from rx);cases q;exact ui7 PySem.W.kitx_int I.kIn True.intro e (λz=>nomatch z) h
 | str y=>obtain ⟨t,q⟩:=(show ∃t,u=Value.str y t from rx);cases q;exact ui7 PySem.W.kitx_str I.kIn True.intro e (λz=>nomatch z) h
 | flt y=>obtain ⟨t,q⟩:=(show ∃t,u=Value.float y t from rx);cases q;exact ui7 PySem.W.kitx_float I.kIn True.intro e (λz=>nomatch z) h
 | @lst a xs ea=>
   cases (show u=Value.ref a from rx)
   obtain ⟨_,_,n,_,h1⟩:=(show ObjOk X.prog X.w H s.heap a (.lst xs) from I.hok a _ ea);exact ui7 PySem.W.kitx_list I.kIn ⟨_,h1,rfl⟩ e (λz=>nomatch z) h
 | @frz a ob xs ea=>
   cases (show u=Value.ref a from rx)
   obtain ⟨_,_,_,n,_,h1⟩:=(show ObjOk X.prog X.w H s.heap a (.frz ob (.lst xs)) from I.hok a _ ea);exact ui7 PySem.W.kitx_list I.kIn ⟨_,h1,rfl⟩ e (λz=>nomatch z) h
 | @tup a xs ea=>
   cases (show u=Value.ref a from rx)
   obtain ⟨_,_,_,p⟩:=(show ObjOk X.prog X.w H s.heap a (.tup xs) from I.hok a _ ea);obtain ⟨o,h1,h2,_⟩:=p;exact ui7 PySem.W.kitx_tuple I.kIn ⟨o,h1,h2⟩ e (λz=>nomatch z) h
 | @dK a kvs ea=>
   cases (show u=Value.ref a from rx)
   obtain ⟨_,_,vs,_,p⟩:=(show ObjOk X.prog X.w H s.heap a (.dK kvs) from I.hok a _ ea);obtain ⟨o,es,ep,h1,h2,_⟩:=p;exact ui7 PySem.W.kitx_dict I.kIn ⟨o,h1,h2.1⟩ e (λz=>nomatch z) h
 | @dT a kvs ea=>
   cases (show u=Value.ref a from rx)
   obtain ⟨_,_,xs,_,o,es,ep,h1,h2,_⟩:=(show ObjOk X.prog X.w H s.heap a (.dT kvs) from I.hok a _ ea);exact ui7 PySem.W.kitx_dict I.kIn ⟨o,h1,h2.1⟩ e (λz=>nomatch z) h
 | @ins a C dx fs ea cl ha hn htk hm=>
   cases (show u=Value.ref a from rx)
   obtain ⟨mA,O,_⟩:=IL I.hok ea;obtain ⟨od,J,_⟩:=O.look;exact ui7 (PySem.W.kitx_own (cl.get _) cl.hd ha hn htk hm) I.kIn J e (λz=>nomatch z) h
end
structure Room (k:Nat)(A:Around):Prop where
 hd:A.handled=none
 dp:A.depth + 3 * k + 5 < recursionLimit
 un:A.units + 16 * k + 200 < cLine
theorem Room.mono {j k:Nat}{A:Around}(r:Room k A)(h:j<=k):Room j A:=⟨r.hd,by have:=r.dp;lia,by have:=r.un;lia⟩
theorem Room.deeper {k:Nat}{A:Around}(r:Room (k + 1) A)(env:Env):Room k (A.deeper env):=
 ⟨r.hd,by have:=r.dp;show A.depth + 1 + 3 * k + 5 < _;lia,by have:=r.un;show A.units + 3 + 16 * k + 200 < _;lia⟩
theorem PC {A:Around}:(A.under (.builtin "type.__call__" ⟨.ref C :: us,kw⟩)).depth=A.depth + 1:=by
 first | rfl | simp [Around.under,Code.weight,Code.isCreation,Code.isGuard,Code.isCaller,Code.frames,Code.isFrame,guardIds]
theorem PD {A:Around}:(A.under (.builtin "type.__call__" ⟨.ref C :: us,kw⟩)).units=A.units + 1:=by
 first | rfl | simp [Around.under,Code.cUnits,Code.frames,Code.isFrame]
theorem Room.make {k:Nat}{A:Around}(r:Room (k + 1) A)(C:Addr)(us:List Value)(kw:List (Str×Value)):Room k (A.under (.builtin "type.__call__" ⟨.ref C :: us,kw⟩)):=
 ⟨r.hd,by have:=r.dp;rw [PC];lia,by have:=r.un;rw [PD];lia⟩
theorem Room.depth {k:Nat}{A:Around}(r:Room k A):A.depth < recursionLimit:=by have:=r.dp;lia
theorem Room.units {k:Nat}{A:Around}(r:Room k A):A.units + 64 < cLine:=by have:=r.un;lia
def ZA:TA:=λ_ H Q=>Q [] H
def aK (ta:TE)(tr:TA):TA:=λσ H Q=>ta σ H λx H1=>tr σ H1 λxs H2=>Q (x :: xs) H2
section
variable {X:Cx}{e:Expr}{es:List Expr}{te:TE}{t:TA}{pos:Pos}
theorem YJ:PA X [] ZA:=λ_ _ _ _ H Q I h=>Calls.spliced_nil ⟨[],H,I,.nil,h⟩
theorem Wk (ha:PE X e te)(hr:PA X es t)(hs:starEach (e :: es) X.env=(false,eval e X.env) :: starEach es X.env:=by rfl):PA X (e :: es) (aK te t):=by
 intro pos pins s σ H Q I h;rw [hs];show wpAny _ _ (spliced ((false,eval e X.env) :: backTo pos (starEach es X.env))) _ _ s;refine Calls.spliced_cons (thn (ha pins s σ H _ I h) λu s1 z9=>?_);obtain ⟨x,H1,I1,r1,q1⟩:=z9;exact thn (hr pos pins s1 σ H1 _ I1 q1) λus s2 ⟨xs,H2,I2,r2,q2⟩=>⟨x :: xs,H2,I2,.cons r1 r2,q2⟩
def cS (t:TA):TE:=λσ H Q=>t σ H λxs H1=>xs.length<=sizeLine/\∀p,H1 p=none->Q (.ref p) (upd H1 p (.tup xs))
def cM (t:TA):TE:=λσ H Q=>t σ H λxs H1=>xs.length<=sizeLine/\∀p,H1 p=none->Q (.ref p) (upd H1 p (.lst xs))
theorem YS {x1}(h:PA X es t):PE X (.Tuple es x1 pos) (cS t):=by
 intro pins s σ H Q I hq;refine wpAny_Tuple_spliced (thn (h pos pins s σ H _ I hq) λus s1 z9=>?_);obtain ⟨xs,H1,I1,r,z,q⟩:=z9;refine ⟨by rw [<-r.length];exact z,?_⟩;have hf:H1 s1.heap.objs.size=none:=I1.hok.fresh (um8 _);refine ⟨.ref s1.heap.objs.size,upd H1 s1.heap.objs.size (.tup xs),I1.laid (t':=s1.toks) (λb u e=>uc2 _ e) (um8 _) ?_,rfl,q _ hf⟩;exact ⟨z,us,r,⟨_,ue3 _ rfl,rfl,_,rfl⟩⟩
theorem YN (h:PA X es t):PE X (.List es pos) (cM t):=by
 intro pins s σ H Q I hq;refine wpAny_List_spliced (thn (h pos pins s σ H _ I hq) λus s1 z9=>?_);obtain ⟨xs,H1,I1,r,z,q⟩:=z9;refine ⟨by rw [<-r.length];exact z,?_⟩;have hf:H1 s1.heap.objs.size=none:=I1.hok.fresh (um8 _);refine ⟨.ref s1.heap.objs.size,upd H1 s1.heap.objs.size (.lst xs),I1.laid (t':=s1.toks) (λb u e=>uc2 _ e) (um8 _) ?_,rfl,q _ hf⟩;exact ⟨z,us,0,r,ue3 _ rfl⟩
end
abbrev Sp:=List V->Hp->VK->XK->Prop
abbrev CXT:=List Env->Hp->Shared->XK->Value->Shared->Prop
structure Env0 (P:Program)(w:World)(K:PySem.W.Frag)(mg:Str->Option Value)(base:Heap)(A:Around)(outer:List Env)(s:Shared)(H:Hp):Prop where
 frames:A.frames=some outer
 mod:Mod K mg base
 bs:∀b o,base.get? b=some o->s.heap.get? b=some o/\H b=none
 bsz:base.objs.size<=s.heap.objs.size
 funs:s.heap.FunFrames base outer
 frf:∀b∈frs outer,H b=none
 hok:HOk P w H s.heap
 bare:AllBare s.gens
def CE (outer:List Env)(P:Program)(w:World)(H:Hp)(s:Shared)(Q:VK)(u:Value)(s':Shared):Prop:=
 ∃v H',s'.os=s.os/\AllBare s'.gens/\Un (frs outer) [] H H' s.heap s'.heap/\HOk P w H' s'.heap/\RelV v u/\Q v H'
def CR (CX:CXT)(outer:List Env)(P:Program)(w:World)(H:Hp)(s:Shared)(Q:VK)(E:XK)(r:Result)(s':Shared):Prop:=
 match r with
 | .ok (.ret u)=>CE outer P w H s Q u s'
 | .ok _=>False
 | .error e=>CX outer H s E e s'
structure FnOk (P:Program)(w:World)(K:PySem.W.Frag)(mg:Str->Option Value)(base:Heap)(CX:CXT)(k:Nat)(f:Addr)(fd:FuncData)(ps:List Str)(sp:Sp):Prop where
 len:∀vs H Q E,sp vs H Q E->vs.length=ps.length
 run:∀(A:Around) (outer:List Env) (s:Shared) (H:Hp) (args:Args) (us:List Value) (vs:List V) (Q:VK) (E:XK),Room k A->Env0 P w K mg base A outer s H->BindsTo s fd args (ps.zip us)->Vals vs us->sp vs H Q E->
  codeAny (model P w) A (.call (.ref f) args) (CR CX outer P w H s Q E) s
theorem FnOk.mono {P:Program}{w:World}{K:PySem.W.Frag}{mg:Str->Option Value}{base:Heap}{CX:CXT}{j k:Nat}{f:Addr}{fd:FuncData}{ps:List Str}{sp:Sp}(F:FnOk P w K mg base CX j f fd ps sp)(h:j<=k) :
 FnOk P w K mg base CX k f fd ps sp:=⟨F.len,λA outer s H args us vs Q E hr=>F.run A outer s H args us vs Q E (hr.mono h)⟩
variable {mg:Str->Option Value}{base:Heap}
theorem Env0.make {A:Around}{outer:List Env}(e:Env0 P w K mg base A outer s H)(C:Addr)(us:List Value)(kw:List (Str×Value)) :
 Env0 P w K mg base (A.under (.builtin "type.__call__" ⟨.ref C :: us,kw⟩)) outer s H:=⟨by first | exact e.frames | (simpa [Around.under,Code.envs,Code.isFrame,pushEnvs] using e.frames),e.mod,e.bs,e.bsz,e.funs,e.frf,e.hok,e.bare⟩
section
variable {X:Cx}{pins:List (Addr×Obj)}{σ:St}{H:Hp}{s s':Shared}
theorem Inv.env0 (I:Inv X pins σ H s):Env0 X.prog X.w X.K X.mg X.base X.A X.stack s H:=
 ⟨I.ok.frames,I.ok.mod,I.bs,um0 I.ok.bsz I.sz,I.stack,I.stkFree,I.hok,I.bare⟩
theorem Inv.after {Q:VK}(I:Inv X pins σ H s)(h:CE X.stack X.prog X.w H s Q u s'):EP X pins σ Q u s':=by
 obtain ⟨v,H',os,bare,un,hok,r,q⟩:=h;obtain ⟨hh,g,d,t,os'⟩:=s';obtain rfl:os'=s.os:=os;exact ⟨v,H',I.call (h':=hh) (g':=g) (d':=d) (t':=t) (ch:=[]) un hok bare (λb z=>absurd z (by simp)),r,q⟩
end
def aJ (sp:Sp)(dvs:List V)(E:XK)(t:TA):TE:=λσ H Q=>t σ H λvs H1=>sp (vs++dvs) H1 Q E
def Vb (C:Addr)(m:Str)(sp:Sp)(dvs:List V)(E:XK)(ta:TE)(t:TA):TE:=λσ H Q=>ta σ H λx H1=>∃a dx fs,x = .ref a/\H1 a=some (.ins C dx fs)/\fs.lookup m=none/\
 t σ H1 λvs H2=>sp (x :: (vs++dvs)) H2 Q E
def aM (C:Addr)(sp:Sp)(dvs:List V)(E:XK)(t:TA):TE:=λσ H Q=>t σ H λvs H1=>∀x dx,H1 x=none->H1 dx=none->dx≠x->
 sp (.ref x :: (vs++dvs)) (upd (upd H1 dx (.own x)) x (.ins C dx [])) (λv H2=>v = .non/\Q (.ref x) H2) E
def Binds (K:PySem.W.Frag)(fd:FuncData)(ps:List Str)(ds:List Value):Prop:=
 ∀(s:Shared) (us:List Value),K.In s.heap->(us++ds).length=ps.length->BindsTo s fd ⟨us,[]⟩ (ps.zip (us++ds))
theorem Binds.all {fd:FuncData}{ps:List Str}(h:∀us:List Value,us.length=ps.length->bindArgs fd ⟨us,[]⟩=pure (ps.zip us)):Binds K fd ps []:=λs us _ hl=>by
 rw [ui8] at hl ⊢;exact .of_eq (h us hl)
def FD (CX:CXT)(X:Cx)(E:XK):Prop:=∀(pins:List (Addr×Obj)) (σ:St) (H:Hp) (s:Shared) (e:Value) (s':Shared),Inv X pins σ H s->CX X.stack H s E e s'->X.xe e s'
variable {vs:List V}
section
variable {X:Cx}{CX:CXT}{k:Nat}{f C:Addr}{fd:FuncData}{ps:List Str}{sp:Sp}{dvs:List V}{ds:List Value}{E:XK}{x m:Str}{p pos apos:Pos}{e o:Expr}{es:List Expr}{ta:TE}{t:TA}
theorem Nz {Q:VK}(F:FnOk X.prog X.w X.K X.mg X.base CX k f fd ps sp)(hr:Room k X.A)(hb:Binds X.K fd ps ds)(hd:Vals dvs ds)(hx:FD CX X E)
 (I:Inv X pins σ H s) (r:Vals vs us) (h:sp (vs++dvs) H Q E):wpAny (model X.prog X.w) X.A (call (.ref f) us) (EP X pins σ Q) X.xe s:=by
 have r2:Vals (vs++dvs) (us++ds):=r.append hd;have hl:(us++ds).length=ps.length:=by rw [<-r2.length];exact F.len _ _ _ _ h
 refine wpAny_call (codeAny_mono (F.run X.A X.stack s H ⟨us,[]⟩ (us++ds) (vs++dvs) Q E hr I.env0 (hb s us I.kIn hl) r2 h) λr s' hq=>?_)
 cases r with
 | error e=>exact hx pins σ H s e s' I hq
 | ok fl=>
   cases fl with
   | ret u=>exact I.after hq
   | next=>exact False.elim hq
   | brk=>exact False.elim hq
   | cont=>exact False.elim hq
theorem Oz (F:FnOk X.prog X.w X.K X.mg X.base CX k f fd ps sp)(hr:Room k X.A)(hg:Gl X x)(hm:X.mg x=some (.ref f))(hk:PySem.W.keepIn X.K (.ref f)=true)(hb:Binds X.K fd ps ds)(hd:Vals dvs ds)(hx:FD CX X E)
 (ha:PA X (e :: es) t) (hdb:(x == ("__debug__" : Str))=false:=by decide) (he:starEach (e :: es) X.env=(false,eval e X.env) :: starEach es X.env:=by rfl) (hpl:(backTo pos (starEach es X.env)).any (·.1)=false:=by rfl) :
 PE X (.Call (.Name x p) (e :: es) [] pos) (aJ sp dvs E t):=by
 intro pins s σ H Q I h;refine wpAny_Call_Name_kw (Cu I hg hm ?_ hdb);refine uf3 (h₀:=X.base) I.ok.mod.kin hk (thn (ha pos pins s σ H _ I h) λus s1 z9=>?_) he hpl;obtain ⟨vs,H1,I1,r,q⟩:=z9;refine ⟨I1.kIn,?_⟩;exact Nz F hr hb hd hx I1 r q
theorem Wq (he:PE X o ta)(c:Cls X.K C)(hm:Meth X.K C m f)(F:FnOk X.prog X.w X.K X.mg X.base CX k f fd ps sp)(hr:Room k X.A)(hb:Binds X.K fd ps ds)(hd:Vals dvs ds)(hx:FD CX X E)(ha:PA X (e :: es) t)
 (hst:starEach (e :: es) X.env=(false,eval e X.env) :: starEach es X.env:=by rfl) (hpl:(backTo pos (starEach es X.env)).any (·.1)=false:=by rfl)
 (ht:eval (.Call (.Attribute o m apos) (e :: es) [] pos) X.env=(do
   let ov <-eval o X.env
   standAt apos.atName
   let (f,first) <-holding [ov] (getMethod ov m pl)
   callWith pos f first (backTo pos (starEach (e :: es) X.env)) (backToKw pos (keywordEach [] X.env))):=by rfl) :
 PE X (.Call (.Attribute o m apos) (e :: es) [] pos) (Vb C m sp dvs E ta t):=by
 intro pins s σ H Q I h;refine ud2 (pl:=pl) (thn (he pins s σ H _ I h) λu s1 z9=>?_) ht;obtain ⟨x,H1,I1,rx,a,dx,fs,ex,ea,l,q⟩:=z9;subst ex;obtain rfl:u=Value.ref a:=rx;refine Ha I1 ea c hm l ?_;refine uf3 (first:=[.ref a]) (h₀:=X.base) I.ok.mod.kin hm.kp (thn (ha pos pins s1 σ H1 _ I1 q) λus s2 z9=>?_) hst hpl;obtain ⟨vs,H2,I2,r,q2⟩:=z9;refine ⟨I2.kIn,?_⟩;exact Nz (us:=.ref a :: us) (vs:=.ref a :: vs) F hr hb hd hx I2 (.cons rfl r) q2
theorem T8 (he:PE X o ta)(c:Cls X.K C)(hm:Meth X.K C m f)(F:FnOk X.prog X.w X.K X.mg X.base CX k f fd ps sp)(hr:Room k X.A)(hb:Binds X.K fd ps ds)(hd:Vals dvs ds)(hx:FD CX X E)
 (ht:eval (.Call (.Attribute o m apos) [] [] pos) X.env=(do
   let ov <-eval o X.env
   standAt apos.atName
   let (f,first) <-holding [ov] (getMethod ov m pl)
   callWith pos f first (backTo pos (starEach [] X.env)) (backToKw pos (keywordEach [] X.env))):=by rfl) :
 PE X (.Call (.Attribute o m apos) [] [] pos) (Vb C m sp dvs E ta ZA):=by
 intro pins s σ H Q I h;refine ud2 (pl:=pl) (thn (he pins s σ H _ I h) λu s1 z9=>?_) ht;obtain ⟨x,H1,I1,rx,a,dx,fs,ex,ea,l,q⟩:=z9;subst ex;obtain rfl:u=Value.ref a:=rx;refine Ha I1 ea c hm l ?_;exact PySem.W.callWith_K0 (first:=[.ref a]) I1.kIn hm.kp (Nz (us:=[.ref a]) (vs:=[.ref a]) F hr hb hd hx I1 (.cons rfl .nil) q)
structure Mk (K:PySem.W.Frag)(C f:Addr):Prop where
 makes:PySem.W.makesIn K C=true
 init:PySem.W.findIn K (.ref C) "__init__" = some (some (.ref f))
 fn:PySem.W.isFn K (.ref f)=true
 kp:PySem.W.keepIn K (.ref C)=true
theorem Ul {Q:VK}(M:Mk X.K C f)(F:FnOk X.prog X.w X.K X.mg X.base CX k f fd ps sp)(hr:Room (k + 1) X.A)(hb:Binds X.K fd ps ds)(hd:Vals dvs ds)
 (hx:FD CX X E) (I:Inv X pins σ H s) (r:Vals vs us)
 (h:∀x dx,H x=none->H dx=none->dx≠x->sp (.ref x :: (vs++dvs)) (upd (upd H dx (.own x)) x (.ins C dx [])) (λv H2=>v = .non/\Q (.ref x) H2) E) :
 wpAny (model X.prog X.w) X.A (call (.ref C) us) (EP X pins σ Q) X.xe s:=by
 have hq:=h (s.heap.objs.size + 1) s.heap.objs.size (I.hok.fresh (un0 _)) (I.hok.fresh (um8 _)) (ul9 (uh2 _));have I2:=Inv.made (C:=C) I;have r2:Vals (V.ref (s.heap.objs.size + 1) :: (vs++dvs)) (Value.ref (s.heap.objs.size + 1) :: (us++ds)):=.cons rfl (r.append hd);have hl:(Value.ref (s.heap.objs.size + 1) :: us++ds).length=ps.length:=by
  have e:=r2.length;rw [F.len _ _ _ _ hq] at e;exact e.symm
 refine wpAny_call (TM (f:=f) I.kIn M.makes M.init (beq_iff_eq.mp M.fn) (codeAny_mono (F.run _ X.stack _ _ ⟨Value.ref (s.heap.objs.size + 1) :: us,[]⟩ (Value.ref (s.heap.objs.size + 1) :: (us++ds)) _ _ E (hr.make C us [])
  (I2.env0.make C us []) (hb _ (Value.ref (s.heap.objs.size + 1) :: us) I2.kIn hl) r2 hq) λr s' hq'=>?_))
 cases r with
 | error e=>exact hx pins σ _ _ e s' I2 hq'
 | ok fl=>
   cases fl with
   | ret u=>
     obtain ⟨v,H',I3,rv,ev,q3⟩:=I2.after hq';subst ev;exact ⟨rv,⟨V.ref (s.heap.objs.size + 1),H',I3,rfl,q3⟩⟩
   | next=>exact False.elim hq'
   | brk=>exact False.elim hq'
   | cont=>exact False.elim hq'
theorem Wp (M:Mk X.K C f)(F:FnOk X.prog X.w X.K X.mg X.base CX k f fd ps sp)(hr:Room (k + 1) X.A)(hg:Gl X x)(hm:X.mg x=some (.ref C))(hb:Binds X.K fd ps ds)(hd:Vals dvs ds)(hx:FD CX X E)
 (ha:PA X (e :: es) t) (hdb:(x == ("__debug__" : Str))=false:=by decide) (he:starEach (e :: es) X.env=(false,eval e X.env) :: starEach es X.env:=by rfl) (hpl:(backTo pos (starEach es X.env)).any (·.1)=false:=by rfl) :
 PE X (.Call (.Name x p) (e :: es) [] pos) (aM C sp dvs E t):=by
 intro pins s σ H Q I h;refine wpAny_Call_Name_kw (Cu I hg hm ?_ hdb);refine uf3 (h₀:=X.base) I.ok.mod.kin M.kp (thn (ha pos pins s σ H _ I h) λus s1 z9=>?_) he hpl;obtain ⟨vs,H1,I1,r,q⟩:=z9;refine ⟨I1.kIn,?_⟩;exact Ul M F hr hb hd hx I1 r q
end
section
variable {X:Cx}{CX:CXT}{k:Nat}{f C:Addr}{fd:FuncData}{ps ks:List Str}{sp:Sp}{E:XK}{x m:Str}{p pos apos kpos:Pos}{e o:Expr}{es:List Expr}{kws:List Keyword}{te ta:TE}{t tk:TA}{nm:Option Str}
structure KBinds (K:PySem.W.Frag)(fd:FuncData)(ps ks:List Str)(g:List Value->List Value->List Value)(gV:List V->List V->List V):Prop where
 to:∀(s:Shared) (us ws:List Value),K.In s.heap->(g us ws).length=ps.length->BindsTo s fd ⟨us,ks.zip ws⟩ (ps.zip (g us ws))
 rel:∀{vs:List V} {us:List Value} {zs:List V} {ws:List Value},Vals vs us->Vals zs ws->Vals (gV vs zs) (g us ws)
variable {g:List Value->List Value->List Value}{gV:List V->List V->List V}
end
structure FnScope (N P:List Str)(sc:Scope):Prop where
 kind:sc.kind = .function
 co:sc.isCoroutine=false
 gen:sc.isGenerator=false
 nd:N.Nodup
 pre:N.take P.length=P
 par:∀x∈P,sc.names.lookup x=some .local\/sc.names.lookup x=some .cell
 nofree:∀y∈sc.names,y.2≠.free
theorem Ly {kindOf:Str->Option NameKind}{x:Str}:∀{binds:List (Str×Value)} {m:Str->Option Value},(∀v,(x,v)∉binds)->bindL kindOf binds m x=m x
 | [],_,_=>rfl
 | (n,v) :: r,m,h=>by
   unfold bindL;rw [Ly λw hw=>h w (ud8 _ hw)]
   split
   ·have:x≠n:=by rintro rfl;exact h v uf0
    simp [this]
   ·rfl
theorem Lw {kindOf:Str->Option NameKind}{x:Str}:∀{binds:List (Str×Value)} {m:Str->Option Value},(∀v,(x,v)∉binds)->bindC kindOf binds m x=m x
 | [],_,_=>rfl
 | (n,v) :: r,m,h=>by
   unfold bindC;rw [Lw λw hw=>h w (ud8 _ hw)]
   split
   ·rfl
   ·have:x≠n:=by rintro rfl;exact h v uf0
    simp [this]
theorem Lx {kindOf:Str->Option NameKind}{x:Str}{v:Value}:∀{P:List Str} {vs:List Value} {i:Nat} {m:Str->Option Value},P.Nodup->P[i]?=some x->vs[i]?=some v->kindOf x=some .local->
 bindL kindOf (P.zip vs) m x=some v
 | [],_,_,_,_,h,_,_=>by simp at h
 | _ :: _,[],_,_,_,_,h,_=>by simp at h
 | p :: P,w :: vs,0,m,nd,h1,h2,hk=>by
   simp at h1 h2;subst h1;subst h2;show bindL kindOf ((p,w) :: P.zip vs) m p=_;unfold bindL;rw [Ly λv hv=>(ui9.mp nd).1 (uj0 hv).1,if_pos hk];simp
 | p :: P,w :: vs,i + 1,m,nd,h1,h2,hk=>by
   show bindL kindOf ((p,w) :: P.zip vs) m x=_;unfold bindL;exact Lx (i:=i) (ui9.mp nd).2 (by simpa using h1) (by simpa using h2) hk
theorem Lv {kindOf:Str->Option NameKind}{x:Str}{v:Value}:∀{P:List Str} {vs:List Value} {i:Nat} {m:Str->Option Value},P.Nodup->P[i]?=some x->vs[i]?=some v->kindOf x≠some .local->
 bindC kindOf (P.zip vs) m x=some v
 | [],_,_,_,_,h,_,_=>by simp at h
 | _ :: _,[],_,_,_,_,h,_=>by simp at h
 | p :: P,w :: vs,0,m,nd,h1,h2,hk=>by
   simp at h1 h2;subst h1;subst h2;show bindC kindOf ((p,w) :: P.zip vs) m p=_;unfold bindC;rw [Lw λv hv=>(ui9.mp nd).1 (uj0 hv).1,if_neg hk];simp
 | p :: P,w :: vs,i + 1,m,nd,h1,h2,hk=>by
   show bindC kindOf ((p,w) :: P.zip vs) m x=_;unfold bindC;exact Lv (i:=i) (ui9.mp nd).2 (by simpa using h1) (by simpa using h2) hk
noncomputable def CQ (N:List Str)(vs:List V):St:=vs.map some++List.replicate (N.length - vs.length) none
noncomputable def DB (CX:CXT)(P:Program)(w:World)(K:PySem.W.Frag)(mg:Str->Option Value)(base:Heap)(N:List Str)(qual:Str)(scope:Scope)(f:Addr)(cd:Value)(A:Around)(outer:List Env)(s:Shared)(H:Hp)(E:XK):Cx where
 prog:=P
 w:=w
 K:=K
 mg:=mg
 base:=base
 A:=A.deeper (envOfC qual scope s.heap.objs.size f cd)
 N:=N
 s₀:=s
 H₀:=H
 env:=envOfC qual scope s.heap.objs.size f cd
 outer:=outer
 stack:=envOfC qual scope s.heap.objs.size f cd :: outer
 ex:=[]
 calm:=true
 fn:=λ_=>true
 pn:=[]
 xe:=λe s'=>wpAny (model P w) (A.deeper (envOfC qual scope s.heap.objs.size f cd)) (leaving (envOfC qual scope s.heap.objs.size f cd) e) (λ_ s''=>CX outer H s E e s'') (λe' s''=>CX outer H s E e' s'') s'
theorem MN {sc:Scope}{n:Nat}{x:Str}(h:sc.names.lookup x=some .cell):∃c,(cellsFrom n sc.names []).lookup x=some c:=by
 have q:=uc3 sc.names n [] (.inl h);exact Option.isSome_iff_exists.mp q
theorem LF {CX:CXT}{N ps:List Str}{qual:Str}{scope:Scope}{f:Addr}{cd:Value}{A:Around}{outer:List Env}{s1:Shared}{E:XK}
 (S:FnScope N ps scope) (hd:A.handled=none) (e0:Env0 P w K mg base A outer s H) (hl:vs.length=ps.length) (r:Vals vs us)
 (x:InCallC s s.heap.objs.size (bindL (envOfC qual scope s.heap.objs.size f cd).kindOf (ps.zip us) λ_=>none) (cellsFrom (s.heap.objs.size + 1) scope.names []) (bindC (envOfC qual scope s.heap.objs.size f cd).kindOf (ps.zip us) λ_=>none) s1) :
 Inv (DB CX P w K mg base N qual scope f cd A outer s H E) [] (CQ N vs) H s1:=by
 have hpl:ps.length<=N.length:=by have:=congrArg List.length S.pre;rw [uh3] at this;lia
 obtain ⟨h1,tk,rfl,hk⟩:=x.done;have noA:∀b:Addr,b∉(DB CX P w K mg base N qual scope f cd A outer s H E).ex:=λb z=>absurd (show b∈([]:List Addr) from z) (by simp);refine ⟨⟨e0.mod,S.kind,rfl,rfl,um8 _,λy z c h1 h2=>?_,λy hy=>?_,λy c _ h=>?_,λ_=>hd,Around.frames_deeper e0.frames,.inr ⟨rfl,rfl⟩,λb z=>absurd z (noA b),e0.bs,e0.bsz,λb _ _=>noA b,λb z=>absurd z (noA b),e0.funs,e0.frf⟩,
  rfl,e0.bare,Un.kept hk,⟨_,x.toInCall.ns,λi y v h1 h2 h3=>?_⟩,λy c h=>⟨_,x.cell y c h⟩,e0.hok.fresh (um8 _),λy c h=>?_,λp hp=>absurd (show p∈([]:List (Addr×Obj)) from hp) (by simp),e0.hok.kept hk,?_⟩
 ·exact name_of_addr x.apart (PySem.mem_of_lookup h1) (PySem.mem_of_lookup h2)
 ·have hy:scope.names.lookup y=some .cell\/scope.names.lookup y=some .free:=hy;rcases hy with hy | hy
  ·exact MN hy
  ·exact absurd rfl (S.nofree _ (PySem.mem_of_lookup hy))
 ·exact Nat.le_of_lt (x.above y c (PySem.mem_of_lookup h))
 ·have hi:i < vs.length:=by
   unfold CQ at h2
   by_cases hi:i < vs.length
   ·exact hi
   ·rw [ua4 (by simpa using hi)] at h2;rw [ub5] at h2
    split at h2 <;> cases h2
  have ha:vs[i]?=some v:=by
   unfold CQ at h2;rw [ua9 (by simpa using hi),ug1] at h2
   cases e:vs[i]? with
   | none=>rw [e] at h2;cases h2
   | some a=>rw [e] at h2;cases h2;rfl
  obtain ⟨u,hu,rv⟩:=r.get ha;have hp:ps[i]?=some y:=by
   rw [<-S.pre,List.getElem?_take_of_lt (by lia)];exact h1
  have ndP:ps.Nodup:=by rw [<-S.pre];exact S.nd.sublist (List.take_sublist _ _)
  refine ⟨u,rv,?_⟩;rcases S.par y (ue0 hp) with k | k
  ·exact .inl ⟨k,Lx ndP hp hu k⟩
  ·obtain ⟨c,e⟩:=MN (n:=s.heap.objs.size + 1) k;refine .inr ⟨.inl k,c,e,?_⟩;have q:=x.cell y c e;rw [Lv ndP hp hu (by show scope.names.lookup y≠_;rw [k];decide)] at q;exact q
 ·exact e0.hok.fresh (Nat.le_of_lt (x.above y c (PySem.mem_of_lookup h)))
 ·unfold CQ;show _=N.length;rw [uf4,ui6,ud3];lia
theorem UW {CX:CXT}{k:Nat}{f:Addr}{name qual:Str}{params:Arguments}{body:List Stmt}{scope:Scope}{dV kV doc pm cdv ct oc:Value}{an od:Option Addr}
 {osl:Array (Option Value)} {N ps:List Str} {sp:Sp} (lk:K.lookup f=some ⟨oc,od,.func (PySem.W.fnOf name qual params body scope dV kV doc pm an cdv ct),osl⟩) (hcd:PySem.W.codeIn K cdv qual=true) (S:FnScope N ps scope)
 (len:∀vs H Q E,sp vs H Q E->vs.length=ps.length)
 (hbody:∀(A:Around) (outer:List Env) (s:Shared) (H:Hp) (vs:List V) (Q:VK) (E:XK),Room k (A.deeper (envOfC qual scope s.heap.objs.size f cdv))->sp vs H Q E->
   ∃t,PSs (DB CX P w K mg base N qual scope f cdv A outer s H E) body t/\t { nx:=λ_ H'=>Q .non H',rt:=Q } (CQ N vs) H) :
 FnOk P w K mg base CX (k + 1) f (PySem.W.fnOf name qual params body scope dV kV doc pm an cdv ct) ps sp:=by
 refine ⟨len,λA outer s H args us vs Q E hr e0 hb r hsp=>?_⟩;have hl:=len _ _ _ _ hsp;have KX:K.In s.heap:=e0.mod.kin.keeps λb o e=>(e0.bs b o e).1;have lim:s.heap.NoLimit:=e0.mod.nolimit.keeps λb o e=>(e0.bs b o e).1;have hkind:∀y∈ps.zip us,scope.names.lookup y.1=some .local\/(scope.names.lookup y.1=some .cell/\((cellsFrom (s.heap.objs.size + 1) scope.names []).lookup y.1).isSome=true):=λz9 hy=>by
  obtain ⟨n,v⟩:=z9;rcases S.par n (uj0 hy).1 with q | q
  ·exact .inl q
  ·exact .inr ⟨q,uc3 _ _ _ (.inl q)⟩
 refine codeAny_call_function hr.depth (KX _ _ lk) rfl S.co S.gen rfl (PySem.W.codeRec_of KX hcd) (hb _ _ _ _ ?_);refine wpAny_newFunctionEnv_cells S.kind hkind λenv he s1 x=>?_;subst he;refine ⟨lim.keeps x.toInCall.keep,codeAny_func ?_⟩;obtain ⟨t,ht,hq⟩:=hbody A outer s H vs Q E (hr.deeper _) hsp;have I:Inv (DB CX P w K mg base N qual scope f cdv A outer s H E) [] (CQ N vs) H s1:=LF S hr.hd e0 hl r x;refine un4 (ht [] s1 (CQ N vs) H _ I hq) (λfl s' hs=>?_) λe s' hs=>hs;have fin:∀{σ':St} {H':Hp} {v:V} {u:Value},Inv (DB CX P w K mg base N qual scope f cdv A outer s H E) [] σ' H' s'->RelV v u->Q v H'->CE outer P w H s Q u s':=
  λ{σ' H' v u} J rv q=>⟨v,H',J.os,J.bare,J.base,J.hok,rv,q⟩
 cases fl with
 | ret u=>
   obtain ⟨v,σ',H',J,rv,q⟩:=hs;exact fin J rv q
 | next=>
   obtain ⟨σ',H',J,q⟩:=hs;exact fin (v:=V.non) (u:=Value.none) J rfl q
 | brk=>
   obtain ⟨_,_,_,q⟩:=hs;exact False.elim q
 | cont=>
   obtain ⟨_,_,_,q⟩:=hs;exact False.elim q
section
variable {X:Cx}{x:Str}{p pos:Pos}{e:Expr}{es:List Expr}{t:TA}{id T:String}{r:List V->Hp->VK->Prop}
def tCB (r:List V->Hp->VK->Prop)(t:TA):TE:=λσ H Q=>t σ H λvs H1=>r vs H1 Q
theorem TY (hc:Dw X (.builtin id) r)(hg:Gl X x)(hm:X.mg x=none)(hv:bootBuiltins x=some (.builtin id))(ha:PA X (e :: es) t)(hn:x≠"__name__":=by decide)(hdb:(x == ("__debug__" : Str))=false:=by decide)
 (he:starEach (e :: es) X.env=(false,eval e X.env) :: starEach es X.env:=by rfl) (hpl:(backTo pos (starEach es X.env)).any (·.1)=false:=by rfl):PE X (.Call (.Name x p) (e :: es) [] pos) (tCB r t):=by
 intro pins s σ H Q I h;refine wpAny_Call_Name_kw (GD I hg hm hv ?_ hn hdb);exact PyProof.Rows.callWith_builtin1 (thn (ha pos pins s σ H _ I h) λus s1 z9=>by obtain ⟨vs,H1,I1,r1,q1⟩:=z9;exact hc pins s1 σ H1 vs us Q I1 r1 q1) he hpl
theorem Ip (hc:Dw X (.type T) r)(hg:Gl X x)(hm:X.mg x=none)(hv:bootBuiltins x=some (.type T))(ha:PA X (e :: es) t)(hn:x≠"__name__":=by decide)(hdb:(x == ("__debug__" : Str))=false:=by decide)
 (he:starEach (e :: es) X.env=(false,eval e X.env) :: starEach es X.env:=by rfl) (hpl:(backTo pos (starEach es X.env)).any (·.1)=false:=by rfl):PE X (.Call (.Name x p) (e :: es) [] pos) (tCB r t):=by
 intro pins s σ H Q I h;refine wpAny_Call_Name_kw (GD I hg hm hv ?_ hn hdb);exact ua2 (thn (ha pos pins s σ H _ I h) λus s1 z9=>by obtain ⟨vs,H1,I1,r1,q1⟩:=z9;exact hc pins s1 σ H1 vs us Q I1 r1 q1) he hpl
end
end L2
namespace HT
open PySem PyProof.Rows
section
open PySem.SeqAt
open PySem.AutoSeq1 (wpAny_loadPart')
open PySem.MeetsSeq PySem.MeetsSeq2 PySem.MeetsSeq3
end
section
variable {prog:Program}{w:World}{A:Around}{E:Value->Shared->Prop}{s:Shared}
theorem Vm {t b:Addr}{vs ws:List Value}{Q:Value->Shared->Prop}(ht:IsTup s.heap t vs.toArray)(hb:IsTup s.heap b ws.toArray)(hv:vs≠[])
 (h1:ws=[]->Q (.ref t) s) (h2:ws≠[]->Q (.ref s.heap.objs.size) { s with heap:=s.heap.push { cls:=.type "tuple",data:=.seq (vs++ws).toArray } })
 (hsz:vs.length + ws.length<=sizeLine):wpAny (model prog w) A (binaryOp .Add (.ref t) (.ref b)) Q E s:=by
 obtain ⟨⟨cls,dd,data,sl⟩,ho,hc,n,hd⟩:=id ht;obtain ⟨⟨cls2,dd2,data2,sl2⟩,ho2,hc2,n2,hd2⟩:=id hb;simp only at hc hd hc2 hd2;subst hc hd hc2 hd2;have e:vs.toArray++ws.toArray=(vs++ws).toArray:=by simp
 by_cases hw:ws=[]
 ·exact concat_meets ⟨_,ho,rfl⟩ ⟨_,ho2,rfl⟩ noFill_tuple_add seq_tuple_add uc4 ub6 (ub2 _ _)
   (tuple_addW1 t b vs.toArray ws.toArray n n2 dd dd2 sl sl2 (by simpa using hv) (by simp [hw])) ⟨ho,ho2,h1 hw⟩
 ·refine concat_meets ⟨_,ho,rfl⟩ ⟨_,ho2,rfl⟩ noFill_tuple_add seq_tuple_add uc4 ub6 (ub2 _ _)
   (tuple_addW2 t b vs.toArray ws.toArray n n2 dd dd2 sl sl2 (by simpa using hv) (by simpa using hw) (by rw [ug0,ug0];exact hsz)) ⟨ho,ho2,?_⟩
  rw [e];exact h2 hw
noncomputable def sIx (n d:Nat):Option Int->Nat
 | none=>d
 | some v=>if v < 0 then (v + (n:Int)).toNat else min v.toNat n
theorem JG (n d:Nat):sIx n d none=d:=rfl
theorem GM (n d k:Nat):sIx n d (some (k:Int))=min k n:=by
 show (if (k:Int) < 0 then ((k:Int) + (n:Int)).toNat else min (k:Int).toNat n)=min k n;rw [if_neg (by lia),ug2]
theorem Zl (n d:Nat)(hd:d<=n)(o:Option Int):sIx n d o<=n:=by
 cases o with
 | none=>exact hd
 | some v=>
   show (if v < 0 then (v + (n:Int)).toNat else min v.toNat n)<=n
   by_cases hv:v < 0
   ·rw [if_pos hv];lia
   ·rw [if_neg hv];exact Nat.min_le_right _ _
theorem N6 (v:Int)(n d:Nat):(if v < 0 then max (v + (n:Int)) 0 else min v (n:Int))=((sIx n d (some v):Nat):Int):=by
 show (if v < 0 then max (v + (n:Int)) 0 else min v (n:Int))=(((if v < 0 then (v + (n:Int)).toNat else min v.toNat n):Nat):Int)
 by_cases hv:v < 0
 ·simp only [if_pos hv];lia
 ·simp only [if_neg hv];lia
theorem Pc (lo hi:Option Int)(n:Nat):Builtin.Slice.sliceAdjust lo hi 1 (n:Int)=(((sIx n 0 lo:Nat):Int),((sIx n n hi:Nat):Int)):=by
 have h1:¬((1:Int) < 0):=by lia
 unfold Builtin.Slice.sliceAdjust;simp only [h1,if_false];refine Prod.ext ?_ ?_
 ·cases lo with
  | none=>rfl
  | some v=>exact N6 v n 0
 ·cases hi with
  | none=>rfl
  | some v=>exact N6 v n n
theorem PQ (i j:Nat):Builtin.Slice.slicePlaces (i:Int) (j:Int) 1=j - i:=by
 unfold Builtin.Slice.slicePlaces;have h1:(1:Int) > 0:=by lia
 simp only [h1,if_true,Int.ediv_one]
 split <;> lia
theorem Ku {v:Value}{o:Option Int}{Q:Option Int->Shared->Prop}(p:IsPart v o)(h:Q o s):wpAny (model prog w) A (Builtin.Slice.slicePartIndex v) Q E s:=by
 cases p with
 | none=>exact slicePart_none h
 | int i t=>exact slicePart_int h
theorem F5 {sl:Addr}{vl vu:Value}{lo hi:Option Int}{n:Nat}{Q:Int×Int×Nat->Shared->Prop}(hs:s.heap.IsSliceOf sl vl vu .none)(pl:IsPart vl lo)(pu:IsPart vu hi)
 (h:Q (((sIx n 0 lo:Nat):Int),1,sIx n n hi - sIx n 0 lo) s):wpAny (model prog w) A (Builtin.Slice.sliceApplied (.ref sl) (pure (n:Int))) Q E s:=by
 obtain ⟨os,hos,hcs,hds⟩:=id hs;unfold Builtin.Slice.sliceApplied Builtin.Slice.sliceFields;refine un2 (un2 (un1 hos hds (x:=vl) rfl (un2 (un1 hos hds (x:=vu) rfl (un2 (un1 hos hds (x:=.none) rfl (un3 ?_)))))));refine un2 (slicePart_none ?_);show wpAny _ _ (if ((1:Int) == 0)=true then _ else _) _ _ s;rw [if_neg (by decide)];refine un2 (Ku pl (un2 (Ku pu (un2 (un3 ?_)))));show wpAny _ _ (match Builtin.Slice.sliceAdjust lo hi 1 (n:Int) with | (lo,hi)=>pure (lo,(1:Int),Builtin.Slice.slicePlaces lo hi 1)) _ _ s;rw [Pc lo hi n];show wpAny _ _ (pure (((sIx n 0 lo:Nat):Int),(1:Int),Builtin.Slice.slicePlaces ((sIx n 0 lo:Nat):Int) ((sIx n n hi:Nat):Int) 1)) _ _ s;rw [PQ];exact un3 h
theorem Uc (xs:Array Value)(i k:Nat):((List.range k).filterMap λ(m:Nat)=>xs[((i:Int) + (m:Int) * 1).toNat]?).toArray=((xs.toList.drop i).take k).toArray:=by
 have e:(λ(m:Nat)=>xs[((i:Int) + (m:Int) * 1).toNat]?)=λm=>xs[i + m]?:=by
  funext m
  have:((i:Int) + (m:Int) * 1).toNat=i + m:=by lia
  rw [this]
 rw [e];have:=pick_run xs i k;rw [List.filterMap_map] at this;have e2:((λx=>xs[x]?) ∘ λx=>i + x)=λm=>xs[i + m]?:=rfl;rw [e2] at this;rw [this]
theorem IZ {t sl:Addr}{items:Array Value}{vl vu:Value}{lo hi:Option Int}{Q:Value->Shared->Prop}(ht:IsTup s.heap t items)(hs:s.heap.IsSliceOf sl vl vu .none)(pl:IsPart vl lo)(pu:IsPart vu hi)
 (hw:¬(sIx items.size 0 lo=0/\sIx items.size items.size hi=items.size))
 (h:Q (.ref s.heap.objs.size) { s with heap:=s.heap.push { cls:=.type "tuple",data:=.seq ((items.toList.drop (sIx items.size 0 lo)).take (sIx items.size items.size hi - sIx items.size 0 lo)).toArray } })
 (hsz:items.size<=sizeLine):wpAny (model prog w) A (getItem (.ref t) (.ref sl)) Q E s:=by
 have htake:sizeOk (.seq ((items.toList.drop (sIx items.size 0 lo)).take (sIx items.size items.size hi - sIx items.size 0 lo)).toArray):=by
  show ((items.toList.drop (sIx items.size 0 lo)).take (sIx items.size items.size hi - sIx items.size 0 lo)).toArray.size<=sizeLine;rw [ug0,uh3,uh4,ue2];lia
 have hj:sIx items.size items.size hi<=items.size:=Zl _ _ (um8 _) hi;obtain ⟨os,hos,hcs,hds⟩:=id hs;have hTs:s.TypeIs (.ref sl) "slice":=⟨os,hos,hcs⟩;unfold getItem
 try with_reducible refine ul7 ?_
 first | refine un2 (un3 ?_) | skip
 refine un2 (wpAny_sequenceKey ht.typeIs (by decide) ?_);refine un2 (wpAny_callSpecial?_slot (name:=Str.ofString "__getitem__") ht.typeIs ua0
  (wpAny_call_entry ua0 ht.typeIs entry_tuple_getitem ?_ (args_tuple_getitem _ _)))
 show wpAny _ _ (Builtin.Tuple.tupleItemsOf (.ref t) >>= _) _ _ s;refine un2 (tupleItemsOf_ ht ?_);refine un2 (wpAny_typeOf hTs ?_);rw [if_pos (by decide)];refine un2 (F5 hs pl pu ?_);have hno:¬((((sIx items.size 0 lo:Nat):Int) == 0 && (1:Int) == 1 && (sIx items.size items.size hi - sIx items.size 0 lo) == items.size)=true):=by
  intro q;rw [uh5,uh5] at q;have q1:((sIx items.size 0 lo:Nat):Int)=0:=eq_of_beq q.1.1;have q2:sIx items.size items.size hi - sIx items.size 0 lo=items.size:=eq_of_beq q.2;exact hw ⟨by lia,by lia⟩
 show wpAny _ _ (if (((sIx items.size 0 lo:Nat):Int) == 0 && (1:Int) == 1 && (sIx items.size items.size hi - sIx items.size 0 lo) == items.size)=true then _ else _) _ _ s;rw [if_neg hno,Uc]
 first
  | exact un2 (m:=Builtin.Tuple.tupleExact _) (wpAny_newObj_type (un3 ⟨_,rfl,un3 h⟩) htake)
  | exact un2 (m:=Builtin.Tuple.tupleExact _) (wpAny_newObj_type (un2 (un3 (un3 ⟨_,rfl,un3 h⟩))) htake)
  | exact un2 (un2 (m:=Builtin.Tuple.tupleExact _) (wpAny_newObj_type (un3 (un3 ⟨_,rfl,un3 h⟩)) htake))
  | exact un2 (un2 (m:=Builtin.Tuple.tupleExact _) (wpAny_newObj_type (un3 ⟨_,rfl,un3 h⟩) htake))
end
end HT
namespace L2
open PySem PySem.Spec PyProof.Rows
abbrev TO:=St->Hp->(Option Int->Hp->Prop)->Prop
def PO (X:Cx)(e:Option Expr)(t:TO):Prop:=
 ∀(pins:List (Addr×Obj)) (s:Shared) (σ:St) (H:Hp) (Q:Option Int->Hp->Prop),Inv X pins σ H s->t σ H Q->
  wpAny (model X.prog X.w) X.A (evalPart e X.env) (λu s'=>∃o H',Inv X pins σ H' s'/\IsPart u o/\Q o H') X.xe s
def Xd:TO:=λ_ H Q=>Q none H
def aO (t:TE):TO:=λσ H Q=>t σ H λx H1=>∃i,x = .int i/\Q (some i) H1
section
variable {X:Cx}{e:Expr}{te:TE}{lo hi:Option Expr}{tl th:TO}{pos p2:Pos}
theorem Wz:PO X none Xd:=by
 intro pins s σ H Q I h;rw [evalPart_none];exact un3 ⟨none,H,I,.none,h⟩
theorem WA (h:PE X e te):PO X (some e) (aO te):=by
 intro pins s σ H Q I hw;rw [evalPart_some];refine thn (h pins s σ H _ I hw) λu s1 z9=>?_;obtain ⟨x,H1,I1,r1,q1⟩:=z9;obtain ⟨i,rfl,q⟩:=q1;obtain ⟨t,rfl⟩:=r1;exact ⟨some i,H1,I1,.int i t,q⟩
def SlR (X:Cx)(r:V->Option Int->Option Int->Hp->VK->Prop):Prop:=
 ∀(pins:List (Addr×Obj)) (s:Shared) (σ:St) (H:Hp) (x:V) (v vl vu:Value) (lo hi:Option Int) (sl:Addr) (Q:VK),Inv X pins σ H s->RelV x v->s.heap.IsSliceOf sl vl vu .none->IsPart vl lo->IsPart vu hi->r x lo hi H Q->
  ∃T id,typeLookup (.type T) "__getitem__" = pure (some (.builtin id))/\s.TypeIs v T/\wpAny (model X.prog X.w) X.A (getItem v (.ref sl)) (EP X pins σ Q) X.xe s
theorem SlR.or {r r':V->Option Int->Option Int->Hp->VK->Prop}(h:SlR X r)(h':SlR X r'):SlR X (λx lo hi H Q=>r x lo hi H Q\/r' x lo hi H Q):=by
 intro pins s σ H x v vl vu lo hi sl Q I rx hs pl pu q;rcases q with q | q
 ·exact h pins s σ H x v vl vu lo hi sl Q I rx hs pl pu q
 ·exact h' pins s σ H x v vl vu lo hi sl Q I rx hs pl pu q
def tSl (r:V->Option Int->Option Int->Hp->VK->Prop)(te:TE)(tl th:TO):TE:=λσ H Q=>te σ H λx H1=>tl σ H1 λl H2=>th σ H2 λu H3=>r x l u H3 Q
theorem Ua {r:V->Option Int->Option Int->Hp->VK->Prop}(hr:SlR X r)(he:PE X e te)(hl:PO X lo tl)(hu:PO X hi th):PE X (.Subscript e (.Slice lo hi none p2) pos) (tSl r te tl th):=by
 intro pins s σ H Q I h;refine Subscript_ (thn (he pins s σ H _ I h) λv s1 z9=>?_);obtain ⟨x,H1,I1,r1,q1⟩:=z9;refine wpAny_Slice (thn (hl pins s1 σ H1 _ I1 q1) λvl s2 ⟨l,H2,I2,pl,q2⟩=>thn (hu pins s2 σ H2 _ I2 q2) λvu s3 z9=>?_);obtain ⟨u,H3,I3,pu,q3⟩:=z9;rw [evalPart_none];refine un3 ?_;have I4:Inv X pins σ H3 { s3 with heap:=s3.heap.push { cls:=.type "slice",data:=.fields #[vl,vu,.none] } }:=I3.kept (t':=s3.toks) λb ob q=>uc2 _ q;obtain ⟨T,id,hT,ht,hg⟩:=hr pins { s3 with heap:=s3.heap.push { cls:=.type "slice",data:=.fields #[vl,vu,.none] } } σ H3 x v vl vu l u s3.heap.objs.size Q I4 r1 (Heap.IsSliceOf.new ..) pl pu q3;show wpAny (model X.prog X.w) X.A (subscriptTail e (.Slice lo hi none p2) v (.ref s3.heap.objs.size)) (EP X pins σ Q) X.xe { s3 with heap:=s3.heap.push { cls:=.type "slice",data:=.fields #[vl,vu,.none] } };exact tail_any (ops:=[.ref s3.heap.objs.size,v]) ht hT hg (by with_unfolding_all rfl)
def G5 (xs:List V)(lo hi:Option Int):List V:=(xs.drop (HT.sIx xs.length 0 lo)).take (HT.sIx xs.length xs.length hi - HT.sIx xs.length 0 lo)
theorem I9 (xs:List V)(lo hi:Option Int):(G5 xs lo hi).length<=xs.length:=by
 unfold G5;rw [uh3,uh4];lia
def Zg (K:PySem.W.Frag):V->Option Int->Option Int->Hp->VK->Prop:=λx lo hi H Q=>∃a xs,x = .ref a/\SqT K H a xs/\
 ¬(HT.sIx xs.length 0 lo=0/\HT.sIx xs.length xs.length hi=xs.length)/\∀p,H p=none->Q (.ref p) (upd H p (.tup (G5 xs lo hi)))
theorem Zq:SlR X (Zg X.K):=by
 intro pins s σ H x v vl vu lo hi sl Q I rx hs pl pu h;obtain ⟨a,xs,rfl,hx,hw,q⟩:=h
 cases rx
 obtain ⟨its,r,ht,hz⟩:=I.tuple hx;have hlen:its.toArray.size=xs.length:=by rw [ug0];exact r.length.symm
 refine ⟨"tuple",_,ua0.lookup,ht.typeIs,?_⟩;refine HT.IZ ht hs pl pu (by rw [hlen];exact hw) ?_ (by rw [hlen];exact hz);rw [hlen];refine ⟨.ref s.heap.objs.size,_,I.laid (t':=s.toks) (o:=.tup (G5 xs lo hi)) (λb ob q=>uc2 _ q) (um8 _) ?_,rfl,q _ (I.hok.fresh (um8 _))⟩;exact ⟨um0 (I9 xs lo hi) hz,_,(r.drop (HT.sIx xs.length 0 lo)).take (HT.sIx xs.length xs.length hi - HT.sIx xs.length 0 lo),IsTup.new _ _⟩
def U2 (K:PySem.W.Frag):R2:=λx y H Q=>∃a b xs ys,x = .ref a/\y = .ref b/\SqT K H a xs/\SqT K H b ys/\xs≠[]/\xs.length + ys.length<=sizeLine/\
 (ys=[]->Q (.ref a) H)/\(ys≠[]->∀p,H p=none->Q (.ref p) (upd H p (.tup (xs++ys))))
theorem Vals.nil_iff {xs:List V}{us:List Value}(r:Vals xs us):us=[]↔xs=[]:=by
 cases r with
 | nil=>simp
 | cons _ _=>simp
theorem Wd:OpR X (binaryOp .Add) (U2 X.K):=by
 intro pins s σ H x y v u Q I rx ry h;obtain ⟨a,b,xs,ys,rfl,rfl,ha,hb,hx,hz,q1,q2⟩:=h
 cases rx
 cases ry
 obtain ⟨its,r1,p1,_⟩:=I.tuple ha;obtain ⟨its2,r2,p2,_⟩:=I.tuple hb;refine HT.Vm p1 p2 (λz=>hx (r1.nil_iff.mp z)) (λz=>⟨.ref a,H,I,rfl,q1 (r2.nil_iff.mp z)⟩) (λz=>?_) (by rw [<-r1.length,<-r2.length];exact hz);refine ⟨.ref s.heap.objs.size,_,I.laid (t':=s.toks) (o:=.tup (xs++ys)) (λb ob q=>uc2 _ q) (um8 _) ?_,rfl,q2 (λw=>z (r2.nil_iff.mpr w)) _ (I.hok.fresh (um8 _))⟩;exact ⟨by rw [uf4];exact hz,_,r1.append r2,IsTup.new _ _⟩
end
noncomputable def ixN (n:Nat)(i:Int):Option Nat:=if 0<=i then (if i < n then some i.toNat else none) else if -(n:Int)<=i then some (i + n).toNat else none
def atI {α:Type}(xs:List α)(i:Int):Option α:=(ixN xs.length i).bind λj=>xs[j]?
theorem VT {n:Nat}{i:Int}{j:Nat}(h:ixN n i=some j):seqIndex? i n=some j/\j < n/\-(n:Int)<=i/\i < n:=by
 unfold ixN at h
 by_cases h0:0<=i
 ·rw [if_pos h0] at h
  by_cases h1:i < n
  ·rw [if_pos h1] at h;have e:i.toNat=j:=ui5 h;exact ⟨by rw [seqIndex_of h0 h1,e],by lia,by lia,h1⟩
  ·rw [if_neg h1] at h;cases h
 ·rw [if_neg h0] at h
  by_cases h1 : -(n:Int)<=i
  ·rw [if_pos h1] at h;have e:(i + n).toNat=j:=ui5 h;exact ⟨by rw [seqIndex_neg (by lia) h1,e],by lia,h1,by lia⟩
  ·rw [if_neg h1] at h;cases h
theorem KM {α:Type}{xs:List α}{i:Int}{v:α}(h:atI xs i=some v):∃j,seqIndex? i xs.length=some j/\xs[j]?=some v/\j < xs.length/\-(xs.length:Int)<=i/\i < xs.length:=by
 unfold atI at h
 cases e:ixN xs.length i with
 | none=>rw [e] at h;cases h
 | some j=>
   rw [e] at h;obtain ⟨h1,h2,h3,h4⟩:=VT e;exact ⟨j,h1,h,h2,h3,h4⟩
theorem IE {α:Type}{xs:List α}{j:Nat}{v:α}(h:xs[j]?=some v):atI xs (j:Int)=some v:=by
 have hj:j < xs.length:=(ua8.mp h).1;have e:ixN xs.length (j:Int)=some j:=by
  unfold ixN;rw [if_pos (by lia),if_pos (by lia)];simp
 unfold atI;rw [e];exact h
def KH (b:Expr):Prop:=∀o i,subscripted b false o i=operate [o,i] (getItem o i)
def IxR (X:Cx)(r:R2):Prop:=
 ∀(value slice:Expr) (pins:List (Addr×Obj)) (s:Shared) (σ:St) (H:Hp) (x y:V) (v u:Value) (Q:VK),Inv X pins σ H s->RelV x v->RelV y u->r x y H Q->
  subscripted slice false v u=operate [v,u] (getItem v u)->wpAny (model X.prog X.w) X.A (subscriptTail value slice v u) (EP X pins σ Q) X.xe s
def MtR (X:Cx)(id:String)(r:V->List V->Hp->VK->Prop):Prop:=
 ∀(pins:List (Addr×Obj)) (s:Shared) (σ:St) (H:Hp) (x:V) (xs:List V) (v:Value) (us:List Value) (Q:VK),Inv X pins σ H s->RelV x v->Vals xs us->r x xs H Q->
  wpAny (model X.prog X.w) X.A (call (.builtin id) (v :: us)) (EP X pins σ Q) X.xe s
section
variable {X:Cx}{a b:Expr}{ta tb:TE}{pos:Pos}
theorem IxR.or {r r':R2}(h:IxR X r)(h':IxR X r'):IxR X (λx y H Q=>r x y H Q\/r' x y H Q):=by
 intro value slice pins s σ H x y v u Q I rx ry q hs;rcases q with q | q
 ·exact h value slice pins s σ H x y v u Q I rx ry q hs
 ·exact h' value slice pins s σ H x y v u Q I rx ry q hs
theorem UZ {r:R2}(hr:IxR X r)(ha:PE X a ta)(hb:PE X b tb)(hs:KH b):PE X (.Subscript a b pos) (tOp r ta tb):=by
 intro pins s σ H Q I h;exact Subscript_ (SM ha hb I h λv u s2 x y H2 I2 rx ry q=>hr a b pins s2 σ H2 x y v u Q I2 rx ry q (hs _ _))
def Za (K:PySem.W.Frag):R2:=λx y H Q=>∃p xs i v,x = .ref p/\y = .int i/\SqL K H p xs/\atI xs i=some v/\Q v H
def Zc (K:PySem.W.Frag):R2:=λx y H Q=>∃p xs i v,x = .ref p/\y = .int i/\SqT K H p xs/\atI xs i=some v/\Q v H
def Zb:R2:=λx y H Q=>∃z i c,x = .str z/\y = .int i/\z.length<=sizeLine/\atI z.cps.toList i=some c/\Q (.str ⟨#[c]⟩) H
theorem ix_list:IxR X (Za X.K):=by
 intro value slice pins s σ H x y v u Q I rx ry h hs;obtain ⟨p,xs,i,z,rfl,rfl,hq,he,q⟩:=h
 cases rx
 obtain ⟨t,rfl⟩:=ry;obtain ⟨its,r,pl,hz⟩:=I.list hq;obtain ⟨j,h1,h2,h3,h4,h5⟩:=KM he;obtain ⟨w,ew,rw'⟩:=r.get h2;have hl:=r.length;have hn:=Kh;have fin:EP X pins σ Q w s:=⟨z,H,I,rw',q⟩
 by_cases h0:0<=i
 ·have hj:i.toNat=j:=by
   rw [seqIndex_of h0 h5] at h1;exact ui5 h1
  exact item_listR pl.isList h0 (by lia) (by rw [hj];simpa using ew) fin hs
 ·have hj:(i + (its.toArray.size:Int)).toNat=j:=by
   rw [seqIndex_neg (by lia) h4] at h1;rw [ug0,<-hl];exact ui5 h1
  exact subscriptTail_builtinR (x:=w) pl.isList.typeIs slot_list_getitem.lookup
   (wpAny_getItem_list_neg (Q:=λr s'=>r=w/\EP X pins σ Q r s') pl.isList (by lia) (by rw [ug0] <;> lia) (by lia) (by rw [hj];simpa using ew) ⟨rfl,fin⟩) hs
theorem ix_tup:IxR X (Zc X.K):=by
 intro value slice pins s σ H x y v u Q I rx ry h hs;obtain ⟨p,xs,i,z,rfl,rfl,hq,he,q⟩:=h
 cases rx
 obtain ⟨t,rfl⟩:=ry;obtain ⟨its,r,pl,hz⟩:=I.tuple hq;obtain ⟨j,h1,h2,h3,h4,h5⟩:=KM he;obtain ⟨w,ew,rw'⟩:=r.get h2;have hl:=r.length;have hn:=Kh;have fin:EP X pins σ Q w s:=⟨z,H,I,rw',q⟩;exact subscriptTail_builtinR (x:=w) pl.typeIs slot_tuple_getitem.lookup
  (getItem_tuple (j:=j) (Q:=λr s'=>r=w/\EP X pins σ Q r s') pl (by lia) (by lia) (by rw [ug0,<-hl];exact h1) (by simpa using ew) ⟨rfl,fin⟩) hs
theorem Yj:IxR X Zb:=by
 intro value slice pins s σ H x y v u Q I rx ry h hs;obtain ⟨z,i,c,rfl,rfl,hz,he,q⟩:=h;obtain ⟨t,rfl⟩:=rx;obtain ⟨t',rfl⟩:=ry;obtain ⟨j,h1,h2,h3,h4,h5⟩:=KM he;have hl:z.cps.toList.length=z.length:=by simp [Str.length]
 rw [hl] at h1 h4 h5;have hn:=Kh;exact tail_any (typeIs_str s z t) slot_str_getitem.lookup (getItem_str (c:=c) (by
  have e1:decide (i < -(2 ^ 63:Int))=false:=uk1 (by lia);have e2:decide (i ≥ 2 ^ 63)=false:=uk1 (by lia);rw [e1,e2,ul0]) (by rw [h1];simpa using h2) ⟨.str ⟨#[c]⟩,H,I.tok _,⟨_,rfl⟩,q⟩) hs
def rIx (K:PySem.W.Frag):R2:=λx y H Q=>Za K x y H Q\/Zc K x y H Q\/Zb x y H Q
theorem Q5:IxR X (rIx X.K):=ix_list.or (ix_tup.or Yj)
theorem NF (lo hi:Option Int)(n:Nat):(sliceBounds lo hi none n).1=((HT.sIx n 0 lo:Nat):Int)/\(sliceBounds lo hi none n).2.1=((HT.sIx n n hi:Nat):Int)/\(sliceBounds lo hi none n).2.2=1:=by
 refine ⟨?_,?_,rfl⟩
 ·cases lo with
  | none=>simp [sliceBounds,HT.sIx]
  | some i=>
    simp only [sliceBounds,HT.sIx,Option.getD_none,show (1:Int) > 0 by decide,if_true]
    by_cases h:i < 0
    ·simp only [h,if_true] <;> lia
    ·simp only [h,if_false] <;> lia
 ·cases hi with
  | none=>simp [sliceBounds,HT.sIx]
  | some i=>
    simp only [sliceBounds,HT.sIx,Option.getD_none,show (1:Int) > 0 by decide,if_true]
    by_cases h:i < 0
    ·simp only [h,if_true] <;> lia
    ·simp only [h,if_false] <;> lia
theorem L4 (its:List Value)(lo hi:Option Int):slicePick its.toArray lo hi none=((its.drop (HT.sIx its.length 0 lo)).take (HT.sIx its.length its.length hi - HT.sIx its.length 0 lo)).toArray:=by
 obtain ⟨h1,h2,h3⟩:=NF lo hi its.toArray.size;unfold slicePick;rw [h1,h2,h3];simp only [sliceRange_one,pick_run,ug0] <;> rfl
def Ze (K:PySem.W.Frag):V->Option Int->Option Int->Hp->VK->Prop:=λx lo hi H Q=>∃a xs,x = .ref a/\SqL K H a xs/\∀p,H p=none->Q (.ref p) (upd H p (.lst (G5 xs lo hi)))
theorem sl_list:SlR X (Ze X.K):=by
 intro pins s σ H x v vl vu lo hi sl Q I rx hs pl pu h;obtain ⟨a,xs,rfl,hx,q⟩:=h
 cases rx
 obtain ⟨its,r,ht,hz⟩:=I.list hx;have hlen:=r.length;refine ⟨"list",_,slot_list_getitem.lookup,ht.isList.typeIs,?_⟩;refine wpAny_getItem_list_slice ht.isList hs pl pu .none (by simp) ?_ (by rw [ug0] <;> lia);rw [L4,<-hlen];refine ⟨.ref s.heap.objs.size,_,I.laid (t':=s.toks) (o:=.lst (G5 xs lo hi)) (λb ob q=>uc2 _ q) (um8 _) ?_,rfl,q _ (I.hok.fresh (um8 _))⟩;exact ⟨um0 (I9 xs lo hi) hz,_,0,(r.drop (HT.sIx xs.length 0 lo)).take (HT.sIx xs.length xs.length hi - HT.sIx xs.length 0 lo),ue3 _ rfl⟩
theorem MM:Dw X (.type "list") (λxs H Q=>∃p ys,xs=[.ref p]/\(SqL X.K H p ys\/SqT X.K H p ys)/\∀l,H l=none->Q (.ref l) (upd H l (.lst ys))):=by
 intro pins s σ H xs us Q I r h;obtain ⟨p,ys,rfl,hq,q⟩:=h;obtain ⟨u,rfl,rx⟩:=Hv r
 cases rx
 have fin:∀(its:List Value),Vals ys its->ys.length<=sizeLine->∀(h':Heap) (c':Nat),(∀b o',s.heap.get? b=some o'->h'.get? b=some o')->
  h'.get? s.heap.objs.size=some { cls:=.type "list",dict:=none,data:=.seq its.toArray c',slots:=#[] }->EP X pins σ Q (.ref s.heap.objs.size) { s with heap:=h' }:=λits r' hz h' c' kp e=>
  ⟨.ref s.heap.objs.size,_,I.laid (t':=s.toks) kp (um8 _) (show ObjOk X.prog X.w _ h' _ (.lst ys) from ⟨hz,its,c',r',e⟩),rfl,q _ (I.hok.fresh (um8 _))⟩
 rcases hq with hq | hq
 ·obtain ⟨its,r',pl,hz⟩:=I.list hq;have hlen:=r'.length;obtain ⟨o,ho,hc,n,hd⟩:=pl.isList;exact call_list_seq p (.inl rfl) ho hc hd (λh' c' kp e=>fin its r' hz h' c' kp e) (by simp only [ug0] <;> lia)
 ·obtain ⟨its,r',pl,hz⟩:=I.tuple hq;have hlen:=r'.length;obtain ⟨o,ho,hc,n,hd⟩:=pl;exact call_list_seq p (.inr rfl) ho hc hd (λh' c' kp e=>fin its r' hz h' c' kp e) (by simp only [ug0] <;> lia)
def tyV (K:PySem.W.Frag)(T:String)(x:V)(H:Hp):Prop:=match x with
 | .str _=>T = "str"
 | .int _=>T = "int"
 | .ref p=>(T = "list"/\∃xs,SqL K H p xs)\/(T = "tuple"/\∃o,K.lookup p=some o/\o.cls = .type "tuple"/\o.dict=none)\/
    (T = "dict"/\((∃kvs,H p=some (.dK kvs))\/∃kvs,H p=some (.dT kvs)))\/(T = "set"/\∃S n,H p=some (.set S n))
 | _=>False
theorem ZC {pins:List (Addr×Obj)}{σ:St}{H:Hp}{s:Shared}{T:String}{x:V}{v:Value}(I:Inv X pins σ H s)(r:RelV x v)(ty:tyV X.K T x H) :
 s.TypeIs v T/\∀a,v = .ref a->∃ob,s.heap.get? a=some ob/\ob.dict=none:=by
 cases x with
 | str z=>
   obtain ⟨t,rfl⟩:=r
   cases (show T = "str" from ty)
   exact ⟨typeIs_str s z t,λ_ e=>nomatch e⟩
 | int i=>
   obtain ⟨t,rfl⟩:=r
   cases (show T = "int" from ty)
   exact ⟨typeIs_int s i t,λ_ e=>nomatch e⟩
 | ref p=>
   cases r
   rcases ty with ⟨rfl,xs,hq⟩ | ⟨rfl,o,hk,hc,hd⟩ | ⟨rfl,hk⟩ | ⟨rfl,S,n,hk⟩
   ·obtain ⟨its,_,pl,_⟩:=I.list hq;refine ⟨pl.isList.typeIs,λa e=>?_⟩
    cases e
    obtain ⟨o,n,e,c,hd,_⟩:=pl;exact ⟨o,e,hd⟩
   ·refine ⟨⟨o,I.kIn p o hk,hc⟩,λa e=>?_⟩
    cases e
    exact ⟨o,I.kIn _ o hk,hd⟩
   ·have z:∃o,s.heap.get? p=some o/\o.ExactDict:=by
     rcases hk with ⟨kvs,hk⟩ | ⟨kvs,hk⟩
     ·obtain ⟨_,_,_,_,o,_,_,e,ex,_⟩:=I.hok p _ hk;exact ⟨o,e,ex⟩
     ·obtain ⟨_,_,_,_,o,_,_,e,ex,_⟩:=I.hok p _ hk;exact ⟨o,e,ex⟩
    obtain ⟨o,e,ex⟩:=z;refine ⟨⟨o,e,ex.1⟩,λa e2=>?_⟩
    cases e2
    exact ⟨o,e,ex.2.1⟩
   ·obtain ⟨o,_,_,_,e,ex,_⟩:=I.hok p _ hk;refine ⟨⟨o,e,ex.1⟩,λa e2=>?_⟩
    cases e2
    exact ⟨o,e,ex.2.1⟩
 | _=>exact False.elim ty
def tBM (K:PySem.W.Frag)(T:String)(r:V->List V->Hp->VK->Prop)(to:TE)(t:TA):TE:=λσ H Q=>to σ H λx H1=>tyV K T x H1/\t σ H1 λxs H2=>r x xs H2 Q
variable {o e:Expr}{es:List Expr}{to:TE}{t:TA}{name:Str}{apos cpos:Pos}{T id:String}{r:V->List V->Hp->VK->Prop}
theorem Kl (pa:PlainAttrs T)(slot:Slot T name id)(hty:typeOf (.builtin id)=pure (.type "method_descriptor"))(hm:MtR X id r)(ho:PE X o to)(ha:PA X (e :: es) t)
 (hbase:attributeBase o name X.env (eval o X.env)=eval o X.env:=by rfl)
 (hfew:((backTo cpos (starEach (e :: es) X.env)).all (λx=>!x.1) && (backToKw cpos (keywordEach [] X.env)).all (λx=>x.1.isSome)
   && decide ((e :: es).length + ([]:List Keyword).length + (if ([]:List Keyword).isEmpty then 0 else 1) < 30))=true:=by rfl)
 (hline:(apos.endLine == cpos.line)=true:=by rfl) (hs:starEach (e :: es) X.env=(false,eval e X.env) :: starEach es X.env:=by rfl) (hplain:(backTo cpos (starEach es X.env)).any (·.1)=false:=by rfl) :
 PE X (.Call (.Attribute o name apos) (e :: es) [] cpos) (tBM X.K T r to t):=by
 intro pins s σ H Q I h;refine wpAny_Call_method_late hbase hfew hline rfl (thn (ho pins s σ H _ I h) λv s1 z9=>?_);obtain ⟨x,H1,I1,r1,ty,q1⟩:=z9;obtain ⟨h1,h2⟩:=ZC I1 r1 ty;refine ⟨T,id,pa,slot,hty,h1,h2,?_⟩;have hA:=ha cpos pins s1 σ H1 _ I1 q1;rw [hs] at hA ⊢;refine Calls.callWith_builtin (by show (false || (backTo cpos (starEach es X.env)).any (·.1))=false;rw [hplain] <;> rfl) (Calls.evalArgs_plain ?_);exact thn hA λus s2 ⟨vs,H2,I2,r2,q2⟩=>hm pins s2 σ H2 x vs v us Q I2 r1 r2 q2
/- xs.append(e),list.index on a module's tuple .. are MtR facts of 06m -/
end
def MtM (X:Cx)(id:String)(r:V->List V->Hp->VK->Prop):Prop:=
 ∀(pins:List (Addr×Obj)) (s:Shared) (σ:St) (H:Hp) (x:V) (xs:List V) (v:Value) (us:List Value) (Q:VK),Inv X pins σ H s->RelV x v->Vals xs us->r x xs H Q->
  wpAny (model X.prog X.w) X.A (call (.builtin id) (v :: us)) (EP X pins σ Q) X.xe s
theorem Vals.one {x:V}{us:List Value}(h:Vals [x] us):∃u,us=[u]/\RelV x u:=by
 cases h with
 | cons r t=>
   cases t
   exact ⟨_,rfl,r⟩
theorem Vals.rep {xs:List V}{us:List Value}(h:Vals xs us):∀k:Nat,Vals (List.replicate k xs).flatten (List.replicate k us).flatten
 | 0=>.nil
 | k + 1=>by
   rw [ue5,ue5,ug3,ug3];exact Vals.append h (Vals.rep h k)
theorem HV (its:List Value):∀(k:Nat) (acc:List Value),
 List.foldl (λx1 x2=>x1++x2) acc.toArray (List.replicate k its.toArray)=(acc++(List.replicate k its).flatten).toArray
 | 0,acc=>by simp
 | k + 1,acc=>by
   have e:acc.toArray++its.toArray=(acc++its).toArray:=by simp
   have e2:(acc++its)++(List.replicate k its).flatten=acc++(List.replicate (k + 1) its).flatten:=by
    rw [ue5,ug3,ug4]
   rw [<-e2,<-HV its k (acc++its),<-e,ue5,uj1]
section
variable {X:Cx}{pins:List (Addr×Obj)}{σ:St}{H:Hp}{s:Shared}{l b:Addr}{xs ys zs:List V}
theorem Inv.lset {its its':List Value}{n:Nat}{f:Array Value->Array Value}{t':Nat}(I:Inv X pins σ H s)(hH:H l=some (.lst xs))
 (e:s.heap.get? l=some { cls:=.type "list",data:=.seq its.toArray n }) (hf:f its.toArray=its'.toArray) (hv:Vals ys its') (hz:ys.length<=sizeLine) :
 Inv X pins σ (upd H l (.lst ys)) { s with heap:=s.heap.update l (Obj.mapSeq f),toks:=t' }:=by
 have q:=PySem.IsL.update e f;rw [hf] at q;refine I.write (x:=l) (e:=l) (by rw [hH];exact trivial) (.inl rfl) (λb' u hb hu=>(uc5 s.heap (Obj.mapSeq f) (Ne.symm hb)).trans hu) ⟨_,q⟩ ?_;exact ⟨hz,its',_,hv,q⟩
theorem Inv.lnew {its:List Value}{t':Nat}(I:Inv X pins σ H s)(hv:Vals ys its)(hz:ys.length<=sizeLine) :
 Inv X pins σ (upd H s.heap.objs.size (.lst ys)) { s with heap:=s.heap.push { cls:=.type "list",data:=.seq its.toArray },toks:=t' }:=
 I.laid (λ_ _ q=>uc2 _ q) (um8 _) ⟨hz,its,0,hv,ue3 _ rfl⟩
theorem Inv.fresh (I:Inv X pins σ H s):H s.heap.objs.size=none:=I.hok.fresh (um8 _)
theorem Inv.lstM (I:Inv X pins σ H s)(hH:H l=some (.lst xs)):xs.length<=sizeLine/\∃(its:List Value) (n:Nat),Vals xs its/\xs.length=its.length/\s.heap.get? l=some { cls:=.type "list",data:=.seq its.toArray n }:=by
 obtain ⟨z,its,n,r,e⟩:=I.hok l _ hH;exact ⟨z,its,n,r,r.length,e⟩
theorem JA {n:Nat}(h:n<=sizeLine):Builtin.List.listTooLong n=false:=by
 unfold Builtin.List.listTooLong;exact uk1 (by lia)
end
section
variable {X:Cx}
def OD:V->List V->Hp->VK->Prop:=λx vs H Q=>∃l xs y,x = .ref l/\vs=[y]/\H l=some (.lst xs)/\xs.length < sizeLine/\Q .non (upd H l (.lst (xs++[y])))
theorem LJ:MtM X "list.append" OD:=by
 intro pins s σ H x vs v us Q I rx rv h;obtain ⟨l,xs,y,rfl,rfl,hH,hz,q⟩:=h
 cases rx
 obtain ⟨u,rfl,ru⟩:=rv.one;obtain ⟨z,its,n,r,hl,e⟩:=I.lstM hH;refine call_meets F.slot_list_append ⟨_,e,rfl⟩ F.entry_list_append (F.args_list_append_2 _ _) (PySem.list_append l its.toArray n u (by rw [ug0];lia)) ⟨e,?_⟩;refine ⟨.non,_,I.lset (its':=its++[u]) hH e (by simp) (r.append (.cons ru .nil)) ?_,rfl,q⟩;rw [uf4,ud4];lia
def OE:V->List V->Hp->VK->Prop:=λx vs H Q=>∃l b xs zs,x = .ref l/\vs=[.ref b]/\H l=some (.lst xs)/\H b=some (.lst zs)/\xs.length + zs.length<=sizeLine/\Q .non (upd H l (.lst (xs++zs)))
theorem mt_extend:MtM X "list.extend" OE:=by
 intro pins s σ H x vs v us Q I rx rv h;obtain ⟨l,b,xs,zs,rfl,rfl,hH,hB,hz,q⟩:=h
 cases rx
 obtain ⟨u,rfl,ru⟩:=rv.one
 cases ru
 obtain ⟨z,its,n,r,hl,e⟩:=I.lstM hH;obtain ⟨z2,its2,n2,r2,hl2,e2⟩:=I.lstM hB;have hsz:its.toArray.size + its2.toArray.size<=sizeLine:=by rw [ug0,ug0];lia
 have hlong:¬(!its.toArray.isEmpty && Builtin.List.listTooLong (its.toArray.size + its2.toArray.size))=true:=by
  rw [JA hsz,uk4];exact uf1
 refine call_meets F.slot_list_extend ⟨_,e,rfl⟩ F.entry_list_extend (F.args_list_extend_2 _ _)
  (AutoSeq1.list_extend_list_list_0 l its.toArray n b its2.toArray n2 hlong (by rw [ug0];lia) (by lia)) ⟨e,e2,?_⟩
 refine ⟨.non,_,I.lset (its':=its++its2) hH e (by simp) (r.append r2) ?_,rfl,q⟩;rw [uf4];lia
def Ug:R2:=λx y H Q=>∃l b xs zs,x = .ref l/\y = .ref b/\H l=some (.lst xs)/\H b=some (.lst zs)/\xs.length + zs.length<=sizeLine/\∀p,H p=none->Q (.ref p) (upd H p (.lst (xs++zs)))
theorem op_cat:OpR X (binaryOp .Add) Ug:=by
 intro pins s σ H x y v u Q I rx ry h;obtain ⟨l,b,xs,zs,rfl,rfl,hH,hB,hz,q⟩:=h
 cases rx
 cases ry
 obtain ⟨z,its,n,r,hl,e⟩:=I.lstM hH;obtain ⟨z2,its2,n2,r2,hl2,e2⟩:=I.lstM hB;refine PySem.P.add_list e e2 ?_ (by rw [ug0,ug0];lia);have ea:its.toArray++its2.toArray=(its++its2).toArray:=by simp
 rw [ea];exact ⟨.ref _,_,I.lnew (t':=s.toks) (r.append r2) (by rw [uf4];lia),rfl,q _ I.fresh⟩
def Zd:R2:=λx y H Q=>∃l k xs,x = .ref l/\y = .int k/\H l=some (.lst xs)/\-(2 ^ 63)<=k/\k < 2 ^ 63/\xs.length * k.toNat<=sizeLine/\
 ∀p,H p=none->Q (.ref p) (upd H p (.lst (List.replicate k.toNat xs).flatten))
theorem K9 {α:Type}(xs:List α)(k:Nat):(List.replicate k xs).flatten.length=k * xs.length:=by
 induction k with
 | zero=>simp
 | succ k ih=>rw [ue5,ug3,uf4,ih,Nat.succ_mul,Nat.add_comm]
theorem YF:OpR X (binaryOp .Mult) Zd:=by
 intro pins s σ H x y v u Q I rx ry h;obtain ⟨l,k,xs,rfl,rfl,hH,h1,h2,hz,q⟩:=h
 cases rx
 obtain ⟨t,rfl⟩:=ry;obtain ⟨z,its,n,r,hl,e⟩:=I.lstM hH;have hlen:its.toArray.size * k.toNat<=sizeLine:=by rw [ug0,<-hl];exact hz
 have hcap:¬its.toArray.size * k.toNat > (2 ^ 63 - 1) / 8:=by
  have:(sizeLine:Nat)<=(2 ^ 63 - 1) / 8:=by decide
  lia
 have hfit:¬(!Builtin.List.listFitsIndex k)=true:=by
  rw [fitsIndex_both h1 h2];exact uf1
 have hlong:¬Builtin.List.listTooLong (its.toArray.size * k.toNat)=true:=by
  rw [JA hlen];exact uf1
 have hnew:List.foldl (λx1 x2=>x1++x2) #[] (List.replicate (if its.toArray.isEmpty=true then 0 else k.toNat) its.toArray)=(List.replicate k.toNat its).flatten.toArray:=by
  have f0:∀m:Nat,List.foldl (λx1 x2=>x1++x2) #[] (List.replicate m its.toArray)=(List.replicate m its).flatten.toArray:=λm=>by
   have:=HV its m [];rw [uj2] at this;exact this
  rw [f0]
  cases its with
  | nil=>simp
  | cons a r'=>rw [if_neg (by simp)]
 refine wpAny_binaryOp_repeat_ref (T:="list") (U:="int") (by decide) ⟨_,e,rfl⟩ (λs'=>typeIs_int s' k t) noFill_list_mul F.fills_int_mul F.slot_int_rmul repeat_list F.slot_int_index.lookup
  (call_meets F.slot_int_rmul (typeIs_int s k t) F.entry_int_rmul (F.args_int_rmul_2 _ _) (int___rmul___int_list k t l its.toArray n)
    ⟨e,rfl,⟨_,e,rfl⟩,call_meets F.slot_list_mul ⟨_,e,rfl⟩ F.entry_list_mul (F.args_list_mul_2 _ _) (AutoListH.list___mul___list_int_3 l its.toArray n k t hfit hcap hlong) ⟨e,?_⟩⟩)
 rw [hnew];exact ⟨.ref _,_,I.lnew (t':=s.toks) (r.rep k.toNat) (by rw [K9,um2];exact hz),rfl,q _ I.fresh⟩
end
section
variable {prog:Program}{w:World}{A:Around}{E:Value->Shared->Prop}{s:Shared}
end
section
variable {X:Cx}
end
end L2
namespace Att
open PySem PySem.W PySem.Calls PyProof.Rows
theorem Kf {P:Params}{h:Heap}:∀(ns:List Int) (vs:List Value),WellAll P h vs (ns.map WData.int)->IntsAre vs ns:=by
 intro ns
 induction ns with
 | nil=>
   intro vs w;rw [um3] at w
   cases w
   exact .nil
 | cons n ns ih=>
   intro vs w;rw [uk9] at w
   cases w with
   | cons a b=>
     cases a
     exact .cons _ _ (ih _ b)
theorem R0 {l:OpenLaw}{n:Nat}(hn:l.most=some n){P:Params}{h:Heap}{args:List WData}{vals:List Value}
 (hpre:l.row.toRowW.claim.pre args=true) (hwl:WellAll P h vals args) :
 ∃a vs ns,vals=[Value.ref a]/\args=[WData.list (ns.map WData.int)]/\h.get? a=some { cls:=.type "list",data:=.seq vs.toArray }/\IntsAre vs ns/\ns.length<=n:=by
 have hsh:WShape.hasAll [] args [.list .int]=true:=(pre_splitW hpre).1;have hc:l.pre.holds [] { args:=args }=true:=(pre_splitW hpre).2;obtain ⟨d,r,rfl,h1,h2⟩:=hasAllW_cons hsh;obtain rfl:=hasAllW_nil h2;obtain ⟨xs,rfl,h3⟩:=hasW_list h1;obtain ⟨ns,rfl⟩:=items_int h3;have hlen:ns.length<=n:=by
  unfold OpenLaw.pre at hc;have h4:(WTm.not (.lt (.lit (.int (n:Int))) (.len (.arg 0)))).holds [] { args:=[.list (ns.map .int)] }=true:=by
   have h4:=(holds_andW hc).1;rw [hn] at h4;exact h4
  have h5:=condW_of h4 (w_not (w_lt w_lit (w_len_list (w_arg rfl))));rw [ui6] at h5;refine Nat.le_of_not_lt λq=>?_;have q':(n:Int) < ((ns.length:Nat):Int):=by lia
  first
   | (rw [uk6 q'] at h5;exact absurd h5 (by decide))
   | (simp at h5;lia)
 cases hwl with
 | cons w1 w2=>
   cases w2
   cases w1 with
   | list ho hall=>exact ⟨_,_,ns,rfl,rfl,ho,Kf ns _ hall,hlen⟩
theorem RD (l:OpenLaw)(args:List WData):l.row.toRowW.claim.post args (.bool true) args=true:=
 postW_of (r:=l.row.toRowW) (X:=(true == true))
  (show WShape.has [] (.bool true) .bool=true by first | rfl | decide | simp [WShape.has,WShape.arms,WShape.armsAll])
  (show (WTm.eq .res (.lit (.bool true))).value [] { args:=args,res:=some (.bool true),after:=args }=some (.bool (true == true)) from w_eq_bool (w_res rfl) w_lit) rfl
theorem attach_call {l:OpenLaw}{n:Nat}{q:Program}{loose:List Str}{XP:(Str->Option Value)->Heap->Prop}{YP:World->Heap->Prop}{d:DefRec}
 (hn:l.most=some n) (hdf:d.params.defaults=[])
 (call:∀(w:World) (s₀ s₁:Shared) (mg mb:Str->Option Value) (fa:Addr) (o:Obj) (pm cd doc:Value) (a:Addr) (vs:List Value) (ns:List Int),
   Ground q loose [] XP w s₀ mg mb s₁.heap->YP w s₁.heap->
   s₁.heap.get? fa=some o->o.data = .func (docDef d.name d.params d.body d.scope pm cd doc)->s₁.heap.CodeRec cd d.name->mg d.name=some (.ref fa)->
   s₁.heap.get? a=some { cls:=.type "list",data:=.seq vs.toArray }->IntsAre vs ns->ns.length<=n->s₁.gens=#[]->
   codeAny (model l.prog w) callerA (.call (.ref fa) ⟨[.ref a],[]⟩) (λr s'=>r = .ok (.ret (.bool true))/\OldK s₁.heap s'.heap/\s'.os=s₁.os/\AllBare s'.gens) s₁) :
 WalkO q loose XP YP l.row.toRowW d [] (λf vs=>PySem.call f vs):=by
 intro w s₀ s₁ mg mb G Y fa o pm cd doc dV kV ho hd hcd hD hmg hg args vals as hpre hlay hrd hwl hlo;obtain rfl:dV = .none:=Dflts.none hD hdf;obtain rfl:kV = .none:=Dflts.noKw hD;obtain ⟨a,vs,ns,rfl,rfl,hobj,hints,hlen⟩:=R0 hn hpre hwl;refine enter_call (codeAny_mono (call w s₀ s₁ mg mb fa o pm cd doc a vs ns G Y ho (fd_plain hd) hcd hmg hobj hints hlen hg) λr s' hq=>?_);obtain ⟨rfl,h2,h3,h4⟩:=hq;exact ⟨.inl ⟨.bool true,.bool true,[],rfl,λ_=>rfl,.bool true,RD l _,λ_=>⟨List.Pairwise.nil,λ_ hm=>(nomatch hm)⟩⟩,h2,h3,h4⟩
section
variable {prog:Program}{w:World}{A:Around}{E:Value->Shared->Prop}{s:Shared}{K:Frag}
noncomputable def d9 (h:Heap)(L d:Addr):List (Addr×Obj):=(List.range h.objs.size).filterMap λa=>if a=L\/a=d then none else (h.get? a).map λo=>(a,o)
end
end Att
namespace L2
open PySem PySem.Spec PyProof.Rows
theorem LQ:∀{vs:List Value} {ns:List Int},IntsAre vs ns->Vals (ns.map V.int) vs
 | _,_,.nil=>.nil
 | _,_,.cons n t h=>.cons ⟨t,rfl⟩ (LQ h)
def O4 (H:Hp):Prop:=∀b,H b=none\/∃o xs,H b=some (.frz o (.lst xs))
variable {P:Program}{w:World}{fd:FuncData}
theorem Tz {K:PySem.W.Frag}{mg mb:Str->Option Value}{CX:CXT}{k:Nat}{fa a:Addr}{x:Str}{sp:Sp}{s₁:Shared}{vs:List Value}{ns:List Int}
 (KX:K.In s₁.heap) (hns:s₁.heap.Ns mainGlobals mg) (hb:s₁.heap.Ns builtinsNs mb) (hbb:∀x:Str,x≠"__name__"->mb x=bootBuiltins x) (hlim:s₁.heap.NoLimit) (hg:s₁.gens=#[])
 (ha:s₁.heap.get? a=some { cls:=.type "list",data:=.seq vs.toArray }) (hi:IntsAre vs ns) (hl:ns.length<=sizeLine) (hr:Room k callerA)
 (F:∀base:Heap,K.In base->base.Ns mainGlobals mg->FnOk P w K mg base CX k fa fd [x] sp) (hbind:∀(s:Shared) (u:Value),BindsTo s fd ⟨[u],[]⟩ [(x,u)])
 (hsp:∀H:Hp,O4 H->SqL K H a (ns.map V.int)->sp [.ref a] H (λv _=>v = .bl true) λ_ _ _=>False)
 (hCX:∀H e s',CX [] H s₁ (λ_ _ _=>False) e s'->False) :
 codeAny (model P w) callerA (.call (.ref fa) ⟨[.ref a],[]⟩) (λr s'=>r = .ok (.ret (.bool true))/\OldK s₁.heap s'.heap/\s'.os=s₁.os/\AllBare s'.gens) s₁:=by
 have rv:=LQ hi;have lenV:=hi.length
 -- from an abstract heap in which nothing but the script may be tracked
 have core:∀H:Hp,O4 H->SqL K H a (ns.map V.int)->HOk P w H s₁.heap->(∀b,H b≠none->b=a)->(H a≠none->K.lookup a=none)->
  codeAny (model P w) callerA (.call (.ref fa) ⟨[.ref a],[]⟩) (λr s'=>r = .ok (.ret (.bool true))/\OldK s₁.heap s'.heap/\s'.os=s₁.os/\AllBare s'.gens) s₁:=by
  intro H hO hS hok hA hK;have base_of:∀{b:Addr} {o:Obj},s₁.heap.get? b=some o->H b=none->(Hb s₁.heap H).get? b=some o:=λe n=>Tv e n;have noA:∀{b:Addr} {o:Obj} {es:Array DictEntry} {ep:Nat},s₁.heap.get? b=some o->o.data = .dict es ep->H b=none:=λ{b o es ep} e d=>by
   cases q:H b with
   | none=>rfl
   | some u=>
     have e':b=a:=hA b (by rw [q];simp);subst e';rw [ha] at e;cases e
     have d':Data.seq vs.toArray _=Data.dict es ep:=d
     cases d'
  have nsK:∀{b:Addr} {m:Str->Option Value},s₁.heap.Ns b m->(Hb s₁.heap H).Ns b m:=λ{b m} ⟨o,es,ep,e,d,r⟩=>⟨o,es,ep,base_of e (noA e d),d,r⟩;have hKb:K.In (Hb s₁.heap H):=λb o e=>base_of (KX b o e) (by
   cases q:H b with
   | none=>rfl
   | some u=>
     have e':b=a:=hA b (by rw [q];simp);subst e';rw [hK (by rw [q];simp)] at e;cases e)
  have hM:Mod K mg (Hb s₁.heap H):=⟨hKb,nsK hns,⟨mb,nsK hb,hbb⟩,let ⟨mc,h1,h2⟩:=hlim;⟨mc,nsK h1,h2⟩⟩;have e0:Env0 P w K mg (Hb s₁.heap H) callerA [] s₁ H:=⟨rfl,hM,λb o e=>Wb e,Nat.le_of_eq (QV _ _),trivial,λb hb=>absurd (show b∈([]:List Addr) from hb) (by simp),hok,.of_eq hg⟩;refine codeAny_mono ((F _ hKb (nsK hns)).run callerA [] s₁ H ⟨[.ref a],[]⟩ [.ref a] [.ref a] _ _ hr e0 (hbind s₁ (.ref a)) (.cons rfl .nil) (hsp H hO hS)) λr s' h=>?_
  cases r with
  | error e=>exact (hCX H e s' h).elim
  | ok fl=>
    cases fl with
    | next=>exact False.elim h
    | brk=>exact False.elim h
    | cont=>exact False.elim h
    | ret u=>
      obtain ⟨v,H',os,bare,un,hok',r',q⟩:=h;have q':v = .bl true:=q;subst q';obtain rfl:u=Value.bool true:=r';refine ⟨rfl,OldK.of_keep λb o e=>?_,os,bare⟩
      cases q:H b with
      | none=>exact un.keep b o e q (by intro z;exact absurd (show b∈([]:List Addr) from z) (by simp)) (by simp)
      | some u=>
        rcases hO b with z | ⟨ob,xs,z⟩
        ·rw [q] at z;cases z
        ·have z2:=un.frzs b ob _ z;obtain ⟨e1,_⟩:=hok b _ z;obtain ⟨e2,_⟩:=hok' b _ z2;rw [e] at e1;cases e1
         exact e2
 cases hk:K.lookup a with
 | some o=>
   -- the script is one of the module's own objects
   have e:=KX a o hk;rw [ha] at e
   cases e
   refine core (λ_=>none) (λ_=>.inl rfl) (.inr ⟨_,vs.toArray,_,hk,rfl,rfl,rfl,by rw [ug0,lenV];exact hl,by simpa using rv⟩) (λb u z=>by have z':(none:Option HO)=some u:=z;cases z') (λb z=>absurd rfl z) λz=>absurd rfl z
 | none=>
   refine core (λb=>if b=a then some (.frz { cls:=.type "list",data:=.seq vs.toArray } (.lst (ns.map V.int))) else none) (λb=>?_) (.inl (.inr ⟨{ cls:=.type "list",data:=.seq vs.toArray },if_pos rfl⟩)) (λb u z=>?_) (λb z=>?_) λ_=>hk
   ·by_cases hb:b=a
    ·exact .inr ⟨_,_,if_pos hb⟩
    ·exact .inl (if_neg hb)
   ·by_cases hb:b=a
    ·have z':=(if_pos hb).symm.trans z
     cases z'
     subst hb;exact ⟨ha,by rw [ui6];exact hl,vs,_,rv,ha⟩
    ·have z':=(if_neg hb).symm.trans z
     cases z'
   ·by_cases hb:b=a
    ·exact hb
    ·exact absurd (if_neg hb) z
theorem Xn {l:PySem.W.OpenLaw}{n k:Nat}{q:Program}{loose:List Str}{XP:(Str->Option Value)->Heap->Prop}{YP:World->Heap->Prop}{d:DefRec}{K:Params->PySem.W.Frag}{CX:World->CXT}{sp:World->Sp}{x:Str}
 (hn:l.most=some n) (hn2:n<=sizeLine) (hdf:d.params.defaults=[]) (hr:Room k callerA)
 (hY:∀(w:World) (h:Heap),YP w h->(K w.params).In h)
 (F:∀(w:World) (mg:Str->Option Value) (fa:Addr) (h:Heap),(K w.params).In h->h.Ns mainGlobals mg->mg d.name=some (.ref fa)->
   ∃fd:FuncData,(∀(s:Shared) (u:Value),BindsTo s fd ⟨[u],[]⟩ [(x,u)])/\
    ∀base:Heap,(K w.params).In base->base.Ns mainGlobals mg->FnOk l.prog w (K w.params) mg base (CX w) k fa fd [x] (sp w))
 (hsp:∀(w:World) (H:Hp) (a:Addr) (ns:List Int),ns.length<=n->O4 H->SqL (K w.params) H a (ns.map V.int)->sp w [.ref a] H (λv _=>v = .bl true) λ_ _ _=>False)
 (hCX:∀(w:World) (H:Hp) (s:Shared) (e:Value) (s':Shared),CX w [] H s (λ_ _ _=>False) e s'->False) :
 PySem.W.WalkO q loose XP YP l.row.toRowW d [] (λf vs=>PySem.call f vs):=by
 refine Att.attach_call hn hdf λw s₀ s₁ mg mb fa o pm cd doc a vs ns G Y ho hd hcd hmg hobj hints hlen hg=>?_;have KX:=hY w _ Y;obtain ⟨fd,hb,hF⟩:=F w mg fa _ KX G.T.g hmg;exact Tz KX G.T.g G.T.b G.T.builtins G.T.nolimit hg hobj hints (um0 hlen hn2) hr hF hb (λH hO hS=>hsp w H a ns hlen hO hS) λH e s'=>hCX w H s₁ e s'
noncomputable def CU (s:Stmt):Arguments:=match s with
 | .FunctionDef _ a _ _ _ _ _ _ _ _=>a
 | _=>{ posonlyargs:=[],args:=[],vararg:=none,kwonlyargs:=[],kw_defaults:=[],kwarg:=none,defaults:=[] }
noncomputable def Be (s:Stmt):List Stmt:=match s with
 | .FunctionDef _ _ b _ _ _ _ _ _ _=>b
 | _=>[]
noncomputable def Al (s:Stmt):Scope:=match s with
 | .FunctionDef _ _ _ _ _ _ sc _ _ _=>sc
 | _=>{ kind:=.function,names:=[],isGenerator:=false,isCoroutine:=false }
abbrev CX0:CXT:=λ_ _ _ _ _ _=>False
abbrev E0:XK:=λ_ _ _=>False
variable {X:Cx}
theorem IS:FD CX0 X E0:=λ_ _ _ _ _ _ _ h=>h.elim
structure Fun (K:PySem.W.Frag)(x qual:Str)(st:Stmt)(f:Addr)(fd:FuncData):Prop where
 ex:∃(oc:Value) (od:Option Addr) (kV doc pm:Value) (an:Option Addr) (cdv ct:Value) (osl:Array (Option Value)),
  fd=PySem.W.fnOf x qual (CU st) (Be st) (Al st) .none kV doc pm an cdv ct/\K.lookup f=some ⟨oc,od,.func fd,osl⟩/\PySem.W.codeIn K cdv qual=true
 kp:PySem.W.keepIn K (.ref f)=true
variable {qual:Str}{f:Addr}
section
variable {P:Program}{w:World}{K:PySem.W.Frag}{mg:Str->Option Value}{base:Heap}
theorem Fun.ok {x:Str}{st:Stmt}{N ps:List Str}{k:Nat}{sp:Sp}(F:Fun K x qual st f fd)(S:FnScope N ps (Al st))(len:∀vs H Q E,sp vs H Q E->vs.length=ps.length)
 (hbody:∀(cdv:Value) (A:Around) (outer:List Env) (s:Shared) (H:Hp) (vs:List V) (Q:VK) (E:XK),Room k (A.deeper (envOfC qual (Al st) s.heap.objs.size f cdv))->sp vs H Q E->
   ∃t,PSs (DB CX0 P w K mg base N qual (Al st) f cdv A outer s H E).nox (Be st) t/\t { nx:=λ_ H'=>Q .non H',rt:=Q } (CQ N vs) H):FnOk P w K mg base CX0 (k + 1) f fd ps sp:=by
 obtain ⟨oc,od,kV,doc,pm,an,cdv,ct,osl,rfl,lk,hcd⟩:=F.ex;refine UW lk hcd S len λA outer s H vs Q E hr hsp=>?_;obtain ⟨t,h,q⟩:=hbody cdv A outer s H vs Q E hr hsp;exact ⟨t,h.nox,q⟩
theorem Fun.binds {x:Str}{st:Stmt}{ps:List Str}(F:Fun K x qual st f fd)
 (h:∀(kV doc pm:Value) (an:Option Addr) (cdv ct:Value) (us:List Value),us.length=ps.length->bindArgs (PySem.W.fnOf x qual (CU st) (Be st) (Al st) .none kV doc pm an cdv ct) ⟨us,[]⟩=pure (ps.zip us)):Binds K fd ps []:=by
 obtain ⟨oc,od,kV,doc,pm,an,cdv,ct,osl,rfl,lk,hcd⟩:=F.ex;exact .all (h kV doc pm an cdv ct)
theorem Fa {x:Str}{st:Stmt}{oc:Value}{od an:Option Addr}{osl:Array (Option Value)}{kV doc pm cdv ct:Value}(l:K.lookup f=some ⟨oc,od,.func (PySem.W.fnOf x qual (CU st) (Be st) (Al st) .none kV doc pm an cdv ct),osl⟩)
 (c:PySem.W.codeIn K cdv qual=true) (k:PySem.W.keepIn K (.ref f)=true):Fun K x qual st f (PySem.W.fnOf x qual (CU st) (Be st) (Al st) .none kV doc pm an cdv ct):=⟨⟨oc,od,kV,doc,pm,an,cdv,ct,osl,rfl,l,c⟩,k⟩
end
section
variable {X:Cx}
end
def eH (H H':Hp):Prop:=∀b o,H b=some o->H' b=some o
section
variable {κ:Type}[DecidableEq κ]
noncomputable def D1 (kvs:List (κ×V))(k:κ):Option V:=(kvs.find? λkv=>decide (kv.1=k)).map (·.2)
noncomputable def D0 (kvs:List (κ×V))(k:κ)(v:V):List (κ×V):=
 if (kvs.any λkv=>decide (kv.1=k))=true then kvs.map (λkv=>if kv.1=k then (kv.1,v) else kv) else kvs++[(k,v)]
theorem Hu {p:κ×V}{r:List (κ×V)}{k:κ}(e:p.1=k):D1 (p :: r) k=some p.2:=by simp [D1,uj3,e]
theorem Ht {p:κ×V}{r:List (κ×V)}{k:κ}(e:¬p.1=k):D1 (p :: r) k=D1 r k:=by simp [D1,uj3,e]
theorem Jb (kvs:List (κ×V))(k:κ)(v:V):(D0 kvs k v).length<=kvs.length + 1:=by
 unfold D0
 split
 ·rw [ui6];lia
 ·rw [uf4,uh1,uj4];lia
theorem RelO.isSome_eq {o:Option V}{u:Option Value}(r:RelO o u):o.isSome=u.isSome:=by
 cases o with
 | none=>cases u with
   | none=>rfl
   | some _=>exact (show False from r).elim
 | some _=>cases u with
   | none=>exact (show False from r).elim
   | some _=>rfl
theorem KV.val {kvs:List (κ×V)}{vs:List (κ×Value)}(r:KV kvs vs)(k:κ):RelO (D1 kvs k) (valueAt vs k):=by
 unfold KV at r
 induction r with
 | nil=>exact True.intro
 | @cons p q ps qs h t ih=>
   obtain ⟨h1,h2⟩:=h
   by_cases e:p.1=k
   ·have e':q.1=k:=h1.symm.trans e;have b:valueAt (q :: qs) k=some q.2:=by simp [valueAt,uj3,e']
    rw [Hu e,b];exact h2
   ·have e':¬q.1=k:=λz=>e (h1.trans z);have b:valueAt (q :: qs) k=valueAt qs k:=by simp [valueAt,uj3,e']
    rw [Ht e,b];exact ih
theorem KV.any {kvs:List (κ×V)}{vs:List (κ×Value)}(r:KV kvs vs)(k:κ):(kvs.any λkv=>decide (kv.1=k))=vs.any λkv=>decide (kv.1=k):=by
 unfold KV at r
 induction r with
 | nil=>rfl
 | cons h t ih=>rw [ul1,ul1,ih,h.1]
theorem KV.repl {kvs:List (κ×V)}{vs:List (κ×Value)}(r:KV kvs vs)(k:κ){y:V}{u:Value}(ry:RelV y u) :
 KV (kvs.map λkv=>if kv.1=k then (kv.1,y) else kv) (vs.map λkv=>if kv.1=k then (kv.1,u) else kv):=by
 unfold KV at r ⊢
 induction r with
 | nil=>exact .nil
 | @cons p q ps qs h t ih=>
   rw [uk9,uk9];refine .cons ?_ ih;obtain ⟨h1,h2⟩:=h
   by_cases e:p.1=k
   ·rw [if_pos e,if_pos (h1.symm.trans e)];exact ⟨h1,ry⟩
   ·rw [if_neg e,if_neg (λz=>e (h1.trans z))];exact ⟨h1,h2⟩
theorem KV.put {kvs:List (κ×V)}{vs:List (κ×Value)}(r:KV kvs vs)(k:κ){y:V}{u:Value}(ry:RelV y u):KV (D0 kvs k y) (stored vs k u):=by
 unfold D0 stored;rw [r.any k]
 by_cases e:(vs.any λkv=>decide (kv.1=k))=true
 ·rw [if_pos e,if_pos e];exact r.repl k ry
 ·rw [if_neg e,if_neg e];exact Paired.snoc r ⟨rfl,ry⟩
theorem KV.length {kvs:List (κ×V)}{vs:List (κ×Value)}(r:KV kvs vs):kvs.length=vs.length:=Paired.length r
end
theorem Kg {k:Key}{u:Value}(r:RelV (kV k) u):(BL P w).is k u=true:=by
 cases k with
 | inl i=>obtain ⟨t,e⟩:=(show ∃t,u=Value.int i t from r);subst e;exact NQ P w i t
 | inr x=>obtain ⟨t,e⟩:=(show ∃t,u=Value.str x t from r);subst e;exact NR P w x t
theorem LG {P:Program}{w:World}:∀{ks:List Key} {us:List Value},Vals (ks.map kV) us->ItemsAre (BL P w) ks us
 | [],_,r=>by rw [um3] at r;cases r;exact .nil
 | k :: ks,_,r=>by
   rw [uk9] at r
   cases r with
   | cons h t=>exact .cons (Kg h) (LG t)
abbrev KT (H:Hp):List (List Key×V)->List (List Key×Addr×Value)->Prop:=Paired λp q=>p.1=q.1/\H q.2.1=some (.tup (p.1.map kV))/\RelV p.2 q.2.2
variable {H:Hp}
theorem KT.val {kvs:List (List Key×V)}{xs:List (List Key×Addr×Value)}(r:KT H kvs xs)(k:List Key):RelO (D1 kvs k) ((atKey xs k).map (·.2)):=by
 induction r with
 | nil=>exact True.intro
 | @cons p q ps qs h t ih=>
   obtain ⟨h1,_,h2⟩:=h
   by_cases e:p.1=k
   ·have e':q.1=k:=h1.symm.trans e;have b:atKey (q :: qs) k=some q.2:=by simp [atKey,uj3,e']
    rw [Hu e,b];exact h2
   ·have e':¬q.1=k:=λz=>e (h1.trans z);have b:atKey (q :: qs) k=atKey qs k:=by simp [atKey,uj3,e']
    rw [Ht e,b];exact ih
variable {kvs:List (Key×V)}
section
variable {P:Program}{w:World}{H:Hp}{h:Heap}{a:Addr}
theorem U8 {u:HO}(ok:HOk P w H h)(e:Rd H a u):ObjOk P w H h a u:=e.ok ok
theorem UT (ok:HOk P w H h)(e:Rd H a (.dK kvs)):kvs.length<=sizeLine/\(a == sysModules)=false/\∃vs,KV kvs vs/\h.DictOf (BL P w) a vs:=
 show ObjOk P w H h a (.dK kvs) from U8 ok e
theorem Mb (ok:HOk P w H h)(e:H a=some (.dK kvs)):kvs.length<=sizeLine/\(a == sysModules)=false/\∃vs,KV kvs vs/\h.DictOf (BL P w) a vs:=UT ok (.inl e)
theorem Q8 {ks:List Key}(ok:HOk P w H h)(e:H a=some (.tup (ks.map kV))):(tupleKind (BL P w)).is h ks a:=by
 obtain ⟨_,its,r,o,h1,h2,n,h3⟩:=(show ObjOk P w H h a (.tup (ks.map kV)) from ok a _ e);exact ⟨o,its.toArray,n,h1,h2,h3,by simpa using LG r⟩
theorem ZY {kvs:List (List Key×V)}(ok:HOk P w H h)(e:Rd H a (.dT kvs)):kvs.length<=sizeLine/\(a == sysModules)=false/\
 ∃xs,KT H kvs xs/\h.DictOfH (tupleKind (BL P w)) a xs:=by
 obtain ⟨z,y,xs,r,o,es,ep,h1,h2,h3,h4,h5⟩:=(show ObjOk P w H h a (.dT kvs) from U8 ok e);refine ⟨z,y,xs,r,o,es,ep,h1,h2,h3,h4,λx hx=>?_,h5⟩;have all:∀{l:List (List Key×V)} {m:List (List Key×Addr×Value)},KT H l m->∀x∈m,(tupleKind (BL P w)).is h x.1 x.2.1:=by
  intro l m q
  induction q with
  | nil=>intro x hx;exact nomatch hx
  | @cons p q ps qs hq t ih=>
    intro x hx;rcases uk8.mp hx with e | hx
    ·subst e;exact Q8 ok (by rw [<-hq.1];exact hq.2.1)
    ·exact ih x hx
 exact all r x hx
end
def DGet (H:Hp)(a:Addr)(y:V)(r:Option V):Prop:=
 (∃kvs k,Rd H a (.dK kvs)/\y=kV k/\r=D1 kvs k)\/∃kvs k b,Rd H a (.dT kvs)/\y = .ref b/\H b=some (.tup (k.map kV))/\r=D1 kvs k
def eE (H:Hp)(a:Addr)(y v:V)(H':Hp):Prop:=
 (∃kvs k,H a=some (.dK kvs)/\y=kV k/\kvs.length < sizeLine/\H'=upd H a (.dK (D0 kvs k v)))\/
 ∃kvs k b,H a=some (.dT kvs)/\y = .ref b/\H b=some (.tup (k.map kV))/\kvs.length < sizeLine/\H'=upd H a (.dT (D0 kvs k v))
theorem DGet.k {a:Addr}{k:Key}(e:H a=some (.dK kvs)):DGet H a (kV k) (D1 kvs k):=.inl ⟨kvs,k,.inl e,rfl,rfl⟩
section
variable {X:Cx}{pins:List (Addr×Obj)}{σ:St}{H:Hp}{s:Shared}{a:Addr}{y v:V}{u r:Value}{o:Option V}{A:Around}{E:Value->Shared->Prop}
theorem Inv.big (I:Inv X pins σ H s):sysModules < s.heap.objs.size:=by
 have h:mainGlobals < s.heap.objs.size:=(I.mod.glob.keeps I.bk).lt;exact Nat.lt_trans (by decide) h
theorem bY {Q:Value->Shared->Prop}(hu:A.units + 1 < cLine)(I:Inv X pins σ H s)(g:DGet H a y o)(ry:RelV y u)(h:∀s',Inv X pins σ H s'->Q (.bool o.isSome) s') :
 wpAny (model X.prog X.w) A (compareOp .In u (.ref a)) Q E s:=by
 rcases g with ⟨kvs,k,e,ey,l⟩ | ⟨kvs,k,b,e,ey,eb,l⟩
 ·subst ey;obtain ⟨z,hd,vs,rel,dd⟩:=UT I.hok e;refine wpAny_in_of (Kg ry) hd dd.mapOf ?_;rw [<-(rel.val k).isSome_eq,<-l];exact h _ (I.tok _)
 ·subst ey
  cases (show u=Value.ref b from ry)
  obtain ⟨z,hd,xs,rel,dd⟩:=ZY I.hok e;refine wpAny_in_heap (tupleKind_room_in1 hu) (Q8 I.hok eb) hd dd ?_;have q:=(rel.val k).isSome_eq;rw [Option.isSome_map] at q;rw [<-q,<-l];exact h _ (I.tok _)
theorem N7 {h':Heap}{t':Nat}{ob:HO}(I:Inv X pins σ H s)(mu:Mut (H a))(hs:Heap.SameBut a s.heap h')(he:∃q,h'.get? a=some q)(new:ObjOk X.prog X.w (upd H a ob) h' a ob) :
 Inv X pins σ (upd H a ob) { s with heap:=h',toks:=t' }:=
 I.write (x:=a) (e:=a) mu (.inl rfl) (λb q hb z=>(hs.2 b hb).trans z) he new
theorem MT {H':Hp}{h':Heap}{vs:List (Key×Value)}(z:kvs.length<=sizeLine)(hd:(a == sysModules)=false)(rel:KV kvs vs)(dd:h'.DictOf (BL P w) a vs) :
 ObjOk P w H' h' a (.dK kvs):=⟨z,hd,vs,rel,dd⟩
end
section
variable {X:Cx}{pins:List (Addr×Obj)}{σ:St}{H:Hp}{s:Shared}{a:Addr}{kvs:List (Key×V)}{k:Key}{u:Value}{A:Around}{E:Value->Shared->Prop}
end
section
variable {X:Cx}{o i e value:Expr}{pos pos' tpos:Pos}{td ty tv:TE}
end
theorem MS (h:Heap)(hb:sysModules < h.objs.size):ObjOk P w H (h.push { cls:=.type "dict",data:=.dict #[] }) h.objs.size (.dK []):=
 ⟨um9 _,beq_eq_false_iff_ne.mpr (Ne.symm (ul9 hb)),[],.nil,Heap.DictOf.new h⟩
def Zx:TE:=λ_ H Q=>∀p,H p=none->Q (.ref p) (upd H p (.dK []))
section
variable {X:Cx}{pos:Pos}
theorem T6:PE X (.Dict [] [] pos) Zx:=λpins s σ H Q I h=>
 wpAny_Dict_empty ⟨.ref s.heap.objs.size,_,I.laid (a:=s.heap.objs.size) (o:=.dK []) (t':=s.toks) (λ_ _ q=>uc2 _ q) (um8 _) (MS s.heap I.big),rfl,h _ (I.hok.fresh (um8 _))⟩
end
def Kw:List (TE×TE)->St->Hp->(List (V×V)->Hp->Prop)->Prop
 | [],_,H,Q=>Q [] H
 | (tk,tv) :: r,σ,H,Q=>tk σ H λx H1=>tv σ H1 λy H2=>Kw r σ H2 λps H3=>Q ((x,y) :: ps) H3
abbrev VV:List (V×V)->List (Value×Value)->Prop:=Paired λp q=>RelV p.1 q.1/\RelV p.2 q.2
def PPs (X:Cx)(pos:Pos)(keys:List (Option Expr))(values:List Expr)(trs:List (TE×TE)):Prop:=
 ∀(pins:List (Addr×Obj)) (s:Shared) (σ:St) (H:Hp) (Q:List (V×V)->Hp->Prop),Inv X pins σ H s->Kw trs σ H Q->
  wpAny (model X.prog X.w) X.A (evalPairs (pairTrees keys values X.env pos)) (λvs s'=>∃ps H',Inv X pins σ H' s'/\VV ps vs/\Q ps H') X.xe s
theorem WB {pos:Pos}:PPs X pos [] [] []:=λpins s σ H Q I h=>pairTrees_nil_walk ⟨[],H,I,.nil,h⟩
theorem Ud {pos:Pos}{k v:Expr}{ks:List (Option Expr)}{vs:List Expr}{tk tv:TE}{trs:List (TE×TE)}(hk:PE X k tk)(hv:PE X v tv)(hr:PPs X pos ks vs trs) :
 PPs X pos (some k :: ks) (v :: vs) ((tk,tv) :: trs):=λpins s σ H Q I h=>
 pairTrees_cons_walk (thn (hk pins s σ H _ I h) λu s1 ⟨x,H1,I1,rx,q1⟩=>thn (hv pins s1 σ H1 _ I1 q1) λw2 s2 ⟨y,H2,I2,ry,q2⟩=>
  thn (hr pins s2 σ H2 _ I2 q2) λws s3 ⟨ps,H3,I3,rel,q3⟩=>⟨(x,y) :: ps,H3,I3,.cons ⟨rx,ry⟩ rel,q3⟩)
def FX (kvs more:List (Key×V)):List (Key×V):=more.foldl (λacc kv=>D0 acc kv.1 kv.2) kvs
theorem KV.merge:∀{more:List (Key×V)} {rs:List (Key×Value)} {kvs:List (Key×V)} {vs:List (Key×Value)},KV more rs->KV kvs vs->KV (FX kvs more) (merged vs rs):=by
 intro more rs kvs vs r;unfold KV at r
 induction r generalizing kvs vs with
 | nil=>intro q;exact q
 | @cons p q ps qs h t ih=>
   intro r0;have e:KV (D0 kvs p.1 p.2) (stored vs q.1 q.2):=by
    have:=r0.put p.1 h.2;rw [<-h.1];exact this
   exact ih e
theorem Hy:∀(more kvs:List (Key×V)),(FX kvs more).length<=kvs.length + more.length
 | [],kvs=>by show kvs.length<=kvs.length + 0;lia
 | p :: r,kvs=>by
   have h1:=Hy r (D0 kvs p.1 p.2);have h2:=Jb kvs p.1 p.2;show (FX (D0 kvs p.1 p.2) r).length<=_;rw [uh1];lia
theorem JZ {P:Program}{w:World}:∀{kvs:List (Key×V)} {ws:List (Value×Value)},VV (kvs.map λkv=>(kV kv.1,kv.2)) ws->∃rs,Carries (BL P w) ws rs/\KV kvs rs
 | [],_,r=>by rw [um3] at r;cases r;exact ⟨[],True.intro,.nil⟩
 | p :: kvs,_,r=>by
   rw [uk9] at r
   cases r with
   | @cons a b as bs h t=>
     obtain ⟨rs,c,q⟩:=JZ (P:=P) (w:=w) t;obtain ⟨b1,b2⟩:=b;exact ⟨(p.1,b2) :: rs,⟨Kg h.1,rfl,c⟩,.cons ⟨rfl,h.2⟩ q⟩
def aL (trs:List (TE×TE)):TE:=λσ H Q=>∀p,H p=none->Kw trs σ (upd H p (.dK [])) λps H2=>H2 p=some (.dK [])/\∃kvs:List (Key×V),ps=kvs.map (λkv=>(kV kv.1,kv.2))/\kvs.length<=15/\Q (.ref p) (upd H2 p (.dK (FX [] kvs)))
theorem Wo {pos:Pos}{keys:List (Option Expr)}{values:List Expr}{trs:List (TE×TE)}(h:PPs X pos keys values trs)(hall:keys.all (·.isSome)=true)(hl:keys.length=values.length)(h0:keys≠[])
 (h15:keys.length<=15):PE X (.Dict keys values pos) (aL trs):=by
 intro pins s σ H Q I q;have hn:=I.hok.fresh (um8 s.heap.objs.size);have I1:=I.laid (a:=s.heap.objs.size) (o:=.dK []) (h':=s.heap.push { cls:=.type "dict",data:=.dict #[] }) (t':=s.toks) (λ_ _ q=>uc2 _ q) (um8 _) (MS s.heap I.big);refine wpAny_Dict_walk (knd:=BL X.prog X.w) hall hl h0 h15 (thn (h pins _ σ _ _ I1 (q _ hn)) λws s2 z9=>?_);obtain ⟨ps,H2,I2,rel,e,kvs,ep,lk,q2⟩:=z9;subst ep;obtain ⟨rs,c,rk⟩:=JZ (P:=X.prog) (w:=X.w) rel;obtain ⟨z,hd,vs0,r0,dd⟩:=Mb I2.hok e
 cases r0
 refine ⟨rs,c,dd,λh' dd' hs=>⟨.ref s.heap.objs.size,_,?_,rfl,q2⟩⟩;have hz:(FX [] kvs).length<=sizeLine:=by
  have h1:=Hy kvs [];rw [uj4] at h1;rw [sizeLine_eq];lia
 have he:∃q,h'.get? s.heap.objs.size=some q:=let ⟨q,_,_,hq,_⟩:=dd';⟨q,hq⟩;exact N7 I2 (by rw [e];exact True.intro) hs he (MT hz hd (rk.merge .nil) dd')
theorem FI {env:Env}:∀(l:List (Str×NameKind)) (cs:List (Str×Addr)),(∀x c,cs.lookup x=some c->env.cells.lookup x=some c)->(∀y∈l,y.2 = .free->∃c,env.cells.lookup y.1=some c)->
 ∃cl,(forIn l cs λ(x:Str×NameKind) r=>(match x with | (name,kind)=>if (kind == NameKind.free)=true then do let c <-cellOf env name;pure (ForInStep.yield ((name,c) :: r)) else pure (ForInStep.yield r):Sem (ForInStep (List (Str×Addr)))))=pure cl/\
  (∀x c,cl.lookup x=some c->env.cells.lookup x=some c)/\(∀x c,cs.lookup x=some c->∃c',cl.lookup x=some c')/\∀y∈l,y.2 = .free->∃c,cl.lookup y.1=some c
 | [],cs,h,_=>⟨cs,rfl,h,λ_ c e=>⟨c,e⟩,λ_ z=>nomatch z⟩
 | (n,k) :: l,cs,h,hf=>by
   by_cases hk:k = .free
   ·subst hk;obtain ⟨c,hc⟩:=hf (n,.free) uf0 rfl;have hc':env.cells.lookup n=some c:=hc;have e:cellOf env n=pure c:=by unfold cellOf;rw [hc']
    obtain ⟨cl,e1,e2,e3,e4⟩:=FI l ((n,c) :: cs) (λx c' q=>by
     rw [uh6] at q
     by_cases hx:(x == n)=true
     ·rw [hx] at q;cases q;rw [eq_of_beq hx];exact hc'
     ·rw [ug5.mpr hx] at q;exact h x c' q) (λy hy=>hf y (ud8 _ hy))
    have self:((n,c) :: cs).lookup n=some c:=by rw [uh6,ui3]
    refine ⟨cl,?_,e2,λx c' q=>?_,λy hy hyf=>?_⟩
    ·rw [List.forIn_cons];simp only [ui3,if_true,e];exact e1
    ·by_cases hx:(x == n)=true
     ·rw [eq_of_beq hx];exact e3 n c self
     ·exact e3 x c' (by rw [uh6,ug5.mpr hx];exact q)
    ·rcases uk8.mp hy with z | z
     ·subst z;exact e3 n c self
     ·exact e4 y z hyf
   ·have hb:(k == NameKind.free)=false:=by simpa using hk
    obtain ⟨cl,e1,e2,e3,e4⟩:=FI l cs h (λy hy=>hf y (ud8 _ hy));refine ⟨cl,?_,e2,e3,λy hy hyf=>?_⟩
    ·rw [List.forIn_cons];simp only [hb,uf5,if_false];exact e1
    ·rcases uk8.mp hy with z | z
     ·subst z;exact absurd hyf hk
     ·exact e4 y z hyf
theorem Ph {scope:Scope}{env:Env}(h:∀y∈scope.names,y.2 = .free->∃c,env.cells.lookup y.1=some c) :
 ∃cl,closureFor scope env=pure cl/\(∀x c,cl.lookup x=some c->env.cells.lookup x=some c)/\∀y∈scope.names,y.2 = .free->∃c,cl.lookup y.1=some c:=by
 obtain ⟨cl,e1,e2,_,e4⟩:=FI (env:=env) scope.names [] (λ_ _ q=>nomatch q) h;refine ⟨cl,?_,e2,e4⟩;simp only [closureFor]
 first | (rw [e1];rfl) | (simp only [e1];rfl) | (trace_state;exact e1)
theorem MR {prog:Program}{A:Around}{R:Result->Shared->Prop}{s:Shared}{elt target iter:Expr}{ifs:List Expr}{scope:Scope}{pos:Pos}{it acc:Value}{env:Env}(I:Nat->Shared->Prop)
 (turn:∀n s,I n s->wpAny (model prog w) A (pyNext it) (λr s₁=>match r with
   | none=>R (.ok .next) s₁
   | some v=>wpAny (model prog w) A (letOwnedTupleGo target it v) (λ_ s₁'=>wpAny (model prog w) A (assign target env v) (λ_ s₂=>
      wpAny (model prog w) A (forIn ifs true λc r=>if r=true then do let ok <-isTrue c env (eval c env);pure (ForInStep.yield ok) else pure (ForInStep.yield r)) (λok s₃=>
       if ok=true then wpAny (model prog w) A (eval elt env) (λx s₄=>
        wpAny (model prog w) A (call (.builtin "list.append") [acc,x]) (λ_ s₅=>∃m,m < n/\I m s₅) (λ_ _=>False) s₄) (λ_ _=>False) s₃
       else ∃m,m < n/\I m s₃) (λ_ _=>False) s₂) (λ_ _=>False) s₁') (λ_ _=>False) s₁) (λ_ _=>False) s)
 (n:Nat) (h:I n s) :
 codeAny (model prog w) A (.compLoop (.ListComp elt [⟨target,iter,ifs,0⟩] scope pos) 0 it acc env) R s:=by
 refine codeAny_loop rfl I (λn s hI=>?_) n h;show wpAny _ A ((compTurn (.ListComp elt [⟨target,iter,ifs,0⟩] scope pos) 0 it acc env).onRaise (λx=>do noteFrame x env;theTreesLotGoes x)) _ _ s;refine wpAny_noted ?_;rw [compTurn_list];refine un2 (wpAny_standAt (un2 (un4 (turn n s hI) (λr s₁ h₁=>?_) λ_ _ h'=>h'.elim)))
 cases r with
 | none=>exact un3 h₁
 | some v=>
   refine un2 (un4 h₁ (λ_ s₁' h₁'=>?_) λ_ _ h'=>h'.elim);refine un2 (un4 h₁' (λ_ s₂ h₂=>un2 (un4 h₂ (λok s₃ h₃=>?_) λ_ _ h'=>h'.elim)) λ_ _ h'=>h'.elim)
   cases ok with
   | false=>exact un3 ⟨rfl,h₃⟩
   | true=>
     exact un2 (un2 (un4 h₃ (λx s₄ h₄=>un2 (un4 h₄ (λ_ s₅ h₅=>un3 (un3 ⟨rfl,h₅⟩)) λ_ _ h'=>h'.elim)) λ_ _ h'=>h'.elim))
end L2
set_option maxHeartbeats 2000000
namespace L2
open PySem PySem.Spec PyProof.Rows
noncomputable def Co (X:Cx)(N':List Str)(scope:Scope)(cl:List (Str×Addr))(C:Addr)(s2:Shared)(H2:Hp)(fp:List Addr):Cx where
 prog:=X.prog
 w:=X.w
 K:=X.K
 mg:=X.mg
 base:=X.base
 A:=X.A
 N:=N'
 s₀:=s2
 H₀:=H2
 env:=compEnvC scope cl C X.env
 outer:=X.stack
 stack:=X.stack
 ex:=fp
 fn:=λ_=>false
 calm:=X.calm
 pn:=[]
 xe:=λ_ _=>False
theorem Jc (h:Str->NameKind->NameKind)(x:Str):∀l:List (Str×NameKind),(l.map λp=>(p.1,h p.1 p.2)).lookup x=(l.lookup x).map (h x)
 | []=>rfl
 | (n,k) :: l=>by
   show List.lookup x ((n,h n k) :: _)=_;rw [uh6,uh6]
   by_cases hx:(x == n)=true
   ·rw [hx,eq_of_beq hx];rfl
   ·rw [ug5.mpr hx];exact Jc h x l
theorem GJ (scope:Scope)(env:Env)(x:Str):(relabel scope env).names.lookup x=(scope.names.lookup x).map λk=>if (k == .free && env.scope.kind == .function && env.kindOf x == some .cell)=true then .cell else k:=by
 rw [<-Jc (λn k=>if (k == NameKind.free && env.scope.kind == .function && env.kindOf n == some .cell)=true then .cell else k) x scope.names];unfold relabel;dsimp only
 congr 1
 apply ue6;intro p _;obtain ⟨n,k⟩:=p;dsimp only
 split <;> rfl
theorem C3 {x:Str}{k:NameKind}:∀{l:List (Str×NameKind)},l.lookup x=some k->(x,k)∈l
 | (n,k') :: l,h=>by
   rw [uh6] at h
   by_cases hx:(x == n)=true
   ·rw [hx] at h;cases h;rw [eq_of_beq hx];exact uf0
   ·rw [ug5.mpr hx] at h;exact ud8 _ (C3 h)
theorem Nv {scope:Scope}{env:Env}{x:Str}(hcell:∀y∈scope.names,y.2≠.cell)(h:(relabel scope env).names.lookup x=some .cell\/(relabel scope env).names.lookup x=some .free):scope.names.lookup x=some .free:=by
 rw [GJ] at h
 cases e:scope.names.lookup x with
 | none=>rw [e] at h;rcases h with h | h <;> cases h
 | some k=>
   by_cases hk:k = .free
   ·rw [hk]
   ·have hb:(k == NameKind.free)=false:=by simpa using hk
    rw [e] at h;simp only [uj5,hb,uk3,uf5,if_false] at h;rcases h with h | h
    ·cases h;exact absurd rfl (hcell _ (C3 e))
    ·cases h;exact absurd rfl hk
def PIf (X:Cx)(ifs:List Expr)(t:TT):Prop:=
 ∀(pins:List (Addr×Obj)) (s:Shared) (σ:St) (H:Hp) (Q:Bool->Hp->Prop),Inv X pins σ H s->t σ H Q->
  wpAny (model X.prog X.w) X.A (forIn ifs true λc r=>if r=true then do let ok <-isTrue c X.env (eval c X.env);pure (ForInStep.yield ok) else pure (ForInStep.yield r)) (TP X pins σ Q) X.xe s
def aQ:TT:=λ_ H Q=>Q true H
theorem Wv {X:Cx}:PIf X [] aQ:=λ_ _ _ H _ I h=>wpAny_tests_nil ⟨H,I,h⟩
theorem Ww {X:Cx}{c:Expr}{t:TT}(h:PT X c t):PIf X [c] t:=λpins s σ H Q I q=>wpAny_tests_one (h pins s σ H Q I q)
def Sc (J:It)(g:TG)(tt:TT)(te:TE)(σ₀:St)(H1:Hp)(Fin:List V->Hp->Prop):Prop:=
 ∃W:Nat->Nat->List V->St->Hp->Prop,(∃m,W 0 m [] σ₀ H1)/\∀i m acc σ' H',W i m acc σ' H'->acc.length<=sizeLine/\
  ((J.stop i H'/\Fin acc H')\/
    (J.go i H'/\∀x H2,J.yld i H' x H2->g x σ' H2 λσ3 H3=>tt σ3 H3 λb H4=>if b=true then te σ3 H4 λv H5=>∃m',m' < m/\W (i + 1) m' (acc++[v]) σ3 H5 else ∃m',m' < m/\W (i + 1) m' acc σ3 H4))
def Mh (wi:TI)(g:TG)(tt:TT)(te:TE)(σf:St->St):TE:=λσ H Q=>wi σ H λJ H1=>Sc J g tt te (σf σ) H1 λacc H'=>∀p,H' p=none->acc.length<=sizeLine->Q (.ref p) (upd H' p (.lst acc))
structure CmpOk (X:Cx)(scope:Scope)(N':List Str)(σf:St->St):Prop where
 kind:scope.kind = .function
 cell:∀y∈scope.names,y.2≠.cell
 loc:∀y∈scope.names,y.2 = .local->scope.names.lookup y.1=some .local
 free:∀y∈scope.names,y.2 = .free->X.env.kindOf y.1=some .cell\/X.env.kindOf y.1=some .free
 len:∀σ:St,σ.length=X.N.length->(σf σ).length=N'.length
 vals:∀(σ:St) (j:Nat) (x:Str) (v:V),N'[j]?=some x->(σf σ)[j]?=some (some v)->∃i:Nat,X.N[i]?=some x/\σ[i]?=some (some v)/\scope.names.lookup x=some .free
variable {pins:List (Addr×Obj)}{σ:St}{H2:Hp}{s2:Shared}{cl:List (Str×Addr)}{fp:List Addr}
section
variable {X:Cx}{tg elt iter:Expr}{ifs:List Expr}{scope:Scope}{pos:Pos}{N':List Str}{wi:TI}{g:TG}{tt:TT}{te:TE}{σf:St->St}
theorem XH {C:Addr}(O:CmpOk X scope N' σf)(I2:Inv X pins σ H2 s2)(f2:∀b∈fp,FpOk X pins H2 b)(hC:s2.heap.objs.size<=C)
 (hlt:∀b∈fp,b < s2.heap.objs.size) (e2:∀x c,cl.lookup x=some c->X.env.cells.lookup x=some c) (e4:∀y∈scope.names,y.2 = .free->∃c,cl.lookup y.1=some c):(Co X N' scope cl C s2 H2 fp).Ok where
 mod:=I2.ok.mod
 kind:=O.kind
 glob:=I2.ok.glob
 blt:=I2.ok.blt
 above:=hC
 inj:=λx y c h1 h2=>I2.ok.inj x y c (e2 x c h1) (e2 y c h2)
 has:=λx h=>by
  have q:=Nv (env:=X.env) (x:=x) O.cell h;exact e4 _ (C3 q) rfl
 cab:=λx c h _=>nomatch h
 hd:=I2.ok.hd
 frames:=I2.ok.frames
 stk:=.inl rfl
 exf:=λb hb=>⟨ul9 (ue9 (hlt b hb) hC),λx c e=>(f2 b hb).2.2.2.2.1 x c (e2 x c e)⟩
 bs:=I2.bs
 bsz:=um0 I2.ok.bsz I2.sz
 noex:=λb o e hb=>by
  rcases (f2 b hb).2.2.2.1 with z | z
  ·exact I2.ok.noex b o e z
  ·exact absurd (ue9 (ul8 (I2.ok.bs b o e).1) z) (uk7 _)
 exfs:=λb hb z=>by
  rcases uk8.mp (I2.stkSub b z) with q | q
  ·exact (f2 b hb).2.1 q
  ·exact (f2 b hb).2.2.1 q
 funs:=I2.stack
 frf:=I2.stkFree
theorem Zt (I2:Inv X pins σ H2 s2){a:Addr}(h:s2.heap.objs.size<=a):a∉frs X.stack:=λhb=>by
 rcases uk8.mp (I2.stkSub a hb) with q | q
 ·exact absurd (ue9 I2.lt h) (by rw [q];exact uk7 _)
 ·exact I2.nofs h q
theorem SO {it:Addr}{tn:Nat->Heap->Prop}{J:It}{Fin:List V->Hp->Prop}{RR:Value->Addr->Result->Shared->Prop}{E:Value->Shared->Prop}(O:CmpOk X scope N' σf)(hc:X.calm=true)
 (I2:Inv X pins σ H2 s2) (T:Turn X.prog X.w X.K tg J fp it tn) (st2:tn 0 s2.heap) (f2:∀b∈fp,FpOk X pins H2 b)
 (e2:∀x c,cl.lookup x=some c->X.env.cells.lookup x=some c) (e4:∀y∈scope.names,y.2 = .free->∃c,cl.lookup y.1=some c)
 (hg:∀C,PG (Co X N' scope cl C s2 H2 fp) tg g) (ht:∀C,PIf (Co X N' scope cl C s2 H2 fp) ifs tt) (he:∀C,PE (Co X N' scope cl C s2 H2 fp) elt te)
 (B:Sc J g tt te (σf σ) H2 Fin)
 (fin:∀C s' σ' H' acc m,s2.heap.objs.size<=C->C≠s2.heap.objs.size->Inv (Co X N' scope cl C s2 H2 fp) [] σ' H' s'->H' s2.heap.objs.size=none->acc.length<=sizeLine->(∃its n,Vals acc its/\s'.heap.get? s2.heap.objs.size=some { cls:=.type "list",data:=.seq its.toArray n })->Fin acc H'->s'.heap.Ns C m->
   RR (.ref s2.heap.objs.size) C (.ok .next) s') :
 wpAny (model X.prog X.w) X.A (newList []) (λacc s₃=>wpAny (model X.prog X.w) X.A (newFunctionEnv scope X.env.globals cl [] X.env.qual none .none (some X.env)) (λcenv s₄=>
  codeAny (model X.prog X.w) X.A (.compStart (.ListComp elt [⟨tg,iter,ifs,0⟩] scope pos) 0 (.ref it) acc { cenv with scope:=relabel scope X.env }) (RR acc cenv.locals) s₄) E s₃) E s2:=by
 refine wpAny_newObj_type (wpAny_newFunctionEnv O.cell (by intro y hy;simp at hy) (λh₁ hns₁ hsb₁=>?_) O.kind);dsimp only at hns₁ hsb₁ ⊢;generalize hH2:s2.heap.push { cls:=.type "list",dict:=none,data:=.seq ([]:List Value).toArray }=HP at hns₁ hsb₁ ⊢;have hC:HP.objs.size=s2.heap.objs.size + 1:=by rw [<-hH2,Heap.size_push]
 generalize hDD:s2.heap.objs.size=DD at *;generalize hCC:HP.objs.size=CC at *;have hDC:DD≠CC:=by rw [hC];exact ul9 (uh2 _)
 have hCle:s2.heap.objs.size<=CC:=by rw [hC,hDD];exact un0 _
 have hlt:∀b∈fp,b < s2.heap.objs.size:=λb hb=>by obtain ⟨o,e,_⟩:=T.obj _ _ st2 b hb;exact ul8 e
 have hlt':∀b∈fp,b < DD:=λb hb=>by rw [<-hDD];exact hlt b hb
 have below:∀b,b < DD->b≠CC/\b≠DD:=λb hb=>⟨by rw [hC];exact ul9 (Nat.lt_succ_of_lt hb),ul9 hb⟩;have old:∀b o,s2.heap.get? b=some o->h₁.get? b=some o:=λb o e=>hsb₁.extBut b o (below b (by rw [<-hDD];exact ul8 e)).1 (uc2 _ (hH2 ▸ uc2 _ e));have hacc:h₁.get? DD=some { cls:=.type "list",data:=.seq ([]:List Value).toArray }:=by
  refine hsb₁.extBut _ _ hDC (uc2 _ ?_);rw [<-hH2,<-hDD];exact ue3 _ rfl
 have ok:=XH (cl:=cl) (C:=CC) O I2 f2 hCle hlt e2 e4;have hfs:DD∉frs X.stack:=Zt I2 (by rw [hDD];exact um8 _);obtain ⟨W,⟨m0,w0⟩,turn⟩:=B
 let X':Cx:=Co X N' scope cl CC s2 H2 fp
 have I0:Inv X' [] (σf σ) H2 { s2 with heap:=h₁,toks:=s2.toks + ([]:List (Str×Value)).length }:=by
  refine ⟨ok,rfl,I2.bare,Un.kept old,⟨_,hns₁,λj x v q1 q2 q3=>?_⟩,λx c e=>?_,I2.hok.fresh hCle,λx c e=>I2.freeC x c (e2 x c e),(λp hp=>nomatch hp),I2.hok.kept old,O.len σ I2.len⟩
  ·obtain ⟨i,n1,n2,n3⟩:=O.vals σ j x v q1 q2;obtain ⟨m,_,hl⟩:=I2.loc;have hfr:=O.free _ (C3 n3) rfl;obtain ⟨u,r,l⟩:=hl i x v n1 n2 (.inr hfr);refine ⟨u,r,?_⟩;rcases l with ⟨k,_⟩ | ⟨_,c,ec,hcell⟩
   ·rcases hfr with z | z <;> (have z':=k.symm.trans z;cases z')
   ·obtain ⟨c',ec'⟩:=e4 _ (C3 n3) rfl;have z:=e2 _ _ ec';have ez:X.env.cells.lookup x=some c':=z;rw [ec] at ez
    cases ez
    refine .inr ⟨?_,c,ec',?_⟩
    ·show (relabel scope X.env).names.lookup x=some .cell\/(relabel scope X.env).names.lookup x=some .free;rw [GJ,n3];simp only [uj5]
     split
     ·exact .inl rfl
     ·exact .inr rfl
    ·obtain ⟨o,ho,hd⟩:=hcell;exact ⟨o,old _ _ ho,hd⟩
  ·obtain ⟨v,o,ho,hd⟩:=I2.cell x c (e2 x c e);exact ⟨v,o,old _ _ ho,hd⟩
 have loop:∀s₃:Shared,s₃ = { s2 with heap:=h₁,toks:=s2.toks + ([]:List (Str×Value)).length }->
  codeAny (model X.prog X.w) X.A (.compLoop (.ListComp elt [⟨tg,iter,ifs,0⟩] scope pos) 0 (.ref it) (.ref DD) (compEnvC scope cl CC X.env)) (RR (.ref DD) CC) s₃:=by
  rintro s₃ rfl;refine MR (λn s'=>∃i acc its nn σ' H',Inv X' [] σ' H' s'/\tn i s'.heap/\(∀b∈fp,H' b=none)/\Vals acc its/\s'.heap.get? DD=some { cls:=.type "list",data:=.seq its.toArray nn }/\H' DD=none/\W i n acc σ' H') ?_ m0
   ⟨0,[],[],0,σf σ,H2,I0,T.keep _ _ _ st2 (λb _ o e=>old b o e),λb hb=>(f2 b hb).1,.nil,hacc,I2.hok.fresh (by rw [hDD];exact um8 _),w0⟩
  rintro n s' ⟨i,acc,its,nn,σ3,H3,I3,st3,fr3,hv,hD,hDn,w3⟩;have I3p:Inv X' [(DD,({ cls:=.type "list",data:=.seq its.toArray nn }:Obj))] σ3 H3 s':=I3.pins_of λp hp=>by
   have e:p=(DD,({ cls:=.type "list",data:=.seq its.toArray nn }:Obj)):=by simpa using hp
   subst e;exact ⟨hD,hDn,hDC,hfs,λv z=>nomatch z⟩
  have stat:∀{pins':List (Addr×Obj)} {H':Hp},(∀p∈pins',p.1=DD)->(∀b∈fp,H' b=none)->∀b∈fp,FpOk X' pins' H' b:=λ{pins' H'} hp hn b hb=>
   ⟨hn b hb,(ok.exf b hb).1,ok.exfs b hb,.inl hb,(ok.exf b hb).2,λp hp' z=>by
    have e:p.1=DD:=hp p (by simpa [X',Co] using hp');exact absurd (hlt' b hb) (by rw [<-z,e];exact uk7 _)⟩
  have one:∀p∈[(DD,({ cls:=.type "list",data:=.seq its.toArray nn }:Obj))],p.1=DD:=λp hp=>by
   have e:p=(DD,({ cls:=.type "list",data:=.seq its.toArray nn }:Obj)):=by simpa using hp
   rw [e]
  obtain ⟨hz,tr⟩:=turn i n acc σ3 H3 w3;rcases tr with ⟨stop,qf⟩ | ⟨go,step⟩
  ·refine thn (T.done X' rfl rfl rfl hc i _ s' σ3 H3 (λ_ _=>False) I3p (stat one fr3) st3 stop) λr s4 z9=>?_;obtain ⟨hr,I4⟩:=z9;subst hr;obtain ⟨m4,hm4,_⟩:=I4.loc;have pD:=(I4.pin (DD,({ cls:=.type "list",data:=.seq its.toArray nn }:Obj)) (by simp [X',Co])).1;have I4':Inv X' [] σ3 H3 s4:=I4.pins_of λp hp=>nomatch hp;exact fin CC s4 σ3 H3 acc m4 (by rw [hDD] at hCle;exact hCle) (Ne.symm hDC) I4' hDn hz ⟨its,nn,hv,pD⟩ qf hm4
  ·refine thn (T.item X' rfl rfl rfl hc i _ s' σ3 H3 (λ_ _=>False) I3p (stat one fr3) st3 go) λr s4 z9=>?_;obtain ⟨u,hr,h4⟩:=z9;subst hr;refine thn h4 λ_ s5 z9=>?_;obtain ⟨x,H5,I5,r5,y5,st5,fr5⟩:=z9;have I5':=I5.pinned (stat one fr5) (T.obj _ _ st5);refine thn (hg CC _ s5 σ3 H5 x u _ I5' r5 (step x H5 y5)) λ_ s6 z9=>?_;obtain ⟨σ6,H6,I6,q6⟩:=z9;refine thn (ht CC _ s6 σ6 H6 _ I6 q6) λb s7 z9=>?_;obtain ⟨H7,I7,q7⟩:=z9;have back:∀{H8:Hp} {s8:Shared},Inv X' ([(DD,({ cls:=.type "list",data:=.seq its.toArray nn }:Obj))]++Iq fp s5.heap) σ6 H8 s8->
    s8.heap.get? DD=some { cls:=.type "list",data:=.seq its.toArray nn }/\H8 DD=none/\tn (i + 1) s8.heap/\(∀b∈fp,H8 b=none)/\Inv X' [] σ6 H8 s8:=λ{H8 s8} I8=>by
    have p1:=I8.pin (DD,({ cls:=.type "list",data:=.seq its.toArray nn }:Obj)) (by simp [X',Co]);refine ⟨p1.1,p1.2.1,T.keep _ _ _ st5 λb hb o e=>(I8.pin (b,o) (ud1 _ (ud1 _ (Fw hb e)))).1,λb hb=>?_,I8.pins_of λp hp=>nomatch hp⟩;obtain ⟨o,e,_⟩:=T.obj _ _ st5 b hb;exact (I8.pin (b,o) (ud1 _ (ud1 _ (Fw hb e)))).2.1
   cases b with
   | false=>
     rw [if_neg uf1] at q7 ⊢;obtain ⟨m',hm,w7⟩:=q7;obtain ⟨a1,a2,a3,a4,a5⟩:=back I7;exact ⟨m',hm,i + 1,acc,its,nn,σ6,H7,a5,a3,a4,hv,a1,a2,w7⟩
   | true=>
     rw [if_pos rfl] at q7 ⊢;refine thn (he CC _ s7 σ6 H7 _ I7 q7) λy s8 z9=>?_;obtain ⟨v8,H8,I8,r8,m',hm,w8⟩:=z9;obtain ⟨a1,a2,a3,a4,a5⟩:=back I8;have hsz:its.toArray.size<=sizeLine:=by
      have e:=hv.length;simpa [e] using hz
     refine wpAny_list_append_plain (hsz:=hsz) ⟨nn,a1⟩ λh9 hl9 hs9=>?_;obtain ⟨n9,e9⟩:=hl9;have e9':h9.get? DD=some { cls:=.type "list",data:=.seq (its++[y]).toArray n9 }:=by simpa using e9
     refine ⟨m',hm,i + 1,acc++[v8],its++[y],n9,σ6,H8,a5.turned (t':=s8.toks) (h':=h9) (it:=DD) (λb o hb e=>hs9.extBut b o hb e) a2 hDC (.inr (show s2.heap.objs.size<=DD by rw [hDD];exact um8 _)) (λx' c e z=>?_) (λp hp=>nomatch hp),T.keep _ _ _ a3 λb hb o e=>hs9.extBut b o (ul9 (hlt' b hb)) e,a4,hv.append (.cons r8 .nil),e9',a2,w8⟩;obtain ⟨v,o,ho,hd⟩:=I2.cell x' c (e2 x' c e);have:=ul8 ho;rw [hDD,z] at this;exact uk7 _ this
 exact codeAny_compStart_list (loop _ rfl) (T.self _ 0 _ _ _ (T.keep _ _ _ st2 λb _ o e=>old b o e) (loop _ rfl))
end
section
variable {X:Cx}{tg elt iter:Expr}{ifs:List Expr}{scope:Scope}{pos:Pos}{N':List Str}{wi:TI}{g:TG}{tt:TT}{te:TE}{σf:St->St}
theorem Qt {σ':St}{H':Hp}{s':Shared}{C:Addr}{acc:List V}{its:List Value}{n:Nat}{h':Heap}(I2:Inv X pins σ H2 s2)(f2:∀b∈fp,FpOk X pins H2 b)
 (hC:s2.heap.objs.size<=C) (hCD:C≠s2.heap.objs.size) (I':Inv (Co X N' scope cl C s2 H2 fp) [] σ' H' s') (hDn:H' s2.heap.objs.size=none) (hz:acc.length<=sizeLine) (hv:Vals acc its)
 (hD:s'.heap.get? s2.heap.objs.size=some { cls:=.type "list",data:=.seq its.toArray n }) (hs:Heap.SameBut C s'.heap h') :
 Inv X pins σ (upd H' s2.heap.objs.size (.lst acc)) { s' with heap:=h' }:=by
 have U:=I'.base;have lt:∀b o,s2.heap.get? b=some o->b≠C/\b≠s2.heap.objs.size:=λb o e=>⟨ul9 (ue9 (ul8 e) hC),ul9 (ul8 e)⟩;have neD:∀b u,H' b=some u->b≠s2.heap.objs.size:=λb u e=>AJ e hDn;have neC:∀b u,H' b=some u->b≠C:=λb u e=>AJ e I'.free;refine I2.call' (s':={ s' with heap:=h' }) (ch:=fp) I'.os ⟨λb o e n hb hx=>?_,λb o e n hb hx=>?_,λb o e n hx=>?_,λb o e hx=>?_,λb xs e=>?_,λb o u e=>?_,λb ps e=>?_⟩ ?_ I'.bare λb hb=>⟨(f2 b hb).2.2.2.1,(f2 b hb).2.1,(f2 b hb).2.2.2.2.1,(f2 b hb).2.2.2.2.2⟩
 ·exact hs.extBut b o (lt b o e).1 (U.keep b o e n hb hx)
 ·obtain ⟨sl,q⟩:=U.slot b o e n hb hx;exact ⟨sl,hs.extBut b _ (lt b o e).1 q⟩
 ·rw [Ag (lt b o e).2];exact U.free b o e n hx
 ·obtain ⟨o',q⟩:=U.there b o e hx;exact ⟨o',hs.extBut b _ (lt b o e).1 q⟩
 ·have q:=U.tups b xs e;rw [Ag (neD b _ q)];exact q
 ·have q:=U.frzs b o u e;rw [Ag (neD b _ q)];exact q
 ·obtain ⟨m,q⟩:=U.tbls b ps e;exact ⟨m,by rw [Ag (neD b _ q)];exact q⟩
 ·intro b u e
  by_cases hb:b=s2.heap.objs.size
  ·subst hb;rw [Aj] at e
   cases e
   exact ⟨hz,its,n,hv,hs.extBut _ _ (Ne.symm hCD) hD⟩
  ·rw [Ag hb] at e;refine (I'.hok b u e).stay (λc v hc q=>hs.extBut c v ?_ q) (λc q=>by rw [Ag (neD c _ q)];exact q) λc xs q=>by rw [Ag (neD c _ q)];exact q
   rcases hc with z | z
   ·rw [z];exact neC b u e
   ·exact neC c _ z
theorem Lf (O:CmpOk X scope N' σf)(hc:X.calm=true)(hi:PI X tg iter wi)
 (hg:∀cl C s2 H2 fp,PG (Co X N' scope cl C s2 H2 fp) tg g) (ht:∀cl C s2 H2 fp,PIf (Co X N' scope cl C s2 H2 fp) ifs tt) (he:∀cl C s2 H2 fp,PE (Co X N' scope cl C s2 H2 fp) elt te)
 (hs:∀x,foldedSetIterable iter X.env x=pure x:=by intro _;rfl):PE X (.ListComp elt [⟨tg,iter,ifs,0⟩] scope pos) (Mh wi g tt te σf):=by
 intro pins s σ H Q I h;obtain ⟨cl,e1,e2,e4⟩:=Ph (scope:=scope) (env:=X.env) λy hy hf=>I.ok.has y.1 (O.free y hy hf);rw [eval_ListComp];refine wpAny_comprehension_free (use:=none) rfl hs e1 O.kind O.loc (thn (hi pins s σ H _ I h) λv s1 h1=>thn h1 λitv s2 h2=>?_);obtain ⟨it,fp,tn,J,H2,rfl,I2,T,st2,f2,B⟩:=h2;refine SO (RR:=λacc C=>compPost (model X.prog X.w) X.A X.xe none (EP X pins σ Q) acc C) O hc I2 T st2 f2 e2 e4 (λC=>hg cl C s2 H2 fp) (λC=>ht cl C s2 H2 fp) (λC=>he cl C s2 H2 fp) B ?_;intro C s' σ' H' acc m hC hCD I' hDn hz hL fin hn;obtain ⟨its,n,hv,hD⟩:=hL;refine ⟨m,hn,λh' hs'=>?_⟩;exact ⟨.ref s2.heap.objs.size,upd H' _ (.lst acc),Qt I2 f2 hC hCD I' hDn hz hv hD hs',rfl,fin _ hDn hz⟩
end
end L2
set_option autoImplicit false
namespace F2
open PySem L2 PySem.Spec
inductive D where
 | non | bl (b:Bool) | int (i:Int) | str (x:Str) | tup (xs:List D) | lst (xs:List D) | scr (ns:List Int) | dic | obj (k:Nat) | ty (n:String) | exc (n:Str) (xs:List D)
structure Cf where
 ι:List Addr
 O:Addr->Prop
def Cf.A (c:Cf)(a:Addr):Prop:=a∈c.ι\/c.O a
def Scr (K:PySem.W.Frag)(c:Cf)(H:Hp)(a:Addr)(vs:List V):Prop:=
 ((∃o,H a=some (.frz o (.lst vs)))/\¬c.A a)\/
   ∃(o:Obj) (its:Array Value) (n:Nat),K.lookup a=some o/\o.cls = .type "list"/\o.dict=none/\o.data = .seq its n/\its.size<=sizeLine/\Vals vs its.toList
def XIs (qx:Bool)(x C:Addr)(dx:Option Addr)(h:Heap):Prop:=∃(o:Obj) (vs:Array Value),h.get? x=some o/\o.cls = .ref C/\o.dict=dx/\o.data = .fields vs/\(qx=true->vs[2]?=some .none/\4 < vs.size)
noncomputable def Jr (n:Str):List Str:=if n = "NoTalk" then ["at"] else if n = "Broken" then ["at", "side"] else []
def XFld (c:Cf)(H:Hp)(dx:Option Addr)(ns:List Str)(vs:List V):Prop:=match dx with
 | none=>vs=[]
 | some d=>H d=some (.xd (ns.zip vs))/\¬c.A d
mutual
inductive Rep (K:PySem.W.Frag)(c:Cf)(H:Hp):V->D->Prop where
 | non:Rep K c H .non .non
 | bl (b:Bool):Rep K c H (.bl b) (.bl b)
 | int (i:Int):Rep K c H (.int i) (.int i)
 | str (x:Str):Rep K c H (.str x) (.str x)
 | ty (n:String):Rep K c H (.ty n) (.ty n)
 | tup {a:Addr} {vs:List V} {ds:List D}:H a=some (.tup vs)->¬c.A a->Reps K c H vs ds->Rep K c H (.ref a) (.tup ds)
 | lst {a:Addr} {vs:List V} {ds:List D}:H a=some (.lst vs)->¬c.A a->Reps K c H vs ds->Rep K c H (.ref a) (.lst ds)
 | scr {a:Addr} {ns:List Int}:Scr K c H a (ns.map V.int)->Rep K c H (.ref a) (.scr ns)
 | dic {a:Addr}:H a=some (.dK [])->¬c.A a->Rep K c H (.ref a) .dic
 | obj {a:Addr} {k:Nat}:c.ι[k]?=some a->Rep K c H (.ref a) (.obj k)
 | exc {qx:Bool} {x C:Addr} {dx:Option Addr} {n:Str} {vs:List V} {ds:List D}:PySem.W.nsIn K mainGlobals n=some (some (.ref C))->H x=some (.ext (XIs qx x C dx))->¬c.A x->XFld c H dx (Jr n) vs->Reps K c H vs ds->Rep K c H (.ref x) (.exc n ds)
inductive Reps (K:PySem.W.Frag)(c:Cf)(H:Hp):List V->List D->Prop where
 | nil:Reps K c H [] []
 | cons {v:V} {d:D} {vs:List V} {ds:List D}:Rep K c H v d->Reps K c H vs ds->Reps K c H (v :: vs) (d :: ds)
end
structure Ext (c:Cf)(H:Hp)(c':Cf)(H':Hp):Prop where
 keep:∀b o,H b=some o->¬c.A b->H' b=some o
 av:∀b o,H b=some o->c'.A b->c.A b
 io:∀(k:Nat) (a:Addr),c.ι[k]?=some a->c'.ι[k]?=some a
variable {c:Cf}{H:Hp}
theorem Ext.refl:Ext c H c H:=⟨λ_ _ h _=>h,λ_ _ _ h=>h,λ_ _ h=>h⟩
theorem Ext.trans {c1 c2:Cf}{H1 H2:Hp}(a:Ext c H c1 H1)(b:Ext c1 H1 c2 H2):Ext c H c2 H2:=by
 refine ⟨λx o h n=>?_,λx o h n=>?_,λk x h=>b.io k x (a.io k x h)⟩
 ·exact b.keep x o (a.keep x o h n) λz=>n (a.av x o h z)
 ·by_cases q:c.A x
  ·exact q
  ·exact a.av x o h (b.av x o (a.keep x o h q) n)
variable {K:PySem.W.Frag}{a:Addr}{vs:List V}
theorem Scr.mono {c':Cf}{H':Hp}(e:Ext c H c' H')(h:Scr K c H a vs):Scr K c' H' a vs:=by
 rcases h with ⟨⟨o,h⟩,n⟩ | h
 ·exact .inl ⟨⟨o,e.keep _ _ h n⟩,λz=>n (e.av _ _ h z)⟩
 ·exact .inr h
theorem Scr.sq (h:Scr K c H a vs):SqL K H a vs:=by
 rcases h with ⟨h,_⟩ | h
 ·exact .inl (.inr h)
 ·exact .inr h
theorem XFld.mono {c':Cf}{H':Hp}{dx:Option Addr}{ns:List Str}(e:Ext c H c' H')(h:XFld c H dx ns vs):XFld c' H' dx ns vs:=by
 cases dx with
 | none=>exact h
 | some d=>exact ⟨e.keep _ _ h.1 h.2,λz=>h.2 (e.av _ _ h.1 z)⟩
mutual
theorem Rep.mono {K:PySem.W.Frag}{c c':Cf}{H H':Hp}(e:Ext c H c' H'){v:V}{d:D}(r:Rep K c H v d):Rep K c' H' v d:=by
 cases r with
 | non=>exact .non
 | bl b=>exact .bl b
 | int i=>exact .int i
 | str x=>exact .str x
 | ty n=>exact .ty n
 | tup h n r=>exact .tup (e.keep _ _ h n) (λz=>n (e.av _ _ h z)) (Reps.mono e r)
 | lst h n r=>exact .lst (e.keep _ _ h n) (λz=>n (e.av _ _ h z)) (Reps.mono e r)
 | scr h=>exact .scr (h.mono e)
 | dic h n=>exact .dic (e.keep _ _ h n) (λz=>n (e.av _ _ h z))
 | obj h=>exact .obj (e.io _ _ h)
 | exc g h n f r=>exact .exc g (e.keep _ _ h n) (λz=>n (e.av _ _ h z)) (f.mono e) (Reps.mono e r)
theorem Reps.mono {K:PySem.W.Frag}{c c':Cf}{H H':Hp}(e:Ext c H c' H'){vs:List V}{ds:List D}(r:Reps K c H vs ds):Reps K c' H' vs ds:=by
 cases r with
 | nil=>exact .nil
 | cons h t=>exact .cons (Rep.mono e h) (Reps.mono e t)
end
section
variable {K:PySem.W.Frag}{c:Cf}{H:Hp}
theorem Reps.length:∀{vs:List V} {ds:List D},Reps K c H vs ds->vs.length=ds.length
 | _,_,.nil=>rfl
 | _,_,.cons _ t=>by simp [Reps.length t]
theorem Reps.get:∀{vs:List V} {ds:List D} {i:Nat} {v:V} {d:D},Reps K c H vs ds->vs[i]?=some v->ds[i]?=some d->Rep K c H v d
 | _,_,_,_,_,.nil,e,_=>by simp at e
 | _,_,0,_,_,.cons r _,e,e'=>by simp at e e';subst e e';exact r
 | _,_,i + 1,_,_,.cons _ t,e,e'=>Reps.get (i:=i) t (by simpa using e) (by simpa using e')
theorem Reps.at:∀{vs:List V} {ds:List D} {i:Nat} {d:D},Reps K c H vs ds->ds[i]?=some d->∃v,vs[i]?=some v/\Rep K c H v d
 | _,_,_,_,.nil,e=>by simp at e
 | _,_,0,_,.cons r _,e=>by simp at e;subst e;exact ⟨_,rfl,r⟩
 | _,_,i + 1,_,.cons _ t,e=>by
   obtain ⟨v,h1,h2⟩:=Reps.at (i:=i) t (by simpa using e);exact ⟨v,by simpa using h1,h2⟩
theorem Reps.append {vs ws:List V}{ds es:List D}(r:Reps K c H vs ds)(s:Reps K c H ws es):Reps K c H (vs++ws) (ds++es):=by
 cases r with
 | nil=>exact s
 | cons r t=>exact .cons r (Reps.append t s)
theorem Reps.take:∀{vs:List V} {ds:List D} (n:Nat),Reps K c H vs ds->Reps K c H (vs.take n) (ds.take n)
 | _,_,0,_=>.nil
 | _,_,_ + 1,.nil=>.nil
 | _,_,n + 1,.cons r t=>.cons r (Reps.take n t)
theorem Reps.drop:∀{vs:List V} {ds:List D} (n:Nat),Reps K c H vs ds->Reps K c H (vs.drop n) (ds.drop n)
 | _,_,0,r=>r
 | _,_,_ + 1,.nil=>.nil
 | _,_,n + 1,.cons _ t=>Reps.drop n t
theorem Reps.ints:∀ns:List Int,Reps K c H (ns.map V.int) (ns.map D.int)
 | []=>.nil
 | n :: r=>.cons (.int n) (Reps.ints r)
theorem Reps.rep {vs:List V}{ds:List D}(h:Reps K c H vs ds):∀k:Nat,Reps K c H (List.replicate k vs).flatten (List.replicate k ds).flatten
 | 0=>.nil
 | k + 1=>by
   rw [ue5,ue5,ug3,ug3];exact h.append (Reps.rep h k)
end
inductive Ob where
 | lst (xs:List D)
 | dct (kvs:List (Key×D))
 | ins (n:Str) (fs:List (Str×D))
inductive Sl where
 | val (d:D)
 | own (xs:List D)
structure T where
 env:List (Option Sl)
 S:List Ob
def KVR (K:PySem.W.Frag)(c:Cf)(H:Hp):List (Key×V)->List (Key×D)->Prop:=Paired λp q=>p.1=q.1/\Rep K c H p.2 q.2
def KY:List Str:=["Reader", "Side", "Lasting", "Parley", "Listener", "Relay", "Desk"]
def atN:List Str:=["grammar", "standing", "wires", "places", "side", "said", "taken", "handed", "left", "right", "under_way", "grammars", "standings", "heard", "left_grammar", "right_grammar", "rows", "pair", "broken", "parley"]
def FldR (K:PySem.W.Frag)(c:Cf)(H:Hp):List (Str×V)->List (Str×D)->Prop:=Paired λp q=>p.1=q.1/\Rep K c H p.2 q.2
def ObR (K:PySem.W.Frag)(c:Cf)(H:Hp)(a:Addr):Ob->Prop
 | .lst ds=>∃vs,H a=some (.lst vs)/\Reps K c H vs ds
 | .dct kvs=>∃us,H a=some (.dK us)/\KVR K c H us kvs
 | .ins n fs=>(n∈KY/\∀p∈fs,p.1∈atN)/\∃C dx us,PySem.W.nsIn K mainGlobals n=some (some (.ref C))/\H a=some (.ins C dx us)/\FldR K c H us fs
theorem ObR.mono {K:PySem.W.Frag}{c c':Cf}{H H':Hp}{a:Addr}{o:Ob}(e:Ext c H c' H')(h:ObR K c H a o)(ha:H' a=H a):ObR K c' H' a o:=by
 cases o with
 | lst ds=>obtain ⟨vs,h1,h2⟩:=h;exact ⟨vs,ha.trans h1,h2.mono e⟩
 | dct kvs=>obtain ⟨us,h1,h2⟩:=h;exact ⟨us,ha.trans h1,Paired.mapP h2 λ_ _ z=>⟨z.1,z.2.mono e⟩⟩
 | ins n fs=>obtain ⟨h0,C,dx,us,g,h1,h2⟩:=h;exact ⟨h0,C,dx,us,g,ha.trans h1,Paired.mapP h2 λ_ _ z=>⟨z.1,z.2.mono e⟩⟩
theorem ObR.some {o:Ob}(h:ObR K c H a o):∃u,H a=some u:=by
 cases o with
 | lst ds=>obtain ⟨vs,h1,_⟩:=h;exact ⟨_,h1⟩
 | dct kvs=>obtain ⟨us,h1,_⟩:=h;exact ⟨_,h1⟩
 | ins n fs=>obtain ⟨_,_,_,_,_,h1,_⟩:=h;exact ⟨_,h1⟩
structure SInv (K:PySem.W.Frag)(c:Cf)(S:List Ob)(H:Hp):Prop where
 len:c.ι.length=S.length
 nd:c.ι.Nodup
 obs:∀(k:Nat) (a:Addr) (o:Ob),c.ι[k]?=some a->S[k]?=some o->ObR K c H a o
 trk:∀b,c.O b->∃o,H b=some o
 dis:∀b,c.O b->b∉c.ι
variable {S:List Ob}
theorem SInv.trkA (s:SInv K c S H){b:Addr}(h:c.A b):∃o,H b=some o:=by
 rcases h with h | h
 ·obtain ⟨k,hk,e⟩:=List.mem_iff_getElem.mp h;have e1:c.ι[k]?=some b:=by rw [ub3 hk,e]
  have hk':k < S.length:=by rw [<-s.len];exact hk
  exact (s.obs k b _ e1 (ub3 hk')).some
 ·exact s.trk b h
theorem SInv.free (s:SInv K c S H){b:Addr}(h:H b=none):¬c.A b:=λz=>by
 obtain ⟨o,e⟩:=s.trkA z;rw [h] at e;cases e
structure FInv (K:PySem.W.Frag)(Oo:Addr->Prop)(c:Cf)(t:T)(σ:St)(H:Hp):Prop where
 s:SInv K c t.S H
 len:t.env.length=σ.length
 sub:∀b,Oo b->c.O b
 val:∀(i:Nat) (d:D),t.env[i]?=some (some (.val d))->∃v,σ[i]?=some (some v)/\Rep K c H v d
 own:∀(i:Nat) (ds:List D),t.env[i]?=some (some (.own ds))->∃a vs,σ[i]?=some (some (.ref a))/\c.O a/\¬Oo a/\H a=some (.lst vs)/\Reps K c H vs ds
 inj:∀(i j:Nat) (ds es:List D) (a:Addr),t.env[i]?=some (some (.own ds))->t.env[j]?=some (some (.own es))->σ[i]?=some (some (.ref a))->σ[j]?=some (some (.ref a))->i=j
structure Stp (Oo:Addr->Prop)(c:Cf)(H:Hp)(c':Cf)(H':Hp):Prop where
 ext:Ext c H c' H'
 oo:∀b,Oo b->H' b=H b
theorem Stp.refl {Oo:Addr->Prop}{c:Cf}{H:Hp}:Stp Oo c H c H:=⟨.refl,λ_ _=>rfl⟩
theorem Stp.trans {Oo:Addr->Prop}{c c1 c2:Cf}{H H1 H2:Hp}(a:Stp Oo c H c1 H1)(b:Stp Oo c1 H1 c2 H2):Stp Oo c H c2 H2:=
 ⟨a.ext.trans b.ext,λx h=>(b.oo x h).trans (a.oo x h)⟩
section
variable {K:PySem.W.Frag}{Oo:Addr->Prop}{c:Cf}{t:T}{σ:St}{H:Hp}
theorem Ext.laid (s:SInv K c S H){p:Addr}{o:HO}(h:H p=none):Ext c H c (upd H p o):=
 ⟨λb u e _=>by rw [Ag (AJ e h)];exact e,λ_ _ _ z=>z,λ_ _ e=>e⟩
theorem SInv.laid {S:List Ob}(s:SInv K c S H){p:Addr}{o:HO}(h:H p=none):SInv K c S (upd H p o):=
 ⟨s.len,s.nd,λk a u e1 e2=>by
  have q:=s.obs k a u e1 e2;obtain ⟨w,hw⟩:=q.some;exact q.mono (Ext.laid s h) (Ag (AJ hw h)),
  λb z=>by obtain ⟨u,e⟩:=s.trk b z;exact ⟨u,by rw [Ag (AJ e h)];exact e⟩,s.dis⟩
theorem FInv.laid (f:FInv K Oo c t σ H){p:Addr}{o:HO}(h:H p=none):FInv K Oo c t σ (upd H p o):=by
 have e:=Ext.laid (o:=o) f.s h;refine ⟨f.s.laid h,f.len,f.sub,λi d q=>?_,λi ds q=>?_,f.inj⟩
 ·obtain ⟨v,h1,h2⟩:=f.val i d q;exact ⟨v,h1,h2.mono e⟩
 ·obtain ⟨a,vs,h1,h2,h3,h4,h5⟩:=f.own i ds q;exact ⟨a,vs,h1,h2,h3,by rw [Ag (AJ h4 h)];exact h4,h5.mono e⟩
theorem FInv.stp_laid (f:FInv K Oo c t σ H){p:Addr}{o:HO}(h:H p=none):Stp Oo c H c (upd H p o):=
 ⟨Ext.laid f.s h,λb z=>by obtain ⟨u,e⟩:=f.s.trk b (f.sub b z);exact Ag (AJ e h)⟩
theorem FInv.set (f:FInv K Oo c t σ H){i:Nat}{v:V}{d:D}(r:Rep K c H v d):FInv K Oo c { t with env:=t.env.set i (some (.val d)) } (σ.set i (some v)) H:=by
 have neq:∀{j:Nat} {x:Sl},(t.env.set i (some (.val d)))[j]?=some (some x)->(j=i/\x = .val d/\j < t.env.length)\/(j≠i/\t.env[j]?=some (some x)):=λ{j x} q=>by
  by_cases h:j=i
  ·subst h;rw [ug6] at q
   split at q
   ·split at q
    ·next h1=>injection q with q;injection q with q;exact .inl ⟨rfl,q.symm,h1⟩
    ·cases q
   ·next h1=>exact absurd rfl h1
  ·rw [ud9 (Ne.symm h)] at q;exact .inr ⟨h,q⟩
 refine ⟨f.s,by simp [f.len],f.sub,λj e q=>?_,λj ds q=>?_,λj k ds es a q1 q2 q3 q4=>?_⟩
 ·rcases neq q with ⟨rfl,z,hl⟩ | ⟨h,q⟩
  ·cases z
   exact ⟨v,by rw [uc1 (by rw [<-f.len];exact hl)],r⟩
  ·obtain ⟨u,h1,h2⟩:=f.val j e q;exact ⟨u,by rw [ud9 (Ne.symm h)];exact h1,h2⟩
 ·rcases neq q with ⟨rfl,z,_⟩ | ⟨h,q⟩
  ·cases z
  ·obtain ⟨a,vs,h1,h2⟩:=f.own j ds q;exact ⟨a,vs,by rw [ud9 (Ne.symm h)];exact h1,h2⟩
 ·rcases neq q1 with ⟨_,z,_⟩ | ⟨h,q1⟩
  ·cases z
  rcases neq q2 with ⟨_,z,_⟩ | ⟨h',q2⟩
  ·cases z
  rw [ud9 (Ne.symm h)] at q3;rw [ud9 (Ne.symm h')] at q4;exact f.inj j k ds es a q1 q2 q3 q4
theorem FInv.setOwn (f:FInv K Oo c t σ H){i:Nat}{p:Addr}{vs:List V}{ds:List D}(h:H p=none)(r:Reps K c H vs ds) :
 ∃c',FInv K Oo c' { t with env:=t.env.set i (some (.own ds)) } (σ.set i (some (.ref p))) (upd H p (.lst vs))/\Stp Oo c H c' (upd H p (.lst vs)):=by
 let c':Cf:=⟨c.ι,λb=>c.O b\/b=p⟩
 have nA:¬c.A p:=f.s.free h;have ext:Ext c H c' (upd H p (.lst vs)):=by
  refine ⟨λb u e _=>by rw [Ag (AJ e h)];exact e,λb u e z=>?_,λ_ _ e=>e⟩;rcases z with z | z | z
  ·exact .inl z
  ·exact .inr z
  ·subst z;rw [h] at e;cases e
 have stp:Stp Oo c H c' (upd H p (.lst vs)):=⟨ext,λb z=>by obtain ⟨u,e⟩:=f.s.trk b (f.sub b z);exact Ag (AJ e h)⟩;have sinv:SInv K c' t.S (upd H p (.lst vs)):=by
  refine ⟨f.s.len,f.s.nd,λk a u e1 e2=>?_,λb z=>?_,λb z hb=>?_⟩
  ·have q:=f.s.obs k a u e1 e2;obtain ⟨w,hw⟩:=q.some;exact q.mono ext (Ag (AJ hw h))
  ·rcases z with z | z
   ·obtain ⟨u,e⟩:=f.s.trk b z;exact ⟨u,by rw [Ag (AJ e h)];exact e⟩
   ·subst z;exact ⟨_,Aj⟩
  ·rcases z with z | z
   ·exact f.s.dis b z hb
   ·subst z;exact nA (.inl hb)
 have neq:∀{j:Nat} {x:Sl},(t.env.set i (some (.own ds)))[j]?=some (some x)->(j=i/\x = .own ds/\j < t.env.length)\/(j≠i/\t.env[j]?=some (some x)):=λ{j x} q=>by
  by_cases h:j=i
  ·subst h;rw [ug6] at q
   split at q
   ·split at q
    ·next h1=>injection q with q;injection q with q;exact .inl ⟨rfl,q.symm,h1⟩
    ·cases q
   ·next h1=>exact absurd rfl h1
  ·rw [ud9 (Ne.symm h)] at q;exact .inr ⟨h,q⟩
 have fresh:∀(j:Nat) (es:List D),t.env[j]?=some (some (.own es))->σ[j]?≠some (some (.ref p)):=λj es q z=>by
  obtain ⟨a,vs',h1,_,_,h4,_⟩:=f.own j es q;rw [h1] at z;injection z with z;injection z with z;injection z with z;subst z;rw [h] at h4;cases h4
 refine ⟨c',⟨sinv,by simp [f.len],λb z=>.inl (f.sub b z),λj e q=>?_,λj es q=>?_,λj k ds' es a q1 q2 q3 q4=>?_⟩,stp⟩
 ·rcases neq q with ⟨_,z,_⟩ | ⟨hn,q⟩
  ·cases z
  ·obtain ⟨u,h1,h2⟩:=f.val j e q;exact ⟨u,by rw [ud9 (Ne.symm hn)];exact h1,h2.mono ext⟩
 ·rcases neq q with ⟨rfl,z,hl⟩ | ⟨hn,q⟩
  ·cases z
   refine ⟨p,vs,by rw [uc1 (by rw [<-f.len];exact hl)],.inr rfl,λz=>?_,Aj,r.mono ext⟩;obtain ⟨u,e⟩:=f.s.trk p (f.sub p z);rw [h] at e;cases e
  ·obtain ⟨a,ws,h1,h2,h3,h4,h5⟩:=f.own j es q;exact ⟨a,ws,by rw [ud9 (Ne.symm hn)];exact h1,.inl h2,h3,by rw [Ag (AJ h4 h)];exact h4,h5.mono ext⟩
 ·rcases neq q1 with ⟨z1,z2,l1⟩ | ⟨n1,r1⟩
  ·rcases neq q2 with ⟨y1,_,_⟩ | ⟨n2,r2⟩
   ·rw [z1,y1]
   ·subst z1;rw [uc1 (by rw [<-f.len];exact l1)] at q3;injection q3 with q3;injection q3 with q3;injection q3 with q3;subst q3
    rw [ud9 (Ne.symm n2)] at q4;exact absurd q4 (fresh k es r2)
  ·rcases neq q2 with ⟨y1,y2,l2⟩ | ⟨n2,r2⟩
   ·subst y1;rw [uc1 (by rw [<-f.len];exact l2)] at q4;injection q4 with q4;injection q4 with q4;injection q4 with q4;subst q4
    rw [ud9 (Ne.symm n1)] at q3;exact absurd q3 (fresh j ds' r1)
   ·rw [ud9 (Ne.symm n1)] at q3;rw [ud9 (Ne.symm n2)] at q4;exact f.inj j k ds' es a r1 r2 q3 q4
theorem FInv.frz (f:FInv K Oo c t σ H){i:Nat}{ds:List D}(q:t.env[i]?=some (some (.own ds))) :
 ∃c' v,FInv K Oo c' { t with env:=t.env.set i (some (.val (.lst ds))) } σ H/\Stp Oo c H c' H/\σ[i]?=some (some v)/\Rep K c' H v (.lst ds):=by
 obtain ⟨a,vs,h1,h2,h3,h4,h5⟩:=f.own i ds q
 let c':Cf:=⟨c.ι,λb=>c.O b/\b≠a⟩
 have ext:Ext c H c' H:=⟨λ_ _ e _=>e,λb u e z=>z.elim .inl λw=>.inr w.1,λ_ _ e=>e⟩;have sinv:SInv K c' t.S H:=⟨f.s.len,f.s.nd,λk b u e1 e2=>(f.s.obs k b u e1 e2).mono ext rfl,λb z=>f.s.trk b z.1,λb z=>f.s.dis b z.1⟩;have nA:¬c'.A a:=λz=>z.elim (λw=>f.s.dis a h2 w) λw=>w.2 rfl;have hσ:σ.set i (some (.ref a))=σ:=by
  apply List.ext_getElem?;intro j
  by_cases hj:j=i
  ·subst hj;rw [uc1 (by have:=(ua8.mp h1).1;exact this),h1]
  ·rw [ud9 (Ne.symm hj)]
 have r:Rep K c' H (.ref a) (.lst ds):=.lst h4 nA (h5.mono ext);have f0:FInv K Oo c' { t with env:=t.env.set i (some (.val (.lst ds))) } σ H:=by
  have neq:∀{j:Nat} {x:Sl},(t.env.set i (some (.val (.lst ds))))[j]?=some (some x)->(j=i/\x = .val (.lst ds))\/(j≠i/\t.env[j]?=some (some x)):=λ{j x} q=>by
   by_cases h:j=i
   ·subst h;rw [ug6] at q
    split at q
    ·split at q
     ·injection q with q;injection q with q;exact .inl ⟨rfl,q.symm⟩
     ·cases q
    ·next h1=>exact absurd rfl h1
   ·rw [ud9 (Ne.symm h)] at q;exact .inr ⟨h,q⟩
  refine ⟨sinv,by simp [f.len],λb z=>⟨f.sub b z,λw=>h3 (w ▸ z)⟩,λj e q'=>?_,λj es q'=>?_,λj k ds' es b q1 q2 q3 q4=>?_⟩
  ·rcases neq q' with ⟨rfl,z⟩ | ⟨hn,q'⟩
   ·cases z;exact ⟨_,h1,r⟩
   ·obtain ⟨u,w1,w2⟩:=f.val j e q';exact ⟨u,w1,w2.mono ext⟩
  ·rcases neq q' with ⟨_,z⟩ | ⟨hn,q'⟩
   ·cases z
   ·obtain ⟨b,ws,w1,w2,w3,w4,w5⟩:=f.own j es q';refine ⟨b,ws,w1,⟨w2,λz=>?_⟩,w3,w4,w5.mono ext⟩;subst z;exact hn (f.inj j i es ds b q' q w1 h1)
  ·rcases neq q1 with ⟨_,z⟩ | ⟨_,q1⟩
   ·cases z
   rcases neq q2 with ⟨_,z⟩ | ⟨_,q2⟩
   ·cases z
   exact f.inj j k ds' es b q1 q2 q3 q4
 exact ⟨c',_,f0,⟨ext,λ_ _=>rfl⟩,h1,r⟩
theorem FInv.wrOwn (f:FInv K Oo c t σ H){i:Nat}{ds ds':List D}{vs':List V}{a:Addr}(q:t.env[i]?=some (some (.own ds)))(h1:σ[i]?=some (some (.ref a)))(r:Reps K c H vs' ds') :
 FInv K Oo c { t with env:=t.env.set i (some (.own ds')) } σ (upd H a (.lst vs'))/\Stp Oo c H c (upd H a (.lst vs')):=by
 obtain ⟨a',vs,g1,h2,h3,h4,h5⟩:=f.own i ds q;rw [h1] at g1;injection g1 with g1;injection g1 with g1;injection g1 with g1;subst g1
 have ext:Ext c H c (upd H a (.lst vs')):=⟨λb u e n=>by rw [Ag (λ(z:b=a)=>n (.inr (by rw [z];exact h2)))];exact e,λ_ _ _ z=>z,λ_ _ e=>e⟩;have stp:Stp Oo c H c (upd H a (.lst vs')):=⟨ext,λb z=>Ag λw=>h3 (w ▸ z)⟩;have sinv:SInv K c t.S (upd H a (.lst vs')):=by
  refine ⟨f.s.len,f.s.nd,λk b u e1 e2=>(f.s.obs k b u e1 e2).mono ext (Ag λz=>f.s.dis a h2 (z ▸ ue0 e1)),λb z=>?_,f.s.dis⟩
  by_cases hb:b=a
  ·subst hb;exact ⟨_,Aj⟩
  ·obtain ⟨u,e⟩:=f.s.trk b z;exact ⟨u,by rw [Ag hb];exact e⟩
 have neq:∀{j:Nat} {x:Sl},(t.env.set i (some (.own ds')))[j]?=some (some x)->(j=i/\x = .own ds')\/(j≠i/\t.env[j]?=some (some x)):=λ{j x} q=>by
  by_cases h:j=i
  ·subst h;rw [ug6] at q
   split at q
   ·split at q
    ·injection q with q;injection q with q;exact .inl ⟨rfl,q.symm⟩
    ·cases q
   ·next h1=>exact absurd rfl h1
  ·rw [ud9 (Ne.symm h)] at q;exact .inr ⟨h,q⟩
 refine ⟨⟨sinv,by simp [f.len],f.sub,λj e q'=>?_,λj es q'=>?_,λj k es es' b q1 q2 q3 q4=>?_⟩,stp⟩
 ·rcases neq q' with ⟨_,z⟩ | ⟨_,q'⟩
  ·cases z
  ·obtain ⟨u,w1,w2⟩:=f.val j e q';exact ⟨u,w1,w2.mono ext⟩
 ·rcases neq q' with ⟨rfl,z⟩ | ⟨hn,q'⟩
  ·cases z;exact ⟨a,vs',h1,h2,h3,Aj,r.mono ext⟩
  ·obtain ⟨b,ws,w1,w2,w3,w4,w5⟩:=f.own j es q';have hb:b≠a:=λz=>by subst z;exact hn (f.inj j i es ds b q' q w1 h1)
   exact ⟨b,ws,w1,w2,w3,by rw [Ag hb];exact w4,w5.mono ext⟩
 ·have old:∀{j:Nat} {x:List D},(t.env.set i (some (.own ds')))[j]?=some (some (.own x))->∃y,t.env[j]?=some (some (.own y)):=λ{j x} q'=>by
   rcases neq q' with ⟨rfl,_⟩ | ⟨_,q'⟩
   ·exact ⟨ds,q⟩
   ·exact ⟨x,q'⟩
  obtain ⟨y1,z1⟩:=old q1;obtain ⟨y2,z2⟩:=old q2;exact f.inj j k y1 y2 b z1 z2 q3 q4
theorem FInv.wrObj (f:FInv K Oo c t σ H){k:Nat}{a:Addr}{o:Ob}{u:HO}(e:c.ι[k]?=some a)(r:∀c' H',Ext c H c' H'->H' a=some u->ObR K c' H' a o) :
 FInv K Oo c { t with S:=t.S.set k o } σ (upd H a u)/\Stp Oo c H c (upd H a u):=by
 have hA:a∈c.ι:=ue0 e;have ext:Ext c H c (upd H a u):=⟨λb w h n=>by rw [Ag (λ(z:b=a)=>n (.inl (by rw [z];exact hA)))];exact h,λ_ _ _ z=>z,λ_ _ e=>e⟩;have neO:∀b,c.O b->b≠a:=λb z w=>f.s.dis b z (w ▸ hA);have stp:Stp Oo c H c (upd H a u):=⟨ext,λb z=>Ag (neO b (f.sub b z))⟩;have sinv:SInv K c (t.S.set k o) (upd H a u):=by
  refine ⟨by simp [f.s.len],f.s.nd,λj b o' e1 e2=>?_,λb z=>?_,f.s.dis⟩
  ·by_cases hj:j=k
   ·subst hj;rw [e] at e1;cases e1
    have hl:j < t.S.length:=by rw [<-f.s.len];exact (ua8.mp e).1
    rw [uc1 hl] at e2;cases e2
    exact r c _ ext Aj
   ·rw [ud9 (Ne.symm hj)] at e2;refine (f.s.obs j b o' e1 e2).mono ext (Ag λz=>?_);subst z;obtain ⟨l1,g1⟩:=ua8.mp e1;obtain ⟨l2,g2⟩:=ua8.mp e;exact hj ((uh0 f.s.nd).mp (g1.trans g2.symm))
  ·obtain ⟨w,h⟩:=f.s.trk b z;exact ⟨w,by rw [Ag (neO b z)];exact h⟩
 refine ⟨⟨sinv,f.len,f.sub,λi d q=>?_,λi ds q=>?_,f.inj⟩,stp⟩
 ·obtain ⟨v,h1,h2⟩:=f.val i d q;exact ⟨v,h1,h2.mono ext⟩
 ·obtain ⟨b,vs,h1,h2,h3,h4,h5⟩:=f.own i ds q;exact ⟨b,vs,h1,h2,h3,by rw [Ag (neO b h2)];exact h4,h5.mono ext⟩
theorem FInv.newObj (f:FInv K Oo c t σ H){p:Addr}{o:Ob}{u:HO}(h:H p=none)(r:∀c' H',Ext c H c' H'->H' p=some u->ObR K c' H' p o) :
 ∃c',FInv K Oo c' { t with S:=t.S++[o] } σ (upd H p u)/\Stp Oo c H c' (upd H p u)/\c'.ι[t.S.length]?=some p:=by
 let c':Cf:=⟨c.ι++[p],c.O⟩
 have nA:¬c.A p:=f.s.free h;have ext:Ext c H c' (upd H p u):=by
  refine ⟨λb w e _=>by rw [Ag (AJ e h)];exact e,λb w e z=>?_,λk a e=>?_⟩
  ·rcases z with z | z
   ·rcases ui4.mp z with z | z
    ·exact .inl z
    ·rw [uf6] at z;subst z;rw [h] at e;cases e
   ·exact .inr z
  ·show (c.ι++[p])[k]?=some a;rw [ua9 (ua8.mp e).1];exact e
 have stp:Stp Oo c H c' (upd H p u):=⟨ext,λb z=>by obtain ⟨w,e⟩:=f.s.trk b (f.sub b z);exact Ag (AJ e h)⟩;have at_:(c.ι++[p])[t.S.length]?=some p:=by rw [<-f.s.len,ua4 (um8 _)];simp
 have sinv:SInv K c' (t.S++[o]) (upd H p u):=by
  refine ⟨by simp [c',f.s.len],?_,λj b o' e1 e2=>?_,λb z=>?_,λb z hb=>?_⟩
  ·show (c.ι++[p]).Nodup;exact List.nodup_append.mpr ⟨f.s.nd,by simp,λx hx y hy z=>by rw [uf6] at hy;subst z;subst hy;exact nA (.inl hx)⟩
  ·have hlt:j < (t.S++[o]).length:=(ua8.mp e2).1
   by_cases hj:j < t.S.length
   ·have e1':c.ι[j]?=some b:=by
     have q:(c.ι++[p])[j]?=some b:=e1;rw [ua9 (by rw [f.s.len];exact hj)] at q;exact q
    rw [ua9 hj] at e2;have q:=f.s.obs j b o' e1' e2;obtain ⟨w,hw⟩:=q.some;exact q.mono ext (Ag (AJ hw h))
   ·have hj':j=t.S.length:=by simp at hlt;lia
    subst hj';rw [at_] at e1;cases e1
    rw [ua4 (um8 _)] at e2;simp at e2;subst e2;exact r c' _ ext Aj
  ·obtain ⟨w,e⟩:=f.s.trk b z;exact ⟨w,by rw [Ag (AJ e h)];exact e⟩
  ·rcases ui4.mp hb with w | w
   ·exact f.s.dis b z w
   ·rw [uf6] at w;subst w;exact nA (.inr z)
 refine ⟨c',⟨sinv,f.len,f.sub,λi d q=>?_,λi ds q=>?_,f.inj⟩,stp,at_⟩
 ·obtain ⟨v,h1,h2⟩:=f.val i d q;exact ⟨v,h1,h2.mono ext⟩
 ·obtain ⟨b,vs,h1,h2,h3,h4,h5⟩:=f.own i ds q;exact ⟨b,vs,h1,h2,h3,by rw [Ag (AJ h4 h)];exact h4,h5.mono ext⟩
theorem FInv.after (f:FInv K Oo c t σ H){c':Cf}{S':List Ob}{H':Hp}(s:SInv K c' S' H')(st:Stp c.O c H c' H')(ho:∀b,c'.O b↔c.O b):FInv K Oo c' { t with S:=S' } σ H'/\Stp Oo c H c' H':=by
 refine ⟨⟨s,f.len,λb z=>(ho b).mpr (f.sub b z),λi d q=>?_,λi ds q=>?_,f.inj⟩,st.ext,λb z=>st.oo b (f.sub b z)⟩
 ·obtain ⟨v,h1,h2⟩:=f.val i d q;exact ⟨v,h1,h2.mono st.ext⟩
 ·obtain ⟨b,vs,h1,h2,h3,h4,h5⟩:=f.own i ds q;exact ⟨b,vs,h1,(ho b).mpr h2,h3,(st.oo b h2).trans h4,h5.mono st.ext⟩
end
abbrev M (α:Type):=T->Option (α×T)
inductive Out where
 | next | brk | cont | ret (d:D)
noncomputable def ret {α:Type}(a:α):M α:=λt=>some (a,t)
noncomputable def fail {α:Type}:M α:=λ_=>none
noncomputable def bnd {α β:Type}(f:M α)(g:α->M β):M β:=λt=>match f t with
 | some (a,t1)=>g a t1
 | none=>none
variable {t:T}
theorem Ae {α β:Type}{f:M α}{g:α->M β}{z:β×T}(h:bnd f g t=some z):∃a t1,f t=some (a,t1)/\g a t1=some z:=by
 unfold bnd at h
 cases e:f t with
 | none=>rw [e] at h;cases h
 | some p=>obtain ⟨a,t1⟩:=p;rw [e] at h;exact ⟨a,t1,rfl,h⟩
noncomputable def LIM:Nat:=100000
theorem BU:LIM<=sizeLine:=by unfold LIM;decide
theorem Xt:LIM < sizeLine:=by unfold LIM;decide
section
variable (K:PySem.W.Frag)
inductive RE (f:M D)(σ:L2.St)(H:Hp)(Q:VK):Prop where
 | mk (Oo:Addr->Prop) (c:Cf) (t:T) (fi:FInv K Oo c t σ H) (r:D) (t':T) (e:f t=some (r,t')) (k:∀v H' c',FInv K Oo c' t' σ H'->Stp Oo c H c' H'->Rep K c' H' v r->Q v H'):RE f σ H Q
inductive RT (f:M Bool)(σ:L2.St)(H:Hp)(Q:Bool->Hp->Prop):Prop where
 | mk (Oo:Addr->Prop) (c:Cf) (t:T) (fi:FInv K Oo c t σ H) (r:Bool) (t':T) (e:f t=some (r,t')) (k:∀H' c',FInv K Oo c' t' σ H'->Stp Oo c H c' H'->Q r H'):RT f σ H Q
inductive RA (f:M (List D))(σ:L2.St)(H:Hp)(Q:List V->Hp->Prop):Prop where
 | mk (Oo:Addr->Prop) (c:Cf) (t:T) (fi:FInv K Oo c t σ H) (r:List D) (t':T) (e:f t=some (r,t')) (k:∀vs H' c',FInv K Oo c' t' σ H'->Stp Oo c H c' H'->Reps K c' H' vs r->Q vs H'):RA f σ H Q
inductive RF (f:M (List D))(σ:L2.St)(H:Hp)(Q:VK):Prop where
 | mk (Oo:Addr->Prop) (c:Cf) (t:T) (fi:FInv K Oo c t σ H) (ds:List D) (t':T) (e:f t=some (ds,t')) (k:∀p vs H' c',FInv K Oo c' t' σ H'->Stp Oo c H c' H'->Reps K c' H' vs ds->H' p=none->Q (.ref p) (upd H' p (.lst vs))):RF f σ H Q
inductive RSg (μ:Cf->Hp->D->(V->Hp->Prop)->Prop)(f:M Out)(E:Ends)(σ:L2.St)(H:Hp):Prop where
 | mk (Oo:Addr->Prop) (c:Cf) (t:T) (fi:FInv K Oo c t σ H) (o:Out) (t':T) (e:f t=some (o,t')) (k:∀σ' H' c',FInv K Oo c' t' σ' H'->Stp Oo c H c' H'->
 match (generalizing:=false) o with
 | .next=>E.nx σ' H'
 | .brk=>E.bk σ' H'
 | .cont=>E.ct σ' H'
 | .ret r=>μ c' H' r E.rt):RSg μ f E σ H
def μR:Cf->Hp->D->(V->Hp->Prop)->Prop:=λc H r rt=>∀v,Rep K c H v r->rt v H
def μF:Cf->Hp->D->(V->Hp->Prop)->Prop:=λc H r rt=>match r with
 | .lst ds=>∀p us,H p=none->Reps K c H us ds->rt (.ref p) (upd H p (.lst us))
 | _=>False
abbrev RS (f:M Out):TS:=RSg K (μR K) f
inductive RG (f:D->M Unit)(v:V)(σ:L2.St)(H:Hp)(Q:L2.St->Hp->Prop):Prop where
 | mk (Oo:Addr->Prop) (c:Cf) (t:T) (d:D) (fi:FInv K Oo c t σ H) (r:Rep K c H v d) (t':T) (e:f d t=some ((),t')) (k:∀σ' H' c',FInv K Oo c' t' σ' H'->Stp Oo c H c' H'->Q σ' H'):RG f v σ H Q
structure ItOk (J:It)(c:Cf)(H:Hp)(ds:List D):Prop where
 go:∀c' H' (i:Nat),Ext c H c' H'->i < ds.length->J.go i H'
 yld:∀c' H' (i:Nat) x H'' d,Ext c H c' H'->ds[i]?=some d->J.yld i H' x H''->H''=H'/\Rep K c' H' x d
 stop:∀c' H',Ext c H c' H'->J.stop ds.length H'
inductive RI (f:M (List D))(σ:L2.St)(H:Hp)(R:It->Hp->Prop):Prop where
 | mk (Oo:Addr->Prop) (c:Cf) (t:T) (fi:FInv K Oo c t σ H) (ds:List D) (t':T) (e:f t=some (ds,t')) (k:∀J H' c',FInv K Oo c' t' σ H'->Stp Oo c H c' H'->ItOk K J c' H' ds->R J H'):RI f σ H R
def Xw (R:V->Hp->VK->Prop)(h:D->M D):Prop:=∀{Oo:Addr->Prop} {c:Cf} {t:T} {σ:L2.St} {H:Hp} {x:V} {dx r:D} {t':T} {Q:VK},FInv K Oo c t σ H->Rep K c H x dx->h dx t=some (r,t')->
 (∀v H' c',FInv K Oo c' t' σ H'->Stp Oo c H c' H'->Rep K c' H' v r->Q v H')->R x H Q
def Bm (R:R2)(h:D->D->M D):Prop:=∀{Oo:Addr->Prop} {c:Cf} {t:T} {σ:L2.St} {H:Hp} {x y:V} {dx dy r:D} {t':T} {Q:VK},FInv K Oo c t σ H->Rep K c H x dx->Rep K c H y dy->h dx dy t=some (r,t')->
 (∀v H' c',FInv K Oo c' t' σ H'->Stp Oo c H c' H'->Rep K c' H' v r->Q v H')->R x y H Q
def GV (R:List V->Hp->VK->Prop)(h:List D->M D):Prop:=∀{Oo:Addr->Prop} {c:Cf} {t:T} {σ:L2.St} {H:Hp} {xs:List V} {ds:List D} {r:D} {t':T} {Q:VK},FInv K Oo c t σ H->Reps K c H xs ds->h ds t=some (r,t')->
 (∀v H' c',FInv K Oo c' t' σ H'->Stp Oo c H c' H'->Rep K c' H' v r->Q v H')->R xs H Q
def O7 (R:R2)(h:D->D->M (List D)):Prop:=∀{Oo:Addr->Prop} {c:Cf} {t:T} {σ:L2.St} {H:Hp} {x y:V} {dx dy:D} {r:List D} {t':T} {Q:VK},FInv K Oo c t σ H->Rep K c H x dx->Rep K c H y dy->h dx dy t=some (r,t')->
 (∀p vs H' c',FInv K Oo c' t' σ H'->Stp Oo c H c' H'->Reps K c' H' vs r->H' p=none->Q (.ref p) (upd H' p (.lst vs)))->R x y H Q
def L8 (R:List V->Hp->VK->Prop)(h:List D->M (List D)):Prop:=∀{Oo:Addr->Prop} {c:Cf} {t:T} {σ:L2.St} {H:Hp} {xs:List V} {ds r:List D} {t':T} {Q:VK},FInv K Oo c t σ H->Reps K c H xs ds->h ds t=some (r,t')->
 (∀p vs H' c',FInv K Oo c' t' σ H'->Stp Oo c H c' H'->Reps K c' H' vs r->H' p=none->Q (.ref p) (upd H' p (.lst vs)))->R xs H Q
end
variable {tg:Expr}{j i:Nat}{f g:M D}{h:D->D->M D}{R:R2}{op:CmpOp}{σ:L2.St}
section
variable {X:Cx}{e a b:Expr}{pos:Pos}
theorem AG {t t':TE}(h:PE X e t)(i:∀σ H Q,t' σ H Q->t σ H Q):PE X e t':=λpins s σ H Q I q=>h pins s σ H Q I (i σ H Q q)
theorem Mr {t t':TT}(h:PT X e t)(i:∀σ H Q,t' σ H Q->t σ H Q):PT X e t':=λpins s σ H Q I q=>h pins s σ H Q I (i σ H Q q)
theorem Qm {t t':TT}(h:PW X e t)(i:∀σ H Q,t' σ H Q->t σ H Q):PW X e t':=λw pins s σ H Q I q=>h w pins s σ H Q I (i σ H Q q)
theorem Qk {es:List Expr}{t t':TA}(h:PA X es t)(i:∀σ H Q,t' σ H Q->t σ H Q):PA X es t':=λpos pins s σ H Q I q=>h pos pins s σ H Q I (i σ H Q q)
theorem Bk {st:Stmt}{t t':TS}(h:PS X st t)(i:∀E σ H,t' E σ H->t E σ H):PS X st t':=λpins s σ H E I q=>h pins s σ H E I (i E σ H q)
theorem N2 {st:List Stmt}{t t':TS}(h:PSs X st t)(i:∀E σ H,t' E σ H->t E σ H):PSs X st t':=λpins s σ H E I q=>h pins s σ H E I (i E σ H q)
theorem Mq {t t':TG}(h:PG X e t)(i:∀v σ H Q,t' v σ H Q->t v σ H Q):PG X e t':=λpins s σ H v u Q I r q=>h pins s σ H v u Q I r (i v σ H Q q)
theorem HD {t t':TI}(h:PI X tg e t)(i:∀σ H R,t' σ H R->t σ H R):PI X tg e t':=λpins s σ H R I q=>h pins s σ H R I (i σ H R q)
def fC (d:D):M D:=ret d
theorem Jp {v:V}{d:D}(h:PE X e (tC v))(r:∀c H,Rep X.K c H v d):PE X e (RE X.K (fC d)):=
 AG h λσ H Q z9=>by
  obtain ⟨Oo,c,t,f,r',t',eq,k⟩:=z9
  cases eq
  exact k v H c f .refl (r c H)
theorem XV {i:Int}:PE X (.Constant (.int i) j pos) (RE X.K (fC (.int i))):=Jp YM λ_ _=>.int i
theorem Z0 {i:Bool}:PE X (.Constant (.bool i) j pos) (RE X.K (fC (.bl i))):=Jp au λ_ _=>.bl i
theorem X0 {i:Str}:PE X (.Constant (.str i) j pos) (RE X.K (fC (.str i))):=Jp Ry λ_ _=>.str i
theorem XW:PE X (.Constant .none j pos) (RE X.K (fC .non)):=Jp YO λ_ _=>.non
theorem KZ {x:Str}{i:Int}{tk:Tok}(hg:Gl X x)(hm:X.mg x=some (.int i tk))(hd:(x == ("__debug__" : Str))=false:=by decide):PE X (.Name x pos) (RE X.K (fC (.int i))):=
 Jp (OA hg hm (v:=.int i) ⟨tk,rfl⟩ hd) λ_ _=>.int i
theorem Ta {x:Str}{y:Str}{tk:Tok}(hg:Gl X x)(hm:X.mg x=some (.str y tk))(hd:(x == ("__debug__" : Str))=false:=by decide):PE X (.Name x pos) (RE X.K (fC (.str y))):=
 Jp (OA hg hm (v:=.str y) ⟨tk,rfl⟩ hd) λ_ _=>.str y
theorem Kb {x:Str}{n:String}(hg:Gl X x)(hm:X.mg x=none)(hv:bootBuiltins x=some (.type n))(hn:x≠"__name__":=by decide)(hd:(x == ("__debug__" : Str))=false:=by decide):PE X (.Name x pos) (RE X.K (fC (.ty n))):=
 Jp (Wm hg hm hv (v:=.ty n) rfl hn hd) λ_ _=>.ty n
noncomputable def Aa (i:Nat):M D:=λt=>match t.env[i]? with
 | some (some (.val d))=>some (d,t)
 | some (some (.own ds))=>some (.lst ds,{ t with env:=t.env.set i (some (.val (.lst ds))) })
 | _=>none
theorem Pm {t':T}{r:D}(h:Aa i t=some (r,t')):(t.env[i]?=some (some (.val r))/\t'=t)\/∃ds,t.env[i]?=some (some (.own ds))/\r = .lst ds/\t' = { t with env:=t.env.set i (some (.val (.lst ds))) }:=by
 unfold Aa at h
 cases e:t.env[i]? with
 | none=>rw [e] at h;cases h
 | some o=>
   cases o with
   | none=>rw [e] at h;cases h
   | some sl=>
     cases sl with
     | val d=>rw [e] at h;cases h;exact .inl ⟨rfl,rfl⟩
     | own ds=>rw [e] at h;cases h;exact .inr ⟨ds,rfl,rfl,rfl⟩
theorem X4 (i:Nat){x:Str}(hN:X.N[i]?=some x:=by rfl)(hv:Vis X.env.scope x:=by walk_at "h")(hd:(x == ("__debug__" : Str))=false:=by decide)
 (hcd:(x == ("__classdict__" : Str))=false:=by decide):PE X (.Name x pos) (RE X.K (Aa i)):=
 AG (CB hN hv hd hcd) λσ H Q z9=>by
  obtain ⟨Oo,c,t,f,r,t',eq,k⟩:=z9;rcases Pm eq with ⟨q,rfl⟩ | ⟨ds,q,rfl,rfl⟩
  ·obtain ⟨v,h1,h2⟩:=f.val i r q;exact ⟨v,h1,k v H c f .refl h2⟩
  ·obtain ⟨c',v,f',st,h1,h2⟩:=f.frz q;exact ⟨v,h1,k v H c' f' st h2⟩
def Ac (f g:M D)(h:D->D->M D):M D:=bnd f λx=>bnd g λy=>h x y
theorem RE.two (s:Bm K R h){σ:L2.St}{H:Hp}{Q:VK}(q:RE K (Ac f g h) σ H Q):tOp R (RE K f) (RE K g) σ H Q:=by
 obtain ⟨Oo,c,t,fi,r,t',eq,k⟩:=q;obtain ⟨dx,t1,e1,eq⟩:=Ae eq;obtain ⟨dy,t2,e2,eq⟩:=Ae eq;exact ⟨Oo,c,t,fi,dx,t1,e1,λx H1 c1 f1 s1 rx=>⟨Oo,c1,t1,f1,dy,t2,e2,λy H2 c2 f2 s2 ry=>s f2 (rx.mono s2.ext) ry eq λv H' c' f' s' rv=>k v H' c' f' ((s1.trans s2).trans s') rv⟩⟩
theorem G7 {op:Operator}(ho:OpR X (binaryOp op) R)(s:Bm X.K R h)(ha:PE X a (RE X.K f))(hb:PE X b (RE X.K g)):PE X (.BinOp a op b pos) (RE X.K (Ac f g h)):=
 AG (PN ho ha hb) λ_ _ _ q=>RE.two s q
theorem MW (ho:OpR X (compareOp op) R)(s:Bm X.K R h)(ha:PE X a (RE X.K f))(hb:PE X b (RE X.K g))(hm:behindInMarks op b=false):PE X (.Compare a [op] [b] pos) (RE X.K (Ac f g h)):=
 AG (Wn ho ha hb hm) λ_ _ _ q=>RE.two s q
theorem UV (hr:IxR X R)(s:Bm X.K R h)(ha:PE X a (RE X.K f))(hb:PE X b (RE X.K g))(hs:KH b):PE X (.Subscript a b pos) (RE X.K (Ac f g h)):=
 AG (UZ hr ha hb hs) λ_ _ _ q=>RE.two s q
def fUn (f:M D)(h:D->M D):M D:=bnd f h
theorem Z4 {op:UnaryOp}{R:V->Hp->VK->Prop}{h:D->M D}(ho:UnR X (unaryOp op) R)(s:Xw X.K R h)(ha:PE X a (RE X.K f)):PE X (.UnaryOp op a pos) (RE X.K (fUn f h)):=
 AG (aw ho ha) λσ H Q z9=>by
  obtain ⟨Oo,c,t,fi,r,t',eq,k⟩:=z9;obtain ⟨dx,t1,e1,eq⟩:=Ae eq;exact ⟨Oo,c,t,fi,dx,t1,e1,λx H1 c1 f1 s1 rx=>s f1 rx eq λv H' c' f' s' rv=>k v H' c' f' (s1.trans s') rv⟩
def toB:D->M Bool
 | .bl b=>ret b
 | _=>fail
def Aq (f:M D):M Bool:=bnd f toB
theorem JH {d:D}{z:Bool×T}(h:toB d t=some z):∃b,d = .bl b/\z=(b,t):=by
 cases d with
 | bl b=>cases h;exact ⟨b,rfl,rfl⟩
 | _=>cases h
theorem RT.val {Q:Bool->Hp->Prop}(q:RT K (Aq f) σ H Q):RE K f σ H λx H1=>∃k,x = .bl k/\Q k H1:=by
 obtain ⟨Oo,c,t,fi,r,t',eq,k⟩:=q;obtain ⟨d,t1,e1,eq⟩:=Ae eq;obtain ⟨b,rfl,z⟩:=JH eq
 cases z
 refine ⟨Oo,c,t,fi,_,t',e1,λv H1 c1 f1 s1 rv=>?_⟩
 cases rv
 exact ⟨r,rfl,k H1 c1 f1 s1⟩
theorem QS (h:PE X e (RE X.K f))(he:∀whole,isTrue e X.env whole=(do let v <-whole;standAt e.pos;holding [v] (truthy v)):=by intro _;rfl):PT X e (RT X.K (Aq f)):=
 Mr (Y4 h he) λ_ _ _ q=>RT.val q
theorem E9 (ho:OpR X (compareOp op) R)(s:Bm X.K R h)(ha:PE X a (RE X.K f))(hb:PE X b (RE X.K g))(hm:behindInMarks op b=false):PT X (.Compare a [op] [b] pos) (RT X.K (Aq (Ac f g h))):=
 Mr (WE ho ha hb hm) λσ H Q q=>RE.two s (RT.val q)
def E7 (f g w:M D)(h h':D->D->M D):M D:=bnd f λx=>bnd g λy=>bnd (Aq (h x y)) λk=>if k=true then bnd w λz=>h' y z else ret (.bl false)
theorem RE.chain {w:M D}{h':D->D->M D}{R':R2}(s:Bm K R h)(s':Bm K R' h'){σ:L2.St}{H:Hp}{Q:VK}(q:RE K (E7 f g w h h') σ H Q):Se R R' (RE K f) (RE K g) (RE K w) σ H Q:=by
 obtain ⟨Oo,c,t,fi,r,t',eq,k⟩:=q;obtain ⟨dx,t1,e1,eq⟩:=Ae eq;obtain ⟨dy,t2,e2,eq⟩:=Ae eq;obtain ⟨kb,t3,e3,eq⟩:=Ae eq;obtain ⟨d3,t3',e3',e3⟩:=Ae e3;obtain ⟨b3,rfl,z⟩:=JH e3
 cases z
 refine ⟨Oo,c,t,fi,dx,t1,e1,λx H1 c1 f1 s1 rx=>⟨Oo,c1,t1,f1,dy,t2,e2,λy H2 c2 f2 s2 ry=>s f2 (rx.mono s2.ext) ry e3' λv H3 c3 f3 s3 rv=>?_⟩⟩
 cases rv
 refine ⟨kb,rfl,?_⟩
 cases kb with
 | false=>
   rw [if_neg uf1] at eq ⊢
   cases eq
   exact k _ H3 c3 f3 ((s1.trans s2).trans s3) (.bl false)
 | true=>
   rw [if_pos rfl] at eq ⊢;obtain ⟨dz,t4,e4,eq⟩:=Ae eq;exact ⟨Oo,c3,t3,f3,dz,t4,e4,λw' H4 c4 f4 s4 rw'=>s' f4 (ry.mono (s3.trans s4).ext) rw' eq λv H' c' f' s' rv=>k v H' c' f' ((((s1.trans s2).trans s3).trans s4).trans s') rv⟩
theorem S6 {d:Expr}{op':CmpOp}{R':R2}{w:M D}{h':D->D->M D}(ho:OpR X (compareOp op) R)(ho':OpR X (compareOp op') R')(s:Bm X.K R h)(s':Bm X.K R' h')(ha:PE X a (RE X.K f))(hb:PE X b (RE X.K g))(hd:PE X d (RE X.K w))
 (hm:lastMarks [op,op'] [b,d]=false:=by with_unfolding_all rfl):PE X (.Compare a [op,op'] [b,d] pos) (RE X.K (E7 f g w h h')):=
 AG (T5 ho ho' ha hb hd hm) λ_ _ _ q=>RE.chain s s' q
def Jo (f g:M Bool):M Bool:=bnd f λk=>if k=true then g else ret false
def fOr (f g:M Bool):M Bool:=bnd f λk=>if k=true then ret true else g
def C9 (f:M Bool):M Bool:=bnd f λk=>ret (!k)
def Ft (f g:M D):M D:=bnd (Aq f) λk=>if k=true then g else ret (.bl false)
def XQ (f g:M D):M D:=bnd (Aq f) λk=>if k=true then ret (.bl true) else g
def IG (f:M D):M D:=bnd (Aq f) λk=>ret (.bl (!k))
def fIf (f:M Bool)(g h:M D):M D:=bnd f λk=>if k=true then g else h
variable {f g:M Bool}{u v w:M D}{rest:List Expr}
theorem ae (h:PW X e (RT X.K f)):PT X e (RT X.K f):=h.pt
theorem VN (ha:PT X a (RT X.K f)):PW X (.BoolOp .And [a] pos) (RT X.K f):=WF ha
theorem Yf (ha:PT X a (RT X.K f)):PW X (.BoolOp .Or [a] pos) (RT X.K f):=Y6 ha
theorem Ye (ha:PT X a (RT X.K f))(hb:PW X (.BoolOp .And (b :: rest) pos) (RT X.K g)):PW X (.BoolOp .And (a :: b :: rest) pos) (RT X.K (Jo f g)):=
 Qm (Y5 ha hb) λσ H Q z9=>by
  obtain ⟨Oo,c,t,fi,r,t',eq,k⟩:=z9;obtain ⟨kb,t1,e1,eq⟩:=Ae eq;refine ⟨Oo,c,t,fi,kb,t1,e1,λH1 c1 f1 s1=>?_⟩
  cases kb with
  | false=>rw [if_neg uf1] at eq ⊢;cases eq;exact k H1 c1 f1 s1
  | true=>rw [if_pos rfl] at eq ⊢;exact ⟨Oo,c1,t1,f1,r,t',eq,λH2 c2 f2 s2=>k H2 c2 f2 (s1.trans s2)⟩
theorem af (ha:PT X a (RT X.K f))(hb:PW X (.BoolOp .Or (b :: rest) pos) (RT X.K g)):PW X (.BoolOp .Or (a :: b :: rest) pos) (RT X.K (fOr f g)):=
 Qm (aE ha hb) λσ H Q z9=>by
  obtain ⟨Oo,c,t,fi,r,t',eq,k⟩:=z9;obtain ⟨kb,t1,e1,eq⟩:=Ae eq;refine ⟨Oo,c,t,fi,kb,t1,e1,λH1 c1 f1 s1=>?_⟩
  cases kb with
  | true=>rw [if_pos rfl] at eq ⊢;cases eq;exact k H1 c1 f1 s1
  | false=>rw [if_neg uf1] at eq ⊢;exact ⟨Oo,c1,t1,f1,r,t',eq,λH2 c2 f2 s2=>k H2 c2 f2 (s1.trans s2)⟩
theorem Yd (ha:PT X a (RT X.K f)):PT X (.UnaryOp .Not a pos) (RT X.K (C9 f)):=
 Mr (Y0 ha) λσ H Q z9=>by
  obtain ⟨Oo,c,t,fi,r,t',eq,k⟩:=z9;obtain ⟨kb,t1,e1,eq⟩:=Ae eq
  cases eq
  exact ⟨Oo,c,t,fi,kb,_,e1,λH1 c1 f1 s1=>k H1 c1 f1 s1⟩
theorem NI {f:M D}{kb:Bool}{t1:T}(h:Aq f t=some (kb,t1)):f t=some (.bl kb,t1):=by
 obtain ⟨d,t2,e1,e2⟩:=Ae h;obtain ⟨b,rfl,z⟩:=JH e2
 cases z
 exact e1
theorem XZ {op:PySem.BoolOp}(h:PE X a (RE X.K u)):PE X (.BoolOp op [a] pos) (RE X.K u):=YR h
theorem XS (ha:PE X a (RE X.K u))(hb:PE X (.BoolOp .And (b :: rest) pos) (RE X.K v)):PE X (.BoolOp .And (a :: b :: rest) pos) (RE X.K (Ft u v)):=
 AG (YK ha hb) λσ H Q z9=>by
  obtain ⟨Oo,c,t,fi,r,t',eq,k⟩:=z9;obtain ⟨kb,t1,e1,eq⟩:=Ae eq;refine ⟨Oo,c,t,fi,_,t1,NI e1,λx H1 c1 f1 s1 rx=>?_⟩
  cases rx
  refine ⟨kb,rfl,?_⟩
  cases kb with
  | false=>rw [if_neg uf1] at eq ⊢;cases eq;exact k _ H1 c1 f1 s1 (.bl false)
  | true=>rw [if_pos rfl] at eq ⊢;exact ⟨Oo,c1,t1,f1,r,t',eq,λy H2 c2 f2 s2 ry=>k y H2 c2 f2 (s1.trans s2) ry⟩
theorem XX (ha:PE X a (RE X.K u)):PE X (.UnaryOp .Not a pos) (RE X.K (IG u)):=
 AG (YQ ha) λσ H Q z9=>by
  obtain ⟨Oo,c,t,fi,r,t',eq,k⟩:=z9;obtain ⟨kb,t1,e1,eq⟩:=Ae eq
  cases eq
  refine ⟨Oo,c,t,fi,_,_,NI e1,λx H1 c1 f1 s1 rx=>?_⟩
  cases rx
  exact ⟨kb,rfl,k _ H1 c1 f1 s1 (.bl (!kb))⟩
theorem Tb {d:Expr}(hc:PT X d (RT X.K f))(ha:PE X a (RE X.K u))(hb:PE X b (RE X.K v)):PE X (.IfExp d a b pos) (RE X.K (fIf f u v)):=
 AG (T7 hc ha hb) λσ H Q z9=>by
  obtain ⟨Oo,c,t,fi,r,t',eq,k⟩:=z9;obtain ⟨kb,t1,e1,eq⟩:=Ae eq;refine ⟨Oo,c,t,fi,kb,t1,e1,λH1 c1 f1 s1=>?_⟩
  cases kb with
  | false=>rw [if_neg uf1] at eq ⊢;exact ⟨Oo,c1,t1,f1,r,t',eq,λy H2 c2 f2 s2 ry=>k y H2 c2 f2 (s1.trans s2) ry⟩
  | true=>rw [if_pos rfl] at eq ⊢;exact ⟨Oo,c1,t1,f1,r,t',eq,λy H2 c2 f2 s2 ry=>k y H2 c2 f2 (s1.trans s2) ry⟩
end
variable {n:Nat}{p:Pos}
section
variable {X:Cx}{e a b:Expr}{es:List Expr}{pos:Pos}
def Ad:M (List D):=ret []
def Ab (f:M D)(g:M (List D)):M (List D):=bnd f λd=>bnd g λds=>ret (d :: ds)
theorem XR:PA X [] (RA X.K Ad):=Qk YJ λσ H Q z9=>by
 obtain ⟨Oo,c,t,fi,r,t',eq,k⟩:=z9
 cases eq
 exact k [] H c fi .refl .nil
theorem Vq {g:M (List D)}(ha:PE X e (RE X.K f))(hr:PA X es (RA X.K g))(hs:starEach (e :: es) X.env=(false,eval e X.env) :: starEach es X.env:=by rfl):PA X (e :: es) (RA X.K (Ab f g)):=
 Qk (Wk ha hr hs) λσ H Q z9=>by
  obtain ⟨Oo,c,t,fi,r,t',eq,k⟩:=z9;obtain ⟨d,t1,e1,eq⟩:=Ae eq;obtain ⟨ds,t2,e2,eq⟩:=Ae eq
  cases eq
  exact ⟨Oo,c,t,fi,d,t1,e1,λx H1 c1 f1 s1 rx=>⟨Oo,c1,t1,f1,ds,_,e2,λxs H2 c2 f2 s2 rxs=>k _ H2 c2 f2 (s1.trans s2) (.cons (rx.mono s2.ext) rxs)⟩⟩
def lim {α:Type}(n:Nat)(a:α):M α:=λt=>if n<=LIM then some (a,t) else none
theorem Ed {α:Type}{a:α}{z:α×T}(h:lim n a t=some z):n<=LIM/\z=(a,t):=by
 unfold lim at h
 split at h
 ·next h1=>cases h;exact ⟨h1,rfl⟩
 ·cases h
def AD (f:M (List D)):M D:=bnd f λds=>lim ds.length (.tup ds)
theorem QE {x1:Nat}{f:M (List D)}(h:PA X es (RA X.K f)):PE X (.Tuple es x1 pos) (RE X.K (AD f)):=
 AG (YS h) λσ H Q z9=>by
  obtain ⟨Oo,c,t,fi,r,t',eq,k⟩:=z9;obtain ⟨ds,t1,e1,eq⟩:=Ae eq;obtain ⟨hl,z⟩:=Ed eq
  cases z
  refine ⟨Oo,c,t,fi,ds,_,e1,λxs H1 c1 f1 s1 rxs=>⟨by rw [rxs.length];exact um0 hl BU,λp hp=>?_⟩⟩;exact k _ _ c1 (f1.laid hp) (s1.trans (f1.stp_laid hp)) (.tup Aj (f1.s.free hp) (rxs.mono (Ext.laid f1.s hp)))
def Bh (f:M (List D)):M (List D):=bnd f λds=>lim ds.length ds
theorem X5 {f:M (List D)}(h:PA X es (RA X.K f)):PE X (.List es pos) (RF X.K (Bh f)):=
 AG (YN h) λσ H Q z9=>by
  obtain ⟨Oo,c,t,fi,r,t',eq,k⟩:=z9;obtain ⟨ds,t1,e1,eq⟩:=Ae eq;obtain ⟨hl,z⟩:=Ed eq
  cases z
  exact ⟨Oo,c,t,fi,_,_,e1,λxs H1 c1 f1 s1 rxs=>⟨by rw [rxs.length];exact um0 hl BU,λp hp=>k p xs H1 c1 f1 s1 rxs hp⟩⟩
def AX (f:M (List D)):M D:=bnd f λds=>ret (.lst ds)
theorem Vx {f:M (List D)}(h:PE X e (RF X.K f)):PE X e (RE X.K (AX f)):=
 AG h λσ H Q z9=>by
  obtain ⟨Oo,c,t,fi,r,t',eq,k⟩:=z9;obtain ⟨ds,t1,e1,eq⟩:=Ae eq
  cases eq
  exact ⟨Oo,c,t,fi,ds,_,e1,λp xs H1 c1 f1 s1 rxs hp=>k _ _ c1 (f1.laid hp) (s1.trans (f1.stp_laid hp)) (.lst Aj (f1.s.free hp) (rxs.mono (Ext.laid f1.s hp)))⟩
noncomputable def PJ (o:Ob):M D:=λt=>some (.obj t.S.length,{ t with S:=t.S++[o] })
def Gk (f:M (List D)):M D:=bnd f λds=>PJ (.lst ds)
theorem XY {f:M (List D)}(h:PE X e (RF X.K f)):PE X e (RE X.K (Gk f)):=
 AG h λσ H Q z9=>by
  obtain ⟨Oo,c,t,fi,r,t',eq,k⟩:=z9;obtain ⟨ds,t1,e1,eq⟩:=Ae eq
  cases eq
  refine ⟨Oo,c,t,fi,ds,_,e1,λp xs H1 c1 f1 s1 rxs hp=>?_⟩;obtain ⟨c2,f2,s2,e2⟩:=f1.newObj (o:=.lst ds) (u:=.lst xs) hp λc' H' ex hu=>⟨xs,hu,rxs.mono ex⟩;exact k _ _ c2 f2 (s1.trans s2) (.obj e2)
abbrev Fn:=List D->List Ob->Option (D×List Ob)
inductive spF (K:PySem.W.Frag)(f:Fn)(vs:List V)(H:Hp)(Q:VK)(E:XK):Prop where
 | mk (c:Cf) (ds:List D) (S:List Ob) (si:SInv K c S H) (rs:Reps K c H vs ds) (r:D) (S':List Ob) (e:f ds S=some (r,S')) (k:∀v H' c',SInv K c' S' H'->Stp c.O c H c' H'->(∀b,c'.O b↔c.O b)->Rep K c' H' v r->Q v H'):spF K f vs H Q E
def Ai (g:Fn)(f:M (List D)):M D:=bnd f λds t=>match g ds t.S with
 | some (r,S')=>some (r,{ t with S:=S' })
 | none=>none
theorem Ga {g:Fn}{ds:List D}{r:D}{t':T}(h:(match g ds t.S with | some (r,S')=>some (r,{ t with S:=S' }) | none=>none:Option (D×T))=some (r,t')):∃S',g ds t.S=some (r,S')/\t' = { t with S:=S' }:=by
 cases e:g ds t.S with
 | none=>rw [e] at h;cases h
 | some p=>obtain ⟨r',S'⟩:=p;rw [e] at h;cases h;exact ⟨S',rfl,rfl⟩
theorem Vr {k:Nat}{fa:Addr}{fd:FuncData}{ps:List Str}{g:Fn}{f:M (List D)}{x:Str}(F:FnOk X.prog X.w X.K X.mg X.base CX0 k fa fd ps (spF X.K g))(hr:Room k X.A)(hg:Gl X x)(hm:X.mg x=some (.ref fa))(hk:PySem.W.keepIn X.K (.ref fa)=true)(hb:Binds X.K fd ps [])
 (ha:PA X (e :: es) (RA X.K f)) (hdb:(x == ("__debug__" : Str))=false:=by decide) (he:starEach (e :: es) X.env=(false,eval e X.env) :: starEach es X.env:=by rfl) (hpl:(backTo pos (starEach es X.env)).any (·.1)=false:=by rfl) :
 PE X (.Call (.Name x p) (e :: es) [] pos) (RE X.K (Ai g f)):=
 AG (Oz F hr hg hm hk hb .nil IS ha hdb he hpl) λσ H Q z9=>by
  obtain ⟨Oo,c,t,fi,r,t',eq,kk⟩:=z9;obtain ⟨ds,t1,e1,eq⟩:=Ae eq;obtain ⟨S',e2,rfl⟩:=Ga eq;refine ⟨Oo,c,t,fi,ds,t1,e1,λvs H1 c1 f1 s1 rvs=>?_⟩;show spF X.K g (vs++[]) H1 Q E0;rw [ui8];refine ⟨c1,ds,t1.S,f1.s,rvs,r,S',e2,λv H' c' si st ho rv=>?_⟩;obtain ⟨f2,s2⟩:=f1.after si st ho;exact kk v H' c' f2 (s1.trans s2) rv
def fB (f:M (List D))(h:List D->M D):M D:=bnd f h
theorem RE.callB {f:M (List D)}{h:List D->M D}{R:List V->Hp->VK->Prop}(s:GV K R h){σ:L2.St}{H:Hp}{Q:VK}(q:RE K (fB f h) σ H Q):tCB R (RA K f) σ H Q:=by
 obtain ⟨Oo,c,t,fi,r,t',eq,k⟩:=q;obtain ⟨ds,t1,e1,eq⟩:=Ae eq;exact ⟨Oo,c,t,fi,ds,t1,e1,λxs H1 c1 f1 s1 rxs=>s f1 rxs eq λv H' c' f' s' rv=>k v H' c' f' (s1.trans s') rv⟩
def fBF (f:M (List D))(h:List D->M (List D)):M (List D):=bnd f h
theorem RF.callB {f:M (List D)}{h:List D->M (List D)}{R:List V->Hp->VK->Prop}(s:L8 K R h){σ:L2.St}{H:Hp}{Q:VK}(q:RF K (fBF f h) σ H Q):tCB R (RA K f) σ H Q:=by
 obtain ⟨Oo,c,t,fi,r,t',eq,k⟩:=q;obtain ⟨ds,t1,e1,eq⟩:=Ae eq;exact ⟨Oo,c,t,fi,ds,t1,e1,λxs H1 c1 f1 s1 rxs=>s f1 rxs eq λp vs H' c' f' s' rv hp=>k p vs H' c' f' (s1.trans s') rv hp⟩
theorem RF.two {h:D->D->M (List D)}(s:O7 K R h){σ:L2.St}{H:Hp}{Q:VK}(q:RF K (bnd f λx=>bnd g λy=>h x y) σ H Q):tOp R (RE K f) (RE K g) σ H Q:=by
 obtain ⟨Oo,c,t,fi,r,t',eq,k⟩:=q;obtain ⟨dx,t1,e1,eq⟩:=Ae eq;obtain ⟨dy,t2,e2,eq⟩:=Ae eq;exact ⟨Oo,c,t,fi,dx,t1,e1,λx H1 c1 f1 s1 rx=>⟨Oo,c1,t1,f1,dy,t2,e2,λy H2 c2 f2 s2 ry=>s f2 (rx.mono s2.ext) ry eq λp vs H' c' f' s' rv hp=>k p vs H' c' f' ((s1.trans s2).trans s') rv hp⟩⟩
end
variable {μ:Cf->Hp->D->(V->Hp->Prop)->Prop}
section
variable {X:Cx}{e a b:Expr}{pos:Pos}{st:Stmt}{sts:List Stmt}
noncomputable def Af (f g:M Out):M Out:=λt=>match f t with
 | some (.next,t1)=>g t1
 | z=>z
def Au:M Out:=ret .next
theorem VM:PSs X [] (RSg X.K μ Au):=N2 WD λE σ H z9=>by
 obtain ⟨Oo,c,t,fi,o,t',eq,k⟩:=z9
 cases eq
 exact k σ H c fi .refl
theorem Tj {μ:Cf->Hp->D->(V->Hp->Prop)->Prop}{f g:M Out}(h1:PS X st (RSg X.K μ f))(h2:PSs X sts (RSg X.K μ g)):PSs X (st :: sts) (RSg X.K μ (Af f g)):=
 N2 (JE h1 h2) λE σ H z9=>by
  obtain ⟨Oo,c,t,fi,o,t',eq,k⟩:=z9;unfold Af at eq
  cases e1:f t with
  | none=>rw [e1] at eq;cases eq
  | some p=>
    obtain ⟨o1,t1⟩:=p;rw [e1] at eq;refine ⟨Oo,c,t,fi,o1,t1,e1,λσ1 H1 c1 f1 s1=>?_⟩
    cases o1 with
    | next=>exact ⟨Oo,c1,t1,f1,o,t',eq,λσ2 H2 c2 f2 s2=>k σ2 H2 c2 f2 (s1.trans s2)⟩
    | brk=>cases eq;exact k σ1 H1 c1 f1 s1
    | cont=>cases eq;exact k σ1 H1 c1 f1 s1
    | ret d=>cases eq;exact k σ1 H1 c1 f1 s1
theorem Oj {μ:Cf->Hp->D->(V->Hp->Prop)->Prop}{f:M Out}(h1:PS X st (RSg X.K μ f)):PSs X [st] (RSg X.K μ f):=GI h1
def Ao (f:M D):M Out:=bnd f λd=>ret (.ret d)
theorem QO (h:PE X e (RE X.K f)):PS X (.Return (some e) pos) (RS X.K (Ao f)):=
 Bk (Ir h) λE σ H z9=>by
  obtain ⟨Oo,c,t,fi,o,t',eq,k⟩:=z9;obtain ⟨d,t1,e1,eq⟩:=Ae eq
  cases eq
  exact ⟨Oo,c,t,fi,d,_,e1,λv H1 c1 f1 s1 rv=>k σ H1 c1 f1 s1 v rv⟩
theorem Oe:PS X (.Pass pos) (RSg X.K μ Au):=Bk WC λE σ H z9=>by
 obtain ⟨Oo,c,t,fi,o,t',eq,k⟩:=z9
 cases eq
 exact k σ H c fi .refl
theorem Ti:PS X (.Break pos) (RSg X.K μ (ret .brk)):=Bk Ue λE σ H z9=>by
 obtain ⟨Oo,c,t,fi,o,t',eq,k⟩:=z9
 cases eq
 exact k σ H c fi .refl
def BX (f:M D):M Out:=bnd f λ_=>ret .next
theorem Od (h:PE X e (RE X.K f))(hs:swapsWith e none pos.line X.env=pure false:=by rfl):PS X (.Expr e pos) (RSg X.K μ (BX f)):=
 Bk (Lh h hs) λE σ H z9=>by
  obtain ⟨Oo,c,t,fi,o,t',eq,k⟩:=z9;obtain ⟨d,t1,e1,eq⟩:=Ae eq
  cases eq
  exact ⟨Oo,c,t,fi,d,_,e1,λv H1 c1 f1 s1 rv=>k σ H1 c1 f1 s1⟩
def ifS (f:M Bool)(g h:M Out):M Out:=bnd f λk=>if k=true then g else h
theorem ad {f:M Bool}{g h:M Out}{sa sb:List Stmt}(hc:PT X e (RT X.K f))(ha:PSs X sa (RSg X.K μ g))(hb:PSs X sb (RSg X.K μ h)):PS X (.If e sa sb pos) (RSg X.K μ (ifS f g h)):=
 Bk (aD hc ha hb) λE σ H z9=>by
  obtain ⟨Oo,c,t,fi,o,t',eq,k⟩:=z9;obtain ⟨kb,t1,e1,eq⟩:=Ae eq;refine ⟨Oo,c,t,fi,kb,t1,e1,λH1 c1 f1 s1=>?_⟩
  cases kb with
  | true=>rw [if_pos rfl] at eq ⊢;exact ⟨Oo,c1,t1,f1,o,t',eq,λσ2 H2 c2 f2 s2=>k σ2 H2 c2 f2 (s1.trans s2)⟩
  | false=>rw [if_neg uf1] at eq ⊢;exact ⟨Oo,c1,t1,f1,o,t',eq,λσ2 H2 c2 f2 s2=>k σ2 H2 c2 f2 (s1.trans s2)⟩
noncomputable def AB (i:Nat)(d:D):M Unit:=λt=>some ((),{ t with env:=t.env.set i (some (.val d)) })
def AA (i:Nat)(f:M D):M Out:=bnd f λd=>bnd (AB i d) λ_=>ret .next
theorem RS.set {μ:Cf->Hp->D->(V->Hp->Prop)->Prop}{K:PySem.W.Frag}{i:Nat}{f:M D}{E:Ends}{σ:L2.St}{H:Hp}(q:RSg K μ (AA i f) E σ H):P5 (RE K f) (Mc i) E σ H:=by
 obtain ⟨Oo,c,t,fi,o,t',eq,k⟩:=q;obtain ⟨d,t1,e1,eq⟩:=Ae eq
 cases eq
 exact ⟨Oo,c,t,fi,d,t1,e1,λv H1 c1 f1 s1 rv=>k _ H1 c1 (f1.set rv) s1⟩
theorem QQ {x:Str}{pos':Pos}(hN:X.N.Nodup)(hi:X.N[i]?=some x)(hx:Loc X.env.scope x)(he:PE X e (RE X.K f))(hs:swapsWith e (some (.Name x pos')) pos.line X.env=pure false:=by rfl)(hf:X.fn x=true\/X.env.scope.names.lookup x=some .local:=by walk_at "h") :
 PS X (.Assign [.Name x pos'] e pos) (RSg X.K μ (AA i f)):=Bk (Np hN hi hx he hs hf) λ_ _ _ q=>RS.set q
def EX (i:Nat)(f:M (List D)):M Out:=bnd f λds t=>some (.next,{ t with env:=t.env.set i (some (.own ds)) })
theorem RS.own {f:M (List D)}{E:Ends}(q:RSg K μ (EX i f) E σ H):P5 (RF K f) (Mc i) E σ H:=by
 obtain ⟨Oo,c,t,fi,o,t',eq,k⟩:=q;obtain ⟨ds,t1,e1,eq⟩:=Ae eq
 cases eq
 refine ⟨Oo,c,t,fi,ds,t1,e1,λp vs H1 c1 f1 s1 rv hp=>?_⟩;obtain ⟨c2,f2,s2⟩:=f1.setOwn (i:=i) hp rv;exact k _ _ c2 f2 (s1.trans s2)
theorem Yc {x:Str}{f:M (List D)}{pos':Pos}(hN:X.N.Nodup)(hi:X.N[i]?=some x)(hx:Loc X.env.scope x)(he:PE X e (RF X.K f))(hs:swapsWith e (some (.Name x pos')) pos.line X.env=pure false:=by rfl)(hf:X.fn x=true\/X.env.scope.names.lookup x=some .local:=by walk_at "h") :
 PS X (.Assign [.Name x pos'] e pos) (RSg X.K μ (EX i f)):=Bk (Np hN hi hx he hs hf) λ_ _ _ q=>RS.own q
theorem DR {x:Str}(hN:X.N.Nodup)(hi:X.N[i]?=some x)(hx:Loc X.env.scope x)(hf:X.fn x=true\/X.env.scope.names.lookup x=some .local:=by walk_at "h"):PG X (.Name x pos) (RG X.K (AB i)):=
 Mq (Ws hN hi hx hf) λv σ H Q z9=>by
  obtain ⟨Oo,c,t,d,fi,rv,t',eq,k⟩:=z9
  cases eq
  exact k _ H c (fi.set rv) .refl
def Ce (f:M D)(g:D->M Unit):M Out:=bnd f λd=>bnd (g d) λ_=>ret .next
theorem Ya {g:D->M Unit}(he:PE X e (RE X.K f))(hg:PG X tg (RG X.K g))(hs:swapsWithSole [tg] e pos.line X.env=pure false:=by rfl)(hw:swappedStores [tg] e X.env=pure none:=by rfl)(hp:(assignEach [tg] X.env).map (·.2)=[assign tg X.env]:=by rfl) :
 PS X (.Assign [tg] e pos) (RSg X.K μ (Ce f g)):=
 Bk (by first | exact RJ he hg hs hw | exact RJ he hg hs hw hp) λE σ H z9=>by
  obtain ⟨Oo,c,t,fi,o,t',eq,k⟩:=z9;obtain ⟨d,t1,e1,eq⟩:=Ae eq;obtain ⟨u,t2,e2,eq⟩:=Ae eq
  cases eq
  exact ⟨Oo,c,t,fi,d,t1,e1,λv H1 c1 f1 s1 rv=>⟨Oo,c1,t1,d,f1,rv,_,e2,λσ2 H2 c2 f2 s2=>k σ2 H2 c2 f2 (s1.trans s2)⟩⟩
inductive RGs (K:PySem.W.Frag)(f:List D->M Unit)(vs:List V)(σ:L2.St)(H:Hp)(Q:L2.St->Hp->Prop):Prop where
 | mk (Oo:Addr->Prop) (c:Cf) (t:T) (ds:List D) (fi:FInv K Oo c t σ H) (r:Reps K c H vs ds) (t':T) (e:f ds t=some ((),t')) (k:∀σ' H' c',FInv K Oo c' t' σ' H'->Stp Oo c H c' H'->Q σ' H'):RGs K f vs σ H Q
theorem N1 {ts:List Expr}{t t':TGs}(h:PGs X ts t)(i:∀v σ H Q,t' v σ H Q->t v σ H Q):PGs X ts t':=λpins s σ H vs us Q I r q=>h pins s σ H vs us Q I r (i vs σ H Q q)
def B2:List D->M Unit
 | []=>ret ()
 | _=>fail
def AN (f:D->M Unit)(g:List D->M Unit):List D->M Unit
 | d :: ds=>bnd (f d) λ_=>g ds
 | []=>fail
theorem Vy:PGs X [] (RGs X.K B2):=N1 Wt λvs σ H Q z9=>by
 obtain ⟨Oo,c,t,ds,fi,rv,t',eq,k⟩:=z9
 cases rv with
 | nil=>cases eq;exact ⟨rfl,k σ H c fi .refl⟩
 | cons _ _=>cases eq
theorem RGs.cons {K:PySem.W.Frag}{f:D->M Unit}{g:List D->M Unit}{vs:List V}{σ:L2.St}{H:Hp}{Q:L2.St->Hp->Prop}(q:RGs K (AN f g) vs σ H Q):UX (RG K f) (RGs K g) vs σ H Q:=by
 obtain ⟨Oo,c,t,ds,fi,rv,t',eq,k⟩:=q
 cases rv with
 | nil=>cases eq
 | cons r rs=>
   obtain ⟨u,t1,e1,eq⟩:=Ae eq;exact ⟨_,_,rfl,Oo,c,t,_,fi,r,t1,e1,λσ1 H1 c1 f1 s1=>⟨Oo,c1,t1,_,f1,rs.mono s1.ext,t',eq,λσ2 H2 c2 f2 s2=>k σ2 H2 c2 f2 (s1.trans s2)⟩⟩
def unT (n:Nat)(g:List D->M Unit):D->M Unit
 | .tup ds=>if ds.length=n then g ds else fail
 | _=>fail
def CV (st:D->M Unit)(b:M Out):List D->M Out
 | []=>ret .next
 | d :: r=>λt=>match st d t with
   | none=>none
   | some (_,t1)=>match b t1 with
     | some (.next,t2)=>CV st b r t2
     | some (.cont,t2)=>CV st b r t2
     | some (.brk,t2)=>some (.next,t2)
     | some (.ret x,t2)=>some (.ret x,t2)
     | none=>none
def B8 (f:M (List D))(st:D->M Unit)(b:M Out):M Out:=bnd f λds=>CV st b ds
theorem RS.for {f:M (List D)}{g:D->M Unit}{b:M Out}{E:Ends}(q:RSg K μ (B8 f g b) E σ H):Zy (RI K f) (RG K g) (RSg K μ b) E σ H:=by
 obtain ⟨Oo,c,t,fi,o,t',eq,k⟩:=q;obtain ⟨ds,t1,e1,eq⟩:=Ae eq;refine ⟨Oo,c,t,fi,ds,t1,e1,λJ H1 c1 f1 s1 it=>?_⟩;refine ⟨λi m σ' H'=>m=ds.length - i/\i<=ds.length/\∃c' t2,FInv K Oo c' t2 σ' H'/\Stp Oo c1 H1 c' H'/\CV g b (ds.drop i) t2=some (o,t'),⟨_,rfl,um9 _,c1,t1,f1,.refl,by rw [uk5];exact eq⟩,?_⟩;rintro i m σ' H' ⟨rfl,hi,c',t2,f2,s2,e2⟩
 by_cases hlt:i < ds.length
 ·refine .inr ⟨it.go c' H' i s2.ext hlt,λσ3 H3=>∃c3 t3,FInv K Oo c3 t3 σ3 H3/\Stp Oo c1 H1 c3 H3/\CV g b (ds.drop (i + 1)) t3=some (o,t'),λσ3 H3 h=>⟨ds.length - (i + 1),by lia,rfl,hlt,h⟩,λx H'' hy=>?_⟩;obtain ⟨rfl,rx⟩:=it.yld c' H' i x H'' _ s2.ext (ub3 hlt) hy;rw [ub0 hlt] at e2;unfold CV at e2
  cases e3:g ds[i] t2 with
  | none=>rw [e3] at e2;cases e2
  | some p=>
    obtain ⟨u,t3⟩:=p;rw [e3] at e2
    try dsimp only at e2
    refine ⟨Oo,c',t2,_,f2,rx,t3,e3,λσ3 H3 c3 f3 s3=>?_⟩
    cases e4:b t3 with
    | none=>rw [e4] at e2;cases e2
    | some p=>
      obtain ⟨o4,t4⟩:=p;rw [e4] at e2
      try dsimp only at e2
      refine ⟨Oo,c3,t3,f3,o4,t4,e4,λσ5 H5 c5 f5 s5=>?_⟩;have s':=(s2.trans s3).trans s5
      cases o4 with
      | next=>exact ⟨c5,t4,f5,s',e2⟩
      | cont=>exact ⟨c5,t4,f5,s',e2⟩
      | brk=>cases e2;exact k σ5 H5 c5 f5 (s1.trans s')
      | ret r=>cases e2;exact k σ5 H5 c5 f5 (s1.trans s')
 ·have hi':i=ds.length:=by lia
  subst hi';rw [uh7] at e2
  cases e2
  exact .inl ⟨it.stop c' H' s2.ext,k σ' H' c' f2 (s1.trans s2)⟩
theorem QL {iter:Expr}{body:List Stmt}{f:M (List D)}{g:D->M Unit}{b:M Out}(hp:PassesOwn (model X.prog X.w) X.A X.env X.xe)(hc:X.calm=true)(hi:PI X tg iter (RI X.K f))(hg:PG X tg (RG X.K g))(hb:PSs X body (RSg X.K μ b))
 (hs:∀x,foldedSetIterable iter X.env x=pure x:=by intro _;rfl):PS X (.For tg iter body [] pos) (RSg X.K μ (B8 f g b)):=
 Bk (YY hp hc hi hg hb hs) λ_ _ _ q=>RS.for q
theorem ItOk.lst {K:PySem.W.Frag}{c:Cf}{H:Hp}{p:Addr}{ds:List D}(r:∀c' H',Ext c H c' H'->∃vs,SqL K H' p vs/\Reps K c' H' vs ds):ItOk K (Itl K p) c H ds:=by
 refine ⟨λc' H' i ex hi=>?_,λc' H' i x H'' d ex hd hy=>?_,λc' H' ex=>?_⟩
 ·obtain ⟨vs,h1,h2⟩:=r c' H' ex;obtain ⟨v,e,_⟩:=h2.at (ub3 hi);exact ⟨vs,v,h1,e⟩
 ·obtain ⟨vs,h1,h2⟩:=r c' H' ex;obtain ⟨rfl,h⟩:=hy;exact ⟨rfl,h2.get (h vs h1) hd⟩
 ·obtain ⟨vs,h1,h2⟩:=r c' H' ex;exact ⟨vs,h1,by rw [h2.length];exact um8 _⟩
theorem ItOk.tup {K:PySem.W.Frag}{c:Cf}{H:Hp}{p:Addr}{ds:List D}(r:∀c' H',Ext c H c' H'->∃vs,SqT K H' p vs/\Reps K c' H' vs ds):ItOk K (Itt K p) c H ds:=by
 refine ⟨λc' H' i ex hi=>?_,λc' H' i x H'' d ex hd hy=>?_,λc' H' ex=>?_⟩
 ·obtain ⟨vs,h1,h2⟩:=r c' H' ex;obtain ⟨v,e,_⟩:=h2.at (ub3 hi);exact ⟨vs,v,h1,e⟩
 ·obtain ⟨vs,h1,h2⟩:=r c' H' ex;obtain ⟨rfl,h⟩:=hy;exact ⟨rfl,h2.get (h vs h1) hd⟩
 ·obtain ⟨vs,h1,h2⟩:=r c' H' ex;exact ⟨vs,h1,by rw [h2.length];exact um8 _⟩
end
theorem FInv.leave {Oo:Addr->Prop}(f:FInv K Oo c t σ H):SInv K ⟨c.ι,Oo⟩ t.S H/\Ext c H ⟨c.ι,Oo⟩ H:=by
 have ext:Ext c H ⟨c.ι,Oo⟩ H:=⟨λ_ _ e _=>e,λb o _ z=>z.elim .inl λw=>.inr (f.sub b w),λ_ _ e=>e⟩;exact ⟨⟨f.s.len,f.s.nd,λk a o e1 e2=>(f.s.obs k a o e1 e2).mono ext rfl,λb z=>f.s.trk b (f.sub b z),λb z=>f.s.dis b (f.sub b z)⟩,ext⟩
noncomputable def env0 (m:Nat)(ds:List D):List (Option Sl):=ds.map (λd=>some (.val d))++List.replicate (m - ds.length) none
def fnOf (n m:Nat)(g:M Out):Fn:=λds S=>if ds.length=n then (match g ⟨env0 m ds,S⟩ with
 | some (.ret r,t)=>some (r,t.S)
 | some (.next,t)=>some (.non,t.S)
 | _=>none) else none
theorem G9 {ds:List D}{N:List Str}(s:SInv K c S H)(r:Reps K c H vs ds):FInv K c.O c ⟨env0 N.length ds,S⟩ (L2.CQ N vs) H:=by
 have hlen:vs.length=ds.length:=r.length;have none_:∀{i:Nat} {x:Sl},(env0 N.length ds)[i]?=some (some x)->∃d,ds[i]?=some d/\x = .val d:=λ{i x} q=>by
  unfold env0 at q
  by_cases hi:i < ds.length
  ·rw [ua9 (by simpa using hi),ug1,ub3 hi] at q;simp at q;exact ⟨ds[i],ub3 hi,q.symm⟩
  ·rw [ua4 (by simpa using hi),ub5] at q
   split at q <;> simp at q
 refine ⟨s,by simp [env0,L2.CQ,hlen],λ_ z=>z,λi d q=>?_,λi es q=>?_,λi j es _ a q _ _ _=>?_⟩
 ·obtain ⟨d',h1,h2⟩:=none_ q
  cases h2
  obtain ⟨v,h3,h4⟩:=r.at h1;refine ⟨v,?_,h4⟩;unfold L2.CQ;have hi:=(ua8.mp h3).1;rw [ua9 (by simpa using hi),ug1,h3];rfl
 ·obtain ⟨_,_,h2⟩:=none_ q;cases h2
 ·obtain ⟨_,_,h2⟩:=none_ q;cases h2
theorem ac {P:Program}{w:World}{mg:Str->Option Value}{base:Heap}{x qual:Str}{st:Stmt}{fa:Addr}{fd:FuncData}{N ps:List Str}{k:Nat}{g:M Out}(F:Fun K x qual st fa fd)(S:FnScope N ps (Al st))
 (hb:∀(cdv:Value) (A:Around) (outer:List Env) (s:Shared) (H:Hp) (E:XK),Room k (A.deeper (PyProof.Rows.envOfC qual (Al st) s.heap.objs.size fa cdv))->
   PSs (DB CX0 P w K mg base N qual (Al st) fa cdv A outer s H E).nox (Be st) (RS K g)):FnOk P w K mg base CX0 (k + 1) fa fd ps (spF K (fnOf ps.length N.length g)):=by
 have hlen:∀{ds:List D} {S:List Ob} {z:D×List Ob},fnOf ps.length N.length g ds S=some z->ds.length=ps.length:=λ{ds S z} h=>by
  unfold fnOf at h
  split at h
  ·next h1=>exact h1
  ·cases h
 refine F.ok S (λvs H Q E h=>?_) (λcdv A outer s H vs Q E hr h=>?_)
 ·obtain ⟨c,ds,S,si,rs,r,S',e,_⟩:=h;rw [rs.length];exact hlen e
 obtain ⟨c,ds,S0,si,rs,r,S',e,kk⟩:=h;refine ⟨RS K g,hb cdv A outer s H E hr,?_⟩;have hl:=hlen e;unfold fnOf at e;rw [if_pos hl] at e
 cases eg:g ⟨env0 N.length ds,S0⟩ with
 | none=>rw [eg] at e;cases e
 | some p=>
   obtain ⟨o,t⟩:=p;rw [eg] at e;refine ⟨c.O,c,_,G9 si rs,o,t,eg,λσ' H' c' f' s'=>?_⟩;obtain ⟨si',ext'⟩:=f'.leave;have st':Stp c.O c H ⟨c'.ι,c.O⟩ H':=⟨s'.ext.trans ext',s'.oo⟩
   cases o with
   | next=>cases e;exact kk .non H' _ si' st' (λ_=>Iff.rfl) .non
   | ret d=>cases e;exact λv rv=>kk v H' _ si' st' (λ_=>Iff.rfl) (rv.mono ext')
   | brk=>cases e
   | cont=>cases e
variable {fr:List Nat}
section
variable {X:Cx}{e a b:Expr}{pos:Pos}
def items:D->M (List D)
 | .lst ds=>ret ds
 | .tup ds=>ret ds
 | .scr ns=>ret (ns.map .int)
 | _=>fail
noncomputable def Bd (lo:Int)(n:Nat):List D:=(List.range n).map λi=>.int (lo + (i:Nat))
theorem ItOk.rng {lo:Int}:ItOk K (Itr lo n) c H (Bd lo n):=by
 refine ⟨λc' H' i ex hi=>?_,λc' H' i x H'' d ex hd hy=>?_,λc' H' ex=>?_⟩
 ·have:i < n:=by simpa [Bd] using hi
  exact this
 ·obtain ⟨rfl,rfl⟩:=hy;refine ⟨rfl,?_⟩;have hi:i < n:=by
   have:=(ua8.mp hd).1;simpa [Bd] using this
  have:d = .int (lo + (i:Nat)):=by
   rw [Bd,ug1,List.getElem?_range hi] at hd;simpa using hd.symm
  rw [this];exact .int _
 ·show n<=(Bd lo n).length;simp [Bd]
noncomputable def CF (i:Int):Bool:=decide (-(2 ^ 62)<=i) && decide (i < 2 ^ 62)
def Lk:List D->M (List D)
 | [.int j]=>λt=>if CF j=true then some (Bd 0 j.toNat,t) else none
 | _=>fail
def Ll:List D->M (List D)
 | [.int i,.int j]=>λt=>if (CF i && CF j)=true then some (Bd i (j - i).toNat,t) else none
 | _=>fail
def CP (f:M (List D)):M (List D):=bnd f Lk
def G6 (f:M (List D)):M (List D):=bnd f Ll
theorem Es {i:Int}(h:CF i=true) : -(2 ^ 62)<=i/\i < 2 ^ 62:=by
 unfold CF at h;rw [uh5] at h;exact ⟨ug9 h.1,ug9 h.2⟩
theorem QH {f:M (List D)}(hg:Gl X "range")(hm:X.mg "range" = none)(ha:PA X [a] (RA X.K f))(hs:starEach [a] X.env=[(false,eval a X.env)]:=by rfl):PI X tg (.Call (.Name "range" p) [a] [] pos) (RI X.K (CP f)):=
 HD (RB hg hm ha hs) λσ H R z9=>by
  obtain ⟨Oo,c,t,fi,ds,t',eq,k⟩:=z9;obtain ⟨xs,t1,e1,eq⟩:=Ae eq;refine ⟨Oo,c,t,fi,xs,t1,e1,λvs H1 c1 f1 s1 rv=>?_⟩;unfold Lk at eq
  split at eq
  ·next j=>
   split at eq
   ·next hs=>
    cases eq
    cases rv with
    | cons r rs=>
      cases rs
      cases r
      obtain ⟨h1,h2⟩:=Es hs;exact ⟨j,rfl,h1,h2,k _ H1 c1 f1 s1 ItOk.rng⟩
   ·cases eq
  ·cases eq
theorem QI {f:M (List D)}(hg:Gl X "range")(hm:X.mg "range" = none)(ha:PA X [a,b] (RA X.K f))(hs:starEach [a,b] X.env=[(false,eval a X.env),(false,eval b X.env)]:=by rfl)(hs2:starEach [b] X.env=[(false,eval b X.env)]:=by rfl):PI X tg (.Call (.Name "range" p) [a,b] [] pos) (RI X.K (G6 f)):=
 HD (RC hg hm ha hs hs2) λσ H R z9=>by
  obtain ⟨Oo,c,t,fi,ds,t',eq,k⟩:=z9;obtain ⟨xs,t1,e1,eq⟩:=Ae eq;refine ⟨Oo,c,t,fi,xs,t1,e1,λvs H1 c1 f1 s1 rv=>?_⟩;unfold Ll at eq
  split at eq
  ·next i j=>
   split at eq
   ·next hs=>
    cases eq
    rw [uh5] at hs
    cases rv with
    | cons r rs=>
      cases r
      cases rs with
      | cons r rs=>
        cases rs
        cases r
        obtain ⟨h1,h2⟩:=Es hs.1;obtain ⟨h3,h4⟩:=Es hs.2;exact ⟨i,j,rfl,⟨h1,h2,h3,h4⟩,k _ H1 c1 f1 s1 ItOk.rng⟩
   ·cases eq
  ·cases eq
def B5 (st:D->M Unit)(tst:M Bool)(elt:M D):List D->M (List D)
 | []=>ret []
 | d :: r=>bnd (st d) λ_=>bnd tst λk=>if k=true then bnd elt λx=>bnd (B5 st tst elt r) λxs=>ret (x :: xs) else B5 st tst elt r
noncomputable def aR:Option (Option Sl)->Option Sl
 | some (some (.val d))=>some (.val d)
 | _=>none
def cenv (n:Nat)(fr:List Nat)(env:List (Option Sl)):List (Option Sl):=List.replicate n none++fr.map λi=>aR env[i]?
noncomputable def Ff (n:Nat)(fr:List Nat)(σ:L2.St):L2.St:=List.replicate n none++fr.map λi=>(σ[i]?).join
def B6 (n:Nat)(fr:List Nat)(f:M (List D))(st:D->M Unit)(tst:M Bool)(elt:M D):M (List D):=bnd f λds t=>match B5 st tst elt ds ⟨cenv n fr t.env,t.S⟩ with
 | some (xs,t')=>if xs.length<=LIM then some (xs,{ t with S:=t'.S }) else none
 | none=>none
theorem Jn {env:List (Option Sl)}{x:Sl}(h:(cenv n fr env)[j]?=some (some x)):∃i d,n<=j/\fr[j - n]?=some i/\env[i]?=some (some (.val d))/\x = .val d:=by
 unfold cenv at h
 by_cases hj:j < n
 ·rw [ua9 (by simpa using hj),ub5] at h
  split at h <;> simp at h
 ·rw [ua4 (by simpa using hj),ud3,ug1] at h
  cases e:fr[j - n]? with
  | none=>rw [e] at h;simp at h
  | some i=>
    rw [e] at h;simp only [uj5,ug7] at h
    cases e2:env[i]? with
    | none=>rw [e2] at h;cases h
    | some o=>
      cases o with
      | none=>rw [e2] at h;cases h
      | some sl=>
        cases sl with
        | own _=>rw [e2] at h;cases h
        | val d=>rw [e2] at h;cases h;exact ⟨i,d,by lia,rfl,e2,rfl⟩
theorem G8 {Oo:Addr->Prop}(f:FInv K Oo c t σ H):FInv K c.O c ⟨cenv n fr t.env,t.S⟩ (Ff n fr σ) H:=by
 refine ⟨f.s,by simp [cenv,Ff],λ_ z=>z,λj d q=>?_,λj es q=>?_,λj _ es _ _ q _ _ _=>?_⟩
 ·obtain ⟨i,d',h0,h1,h2,h3⟩:=Jn q
  cases h3
  obtain ⟨v,h4,h5⟩:=f.val i d h2;refine ⟨v,?_,h5⟩;unfold Ff;rw [ua4 (by simpa using h0),ud3,ug1,h1];simp [h4]
 ·obtain ⟨_,_,_,_,_,h⟩:=Jn q;cases h
 ·obtain ⟨_,_,_,_,_,h⟩:=Jn q;cases h
theorem RF.comp {f:M (List D)}{st:D->M Unit}{tst:M Bool}{elt:M D}{Q:VK}(q:RF K (B6 n fr f st tst elt) σ H Q):Mh (RI K f) (RG K st) (RT K tst) (RE K elt) (Ff n fr) σ H Q:=by
 obtain ⟨Oo,c,t,fi,xs,t',eq,k⟩:=q;obtain ⟨ds,t1,e1,eq⟩:=Ae eq;refine ⟨Oo,c,t,fi,ds,t1,e1,λJ H1 c1 f1 s1 it=>?_⟩
 cases e3:B5 st tst elt ds ⟨cenv n fr t1.env,t1.S⟩ with
 | none=>rw [e3] at eq;cases eq
 | some p=>
   obtain ⟨ys,t3⟩:=p;rw [e3] at eq;dsimp only at eq
   split at eq
   case isFalse=>cases eq
   next hl=>
   cases eq
   refine ⟨λi m acc σ' H'=>m=ds.length - i/\i<=ds.length/\∃c' t2 zs rest,FInv K c1.O c' t2 σ' H'/\Stp c1.O c1 H1 c' H'/\Reps K c' H' acc zs/\B5 st tst elt (ds.drop i) t2=some (rest,t3)/\xs=zs++rest,
    ⟨_,rfl,um9 _,c1,_,[],xs,G8 f1,.refl,.nil,by rw [uk5];exact e3,rfl⟩,?_⟩
   rintro i m acc σ' H' ⟨rfl,hi,c',t2,zs,rest,f2,s2,ra,e2,ez⟩;have hacc:acc.length<=sizeLine:=by
    have:zs.length<=xs.length:=by rw [ez,uf4];exact uh8 _ _
    rw [ra.length];exact um0 this (um0 hl BU)
   refine ⟨hacc,?_⟩
   by_cases hlt:i < ds.length
   ·refine .inr ⟨it.go c' H' i s2.ext hlt,λx H'' hy=>?_⟩;obtain ⟨rfl,rx⟩:=it.yld c' H' i x H'' _ s2.ext (ub3 hlt) hy;rw [ub0 hlt] at e2;unfold B5 at e2;obtain ⟨u,t4,e4,e2⟩:=Ae e2;obtain ⟨kb,t5,e5,e2⟩:=Ae e2;refine ⟨c1.O,c',t2,_,f2,rx,t4,e4,λσ3 H3 c3 f3 s3=>⟨c1.O,c3,t4,f3,kb,t5,e5,λH4 c4 f4 s4=>?_⟩⟩
    cases kb with
    | false=>
      rw [if_neg uf1] at e2 ⊢;exact ⟨ds.length - (i + 1),by lia,rfl,hlt,c4,t5,zs,rest,f4,(s2.trans s3).trans s4,ra.mono (s3.trans s4).ext,e2,ez⟩
    | true=>
      rw [if_pos rfl] at e2 ⊢;obtain ⟨x6,t6,e6,e2⟩:=Ae e2;obtain ⟨r7,t7,e7,e2⟩:=Ae e2
      cases e2
      refine ⟨c1.O,c4,t5,f4,x6,t6,e6,λv H5 c5 f5 s5 rv=>?_⟩;exact ⟨ds.length - (i + 1),by lia,rfl,hlt,c5,t6,zs++[x6],r7,f5,((s2.trans s3).trans s4).trans s5,(ra.mono ((s3.trans s4).trans s5).ext).append (.cons rv .nil),e7,by rw [ez,ug4];rfl⟩
   ·have hi':i=ds.length:=by lia
    subst hi';rw [uh7] at e2
    cases e2
    refine .inl ⟨it.stop c' H' s2.ext,λp hp _=>?_⟩;obtain ⟨si,ext⟩:=f2.leave;obtain ⟨f6,s6⟩:=f1.after si ⟨s2.ext.trans ext,s2.oo⟩ (λ_=>Iff.rfl);rw [ui8] at ez;subst ez;exact k p acc H' _ f6 (s1.trans s6) (ra.mono ext) hp
end
end F2
namespace F2
open PySem L2 PySem.Spec PySem.SeqAt
noncomputable def eq0:D->D->Option Bool
 | .int a,.int b=>some (a == b)
 | .str a,.str b=>some (a == b)
 | .bl a,.bl b=>some (a == b)
 | .non,.non=>some true
 | .int _,.str _=>some false
 | .str _,.int _=>some false
 | _,_=>none
noncomputable def DC (f:D->D->Option Bool):List D->List D->Option Bool
 | x :: xs,y :: ys=>match f x y,DC f xs ys with
   | some a,some b=>some (a && b)
   | _,_=>none
 | _,_=>some true
def eqN:Nat->D->D->Option Bool
 | 0,x,y=>eq0 x y
 | n + 1,.tup xs,.tup ys=>(DC (eqN n) xs ys).map λb=>b && xs.length == ys.length
 | n + 1,.lst xs,.lst ys=>if xs.length=ys.length then DC (eqN n) xs ys else some false
 | _ + 1,x,y=>eq0 x y
noncomputable def ej (f:D->D->Option Bool)(xs ys:List D)(j:Nat):Bool:=match xs[j]?,ys[j]? with
 | some d,some e=>(f d e).getD true
 | _,_=>true
theorem DE {f:D->D->Option Bool}:∀{xs ys:List D} {b:Bool},DC f xs ys=some b->b=(List.range (min xs.length ys.length)).all (ej f xs ys)/\∀(j:Nat) d e,xs[j]?=some d->ys[j]?=some e->∃k,f d e=some k
 | [],ys,b,h=>by
   have h:some true=some b:=by simpa [DC] using h
   cases h
   refine ⟨by simp,λj d e q _=>by simp at q⟩
 | x :: xs,[],b,h=>by
   have h:some true=some b:=by simpa [DC] using h
   cases h
   refine ⟨by simp,λj d e _ q=>by simp at q⟩
 | x :: xs,y :: ys,b,h=>by
   unfold DC at h
   cases e1:f x y with
   | none=>rw [e1] at h;cases h
   | some a=>
     cases e2:DC f xs ys with
     | none=>rw [e1,e2] at h;cases h
     | some c=>
       rw [e1,e2] at h
       cases h
       obtain ⟨h1,h2⟩:=DE e2;refine ⟨?_,λj d e q1 q2=>?_⟩
       ·have hm:min (x :: xs).length (y :: ys).length=min xs.length ys.length + 1:=by simp [Nat.succ_min_succ]
        rw [hm,List.range_succ_eq_map,ul2,List.all_map,h1];have:ej f (x :: xs) (y :: ys) 0=a:=by simp [ej,e1]
        rw [this];rfl
       ·cases j with
        | zero=>simp at q1 q2;subst q1 q2;exact ⟨a,e1⟩
        | succ j=>exact h2 j d e (by simpa using q1) (by simpa using q2)
variable {P:Program}{w:World}{H:Hp}{vs:List V}
theorem Hc {h:Heap}{a:Addr}(o:HOk P w H h)(e:H a=some (.lst vs)):∃its:List Value,Vals vs its/\h.IsList a its.toArray:=by
 obtain ⟨_,its,n,r,q⟩:=o a _ e;exact ⟨its,r,_,q,rfl,n,rfl⟩
theorem IK {h:Heap}{a:Addr}(o:HOk P w H h)(e:H a=some (.tup vs)):∃its:List Value,Vals vs its/\h.IsTuple a its.toArray:=by
 obtain ⟨_,its,r,q⟩:=o a _ e;exact ⟨its,r,q⟩
theorem Kz {its:List Value}{j:Nat}(r:Vals vs its)(h:j < its.toArray.size):∃v,vs[j]?=some v/\RelV v its.toArray[j]:=by
 have h':j < its.length:=by simpa using h
 have hl:j < vs.length:=by rw [r.length];exact h'
 obtain ⟨u,e1,e2⟩:=r.get (ub3 hl);refine ⟨vs[j],ub3 hl,?_⟩;rw [ub3 h'] at e1
 cases e1
 simpa using e2
variable {b:Bool}
theorem Qy {f:D->D->Option Bool}{xs ys:List D}(h:DC f xs ys=some b)(ht:∀(j:Nat) d e k,xs[j]?=some d->ys[j]?=some e->f d e=some k->k=true):b=true:=by
 obtain ⟨h1,h2⟩:=DE h;rw [h1,uh9];intro j hj;have hj':=uk2.mp hj;have l1:j < xs.length:=by lia
 have l2:j < ys.length:=by lia
 obtain ⟨k,ek⟩:=h2 j _ _ (ub3 l1) (ub3 l2);have:=ht j _ _ k (ub3 l1) (ub3 l2) ek;unfold ej;rw [ub3 l1,ub3 l2];simp [ek,this]
theorem HM {x y:D}(e:eq0 x y=some b):(∃i j,x = .int i/\y = .int j/\(i == j)=b)\/(∃i j,x = .str i/\y = .str j/\(i == j)=b)\/(∃i j,x = .bl i/\y = .bl j/\(i == j)=b)\/(x = .non/\y = .non/\true=b)\/(∃i j,x = .int i/\y = .str j/\false=b)\/(∃i j,x = .str i/\y = .int j/\false=b):=by
 unfold eq0 at e
 split at e
 ·cases e;exact .inl ⟨_,_,rfl,rfl,rfl⟩
 ·cases e;exact .inr (.inl ⟨_,_,rfl,rfl,rfl⟩)
 ·cases e;exact .inr (.inr (.inl ⟨_,_,rfl,rfl,rfl⟩))
 ·cases e;exact .inr (.inr (.inr (.inl ⟨rfl,rfl,rfl⟩)))
 ·cases e;exact .inr (.inr (.inr (.inr (.inl ⟨_,_,rfl,rfl,rfl⟩))))
 ·cases e;exact .inr (.inr (.inr (.inr (.inr ⟨_,_,rfl,rfl,rfl⟩))))
 ·cases e
theorem HQ {n:Nat}{x y:D}(e:eqN n x y=some b):eq0 x y=some b\/(∃m xs ys,n=m + 1/\x = .lst xs/\y = .lst ys/\(if xs.length=ys.length then DC (eqN m) xs ys else some false)=some b)\/∃m xs ys b',n=m + 1/\x = .tup xs/\y = .tup ys/\DC (eqN m) xs ys=some b'/\(b' && xs.length == ys.length)=b:=by
 unfold eqN at e
 split at e
 ·exact .inl e
 ·obtain ⟨b',e1,e2⟩:=uc6.mp e;exact .inr (.inr ⟨_,_,_,b',rfl,rfl,rfl,e1,e2⟩)
 ·exact .inr (.inl ⟨_,_,_,rfl,rfl,rfl,e⟩)
 ·exact .inl e
variable {K:PySem.W.Frag}{c:Cf}
theorem N9:∀(n:Nat) {v:V} {d e:D} {b:Bool},Rep K c H v d->Rep K c H v e->eqN n d e=some b->b=true
 :=by
  intro n
  induction n using Nat.strongRecOn with
  | ind n ih=>
  intro v d e b rd re q;have items:∀{m:Nat} {vs:List V} {ds es:List D} {b':Bool},n=m + 1->Reps K c H vs ds->Reps K c H vs es->DC (eqN m) ds es=some b'->b'=true:=λ{m vs ds es b'} hm r1 r2 e'=>
   Qy e' λj d e k q1 q2 ek=>by
    obtain ⟨v,g1,g2⟩:=r1.at q1;exact ih m (by lia) g2 (r2.get g1 q2) ek
  rcases HQ q with q0 | ⟨m,ds,es,hm,rfl,rfl,q0⟩ | ⟨m,ds,es,b',hm,rfl,rfl,q1,q2⟩
  ·rcases HM q0 with ⟨i,j,rfl,rfl,rfl⟩ | ⟨i,j,rfl,rfl,rfl⟩ | ⟨i,j,rfl,rfl,rfl⟩ | ⟨rfl,rfl,rfl⟩ | ⟨i,j,rfl,rfl,rfl⟩ | ⟨i,j,rfl,rfl,rfl⟩
   ·cases rd;cases re;simp
   ·cases rd;cases re;simp
   ·cases rd;cases re;simp
   ·cases rd;cases re;rfl
   ·cases rd;cases re
   ·cases rd;cases re
  ·cases rd with
   | lst h1 h2 h3=>
     cases re with
     | lst g1 g2 g3=>
       rw [h1] at g1;cases g1
       rw [if_pos (h3.length.symm.trans g3.length)] at q0;exact items hm h3 g3 q0
  ·cases rd with
   | tup h1 h2 h3=>
     cases re with
     | tup g1 g2 g3=>
       rw [h1] at g1;cases g1
       rw [<-q2,items hm h3 g3 q1,h3.length.symm.trans g3.length];simp
theorem N8 {s:Shared}(hok:HOk P w H s.heap):∀(n:Nat) {A:Around} {x y:V} {u v:Value} {dx dy:D} {b:Bool},RelV x u->RelV y v->Rep K c H x dx->Rep K c H y dy->eqN n dx dy=some b->A.units + n < cLine->
 RcAt A s u v b/\(EqAt A s u v b)
 :=by
  intro n
  induction n using Nat.strongRecOn with
  | ind n ih=>
  intro A x y u v dx dy b ru rv rx ry e hu;have items:∀{m:Nat} {vs ws:List V} {is js:List Value} {ds es:List D} {b':Bool},n=m + 1->Vals vs is->Vals ws js->Reps K c H vs ds->Reps K c H ws es->DC (eqN m) ds es=some b'->
   ∀j (h1:j < is.toArray.size) (h2:j < js.toArray.size),EqAt A.in1 s is.toArray[j] js.toArray[j] (ej (eqN m) ds es j):=λ{m vs ws is js ds es b'} hm r1 r2 q1 q2 e' j h1 h2=>by
   obtain ⟨v1,a1,a2⟩:=Kz r1 h1;obtain ⟨v2,b1,b2⟩:=Kz r2 h2;obtain ⟨l1,g1⟩:=ua8.mp a1;obtain ⟨l2,g2⟩:=ua8.mp b1;have k1:ds[j]?=some (ds[j]'(by rw [<-q1.length];exact l1)):=ub3 _;have k2:es[j]?=some (es[j]'(by rw [<-q2.length];exact l2)):=ub3 _;obtain ⟨kk,ek⟩:=(DE e').2 j _ _ k1 k2;have:ej (eqN m) ds es j=kk:=by unfold ej;rw [k1,k2];simp [ek]
   rw [this];have hu':A.in1.units + m < cLine:=by
    have:A.in1.units=A.units + 1:=by first | rfl | exact Around.units_in1 _ | simp [Around.in1,Around.units]
    lia
   exact (ih m (by lia) a2 b2 (q1.get a1 k1) (q2.get b1 k2) ek hu').2
  have hu0:A.units < cLine:=by lia
  have conc:∀{p q:Addr} {k:Bool},p≠q->RcAt A s (.ref p) (.ref q) k->RcAt A s (.ref p) (.ref q) k/\EqAt A s (.ref p) (.ref q) k:=λhn h=>⟨h,EqAt.of_refs hn h⟩;rcases HQ e with e0 | ⟨m,ds,es,hm,rfl,rfl,e0⟩ | ⟨m,ds,es,b',hm,rfl,rfl,e1,e2⟩
  ·rcases HM e0 with ⟨i,j,rfl,rfl,rfl⟩ | ⟨i,j,rfl,rfl,rfl⟩ | ⟨i,j,rfl,rfl,rfl⟩ | ⟨rfl,rfl,rfl⟩ | ⟨i,j,rfl,rfl,rfl⟩ | ⟨i,j,rfl,rfl,rfl⟩
   ·cases rx;cases ry;obtain ⟨t',rfl⟩:=ru;obtain ⟨t,rfl⟩:=rv;exact ⟨RcAt.int_int _ _ _ _,EqAt.int_int _ _ _ _⟩
   ·cases rx;cases ry;obtain ⟨t',rfl⟩:=ru;obtain ⟨t,rfl⟩:=rv;exact ⟨RcAt.str_str _ _ _ _,EqAt.str_str _ _ _ _⟩
   ·cases rx;cases ry;cases ru;cases rv;exact ⟨RcAt.bool_bool _ _,EqAt.bool_bool _ _⟩
   ·cases rx;cases ry;cases ru;cases rv;exact ⟨RcAt.none_none,EqAt.same _⟩
   ·cases rx;cases ry;obtain ⟨t',rfl⟩:=ru;obtain ⟨t,rfl⟩:=rv;exact ⟨RcAt.int_str _ _ _ _,EqAt.int_str _ _ _ _⟩
   ·cases rx;cases ry;obtain ⟨t',rfl⟩:=ru;obtain ⟨t,rfl⟩:=rv;exact ⟨RcAt.str_int _ _ _ _,EqAt.str_int _ _ _ _⟩
  ·cases rx with
   | @lst p vs _ g1 g2 g3=>
   cases ry with
   | @lst q ws _ h1 h2 h3=>
     cases ru
     cases rv
     obtain ⟨is,r1,l1⟩:=Hc hok g1;obtain ⟨js,r2,l2⟩:=Hc hok h1;have hs1:is.toArray.size=ds.length:=by rw [<-g3.length,r1.length];simp
     have hs2:js.toArray.size=es.length:=by rw [<-h3.length,r2.length];simp
     by_cases hl:ds.length=es.length
     ·rw [if_pos hl] at e0;have hsz:is.toArray.size=js.toArray.size:=by rw [hs1,hs2,hl]
      have rc:=RcAt.lists l1 l2 hsz hu0 (items hm r1 r2 g3 h3 e0);have eb:(List.range is.toArray.size).all (ej (eqN m) ds es)=b:=by rw [(DE e0).1,hs1,<-hl,Nat.min_self]
      rw [eb] at rc
      by_cases hpq:p=q
      ·refine ⟨rc,?_⟩;subst hpq;rw [N9 n (Rep.lst g1 g2 g3) (Rep.lst h1 h2 h3) e];exact EqAt.same _
      ·exact conc hpq rc
     ·rw [if_neg hl] at e0
      cases e0
      have hsz:(is.toArray.size != js.toArray.size)=true:=by rw [hs1,hs2];simpa using hl
      refine conc (λz=>hl ?_) (RcAt.lists_lengths l1 l2 hsz hu0);subst z;rw [g1] at h1;cases h1
      rw [<-g3.length,<-h3.length]
  ·cases rx with
   | @tup p vs _ g1 g2 g3=>
   cases ry with
   | @tup q ws _ h1 h2 h3=>
     cases ru
     cases rv
     obtain ⟨is,r1,l1⟩:=IK hok g1;obtain ⟨js,r2,l2⟩:=IK hok h1;have hs1:is.toArray.size=ds.length:=by rw [<-g3.length,r1.length];simp
     have hs2:js.toArray.size=es.length:=by rw [<-h3.length,r2.length];simp
     have rc:=RcAt.tuples l1 l2 hu0 (items hm r1 r2 g3 h3 e1);have eb:((List.range (min is.toArray.size js.toArray.size)).all (ej (eqN m) ds es) && is.toArray.size == js.toArray.size)=b:=by rw [hs1,hs2,<-(DE e1).1];exact e2
     rw [eb] at rc
     by_cases hpq:p=q
     ·refine ⟨rc,?_⟩;subst hpq;rw [N9 n (Rep.tup g1 g2 g3) (Rep.tup h1 h2 h3) e];exact EqAt.same _
     ·exact conc hpq rc
theorem V7 {s:Shared}(hok:HOk P w H s.heap)(n:Nat){A:Around}{x y:V}{u v:Value}{dx dy:D}{b:Bool}(ru:RelV x u)(rv:RelV y v)(rx:Rep K c H x dx)(ry:Rep K c H y dy)(e:eqN n dx dy=some b)(hu:A.units + n < cLine) :
 RcNeAt A s u v (!b):=by
 have items:∀{m:Nat} {vs ws:List V} {is js:List Value} {ds es:List D} {b':Bool},n=m + 1->Vals vs is->Vals ws js->Reps K c H vs ds->Reps K c H ws es->DC (eqN m) ds es=some b'->
  ∀j (h1:j < is.toArray.size) (h2:j < js.toArray.size),EqAt A.in1 s is.toArray[j] js.toArray[j] (ej (eqN m) ds es j):=λ{m vs ws is js ds es b'} hm r1 r2 q1 q2 e' j h1 h2=>by
  obtain ⟨v1,a1,a2⟩:=Kz r1 h1;obtain ⟨v2,b1,b2⟩:=Kz r2 h2;obtain ⟨l1,g1⟩:=ua8.mp a1;obtain ⟨l2,g2⟩:=ua8.mp b1;have k1:ds[j]?=some (ds[j]'(by rw [<-q1.length];exact l1)):=ub3 _;have k2:es[j]?=some (es[j]'(by rw [<-q2.length];exact l2)):=ub3 _;obtain ⟨kk,ek⟩:=(DE e').2 j _ _ k1 k2;have:ej (eqN m) ds es j=kk:=by unfold ej;rw [k1,k2];simp [ek]
  rw [this];have hu':A.in1.units + m < cLine:=by
   have:A.in1.units=A.units + 1:=rfl;lia
  exact (N8 hok m a2 b2 (q1.get a1 k1) (q2.get b1 k2) ek hu').2
 have hu0:A.units < cLine:=by lia
 rcases HQ e with e0 | ⟨m,ds,es,hm,rfl,rfl,e0⟩ | ⟨m,ds,es,b',hm,rfl,rfl,e1,e2⟩
 ·rcases HM e0 with ⟨i,j,rfl,rfl,rfl⟩ | ⟨i,j,rfl,rfl,rfl⟩ | ⟨i,j,rfl,rfl,rfl⟩ | ⟨rfl,rfl,rfl⟩ | ⟨i,j,rfl,rfl,rfl⟩ | ⟨i,j,rfl,rfl,rfl⟩
  ·cases rx;cases ry;obtain ⟨t',rfl⟩:=ru;obtain ⟨t,rfl⟩:=rv;exact RcNeAt.int_int _ _ _ _
  ·cases rx;cases ry;obtain ⟨t',rfl⟩:=ru;obtain ⟨t,rfl⟩:=rv;exact RcNeAt.str_str _ _ _ _
  ·cases rx;cases ry;cases ru;cases rv;exact RcNeAt.bool_bool _ _
  ·cases rx;cases ry;cases ru;cases rv;exact RcNeAt.none_none
  ·cases rx;cases ry;obtain ⟨t',rfl⟩:=ru;obtain ⟨t,rfl⟩:=rv;exact RcNeAt.int_str _ _ _ _
  ·cases rx;cases ry;obtain ⟨t',rfl⟩:=ru;obtain ⟨t,rfl⟩:=rv;exact RcNeAt.str_int _ _ _ _
 ·cases rx with
  | @lst p vs _ g1 g2 g3=>
  cases ry with
  | @lst q ws _ h1 h2 h3=>
    cases ru
    cases rv
    obtain ⟨is,r1,l1⟩:=Hc hok g1;obtain ⟨js,r2,l2⟩:=Hc hok h1;have hs1:is.toArray.size=ds.length:=by rw [<-g3.length,r1.length];simp
    have hs2:js.toArray.size=es.length:=by rw [<-h3.length,r2.length];simp
    by_cases hl:ds.length=es.length
    ·rw [if_pos hl] at e0;have hsz:is.toArray.size=js.toArray.size:=by rw [hs1,hs2,hl]
     have rc:=RcNeAt.lists l1 l2 hsz hu0 (items hm r1 r2 g3 h3 e0);rw [show (List.range is.toArray.size).all (ej (eqN m) ds es)=b by rw [(DE e0).1,hs1,<-hl,Nat.min_self]] at rc;exact rc
    ·rw [if_neg hl] at e0
     cases e0
     exact RcNeAt.lists_lengths l1 l2 (by rw [hs1,hs2];simpa using hl) hu0
 ·cases rx with
  | @tup p vs _ g1 g2 g3=>
  cases ry with
  | @tup q ws _ h1 h2 h3=>
    cases ru
    cases rv
    obtain ⟨is,r1,l1⟩:=IK hok g1;obtain ⟨js,r2,l2⟩:=IK hok h1;have hs1:is.toArray.size=ds.length:=by rw [<-g3.length,r1.length];simp
    have hs2:js.toArray.size=es.length:=by rw [<-h3.length,r2.length];simp
    have rc:=RcNeAt.tuples l1 l2 hu0 (items hm r1 r2 g3 h3 e1);have eb:((List.range (min is.toArray.size js.toArray.size)).all (ej (eqN m) ds es) && is.toArray.size == js.toArray.size)=b:=by rw [hs1,hs2,<-(DE e1).1];exact e2
    rw [eb] at rc;exact rc
def EQD:Nat:=40
def neD (x y:D):M D:=λt=>(eqN EQD x y).map λb=>(.bl (!b),t)
def PV (K:PySem.W.Frag)(g:Bool->Bool):R2:=λx y H Q=>∃c dx dy b,Rep K c H x dx/\Rep K c H y dy/\eqN EQD dx dy=some b/\Q (.bl (g b)) H
theorem Rt {X:Cx}(hu:X.A.units + 64 < cLine):OpR X (compareOp .Eq) (PV X.K id):=by
 intro pins s σ H x y v u Q I rx ry h;obtain ⟨c,dx,dy,b,q1,q2,e,q⟩:=h;have hu':X.A.units + EQD < cLine:=by unfold EQD;lia
 exact (N8 I.hok EQD rx ry q1 q2 e hu').1 X.prog X.w _ _ ⟨.bl b,H,I,rfl,q⟩
theorem Nk {X:Cx}(hu:X.A.units + 64 < cLine):OpR X (compareOp .NotEq) (PV X.K (!·)):=by
 intro pins s σ H x y v u Q I rx ry h;obtain ⟨c,dx,dy,b,q1,q2,e,q⟩:=h;have hu':X.A.units + EQD < cLine:=by unfold EQD;lia
 exact V7 I.hok EQD rx ry q1 q2 e hu' X.prog X.w _ _ ⟨.bl (!b),H,I,rfl,q⟩
end F2
set_option maxHeartbeats 4000000
namespace F2
open PySem L2 PySem.Spec
variable {g:Int->Int->D}{t:T}{z:D×T}{X:Cx}{c:Cf}{H:Hp}
section
variable {K:PySem.W.Frag}
def i2 (g:Int->Int->D):D->D->M D
 | .int i,.int j=>ret (g i j)
 | _,_=>fail
theorem Yg {x y:D}(h:i2 g x y t=some z):∃i j,x = .int i/\y = .int j/\z=(g i j,t):=by
 cases x with
 | int i=>cases y with
   | int j=>cases h;exact ⟨i,j,rfl,rfl,rfl⟩
   | _=>cases h
 | _=>cases h
theorem Zm {gV:Int->Int->V}(hr:∀i j c H,Rep K c H (gV i j) (g i j)):Bm K (rI0 gV) (i2 g):=λ{Oo c t σ H x y dx dy r t' Q} f rx ry eq k=>by
 obtain ⟨i,j,rfl,rfl,z⟩:=Yg eq
 cases z
 cases rx
 cases ry
 exact ⟨i,j,rfl,rfl,k _ H c f .refl (hr i j c H)⟩
def i2C (C:Int->Int->Bool)(g:Int->Int->D):D->D->M D
 | .int i,.int j=>λt=>if C i j=true then some (g i j,t) else none
 | _,_=>fail
theorem VQ {C:Int->Int->Bool}{x y:D}(h:i2C C g x y t=some z):∃i j,x = .int i/\y = .int j/\C i j=true/\z=(g i j,t):=by
 cases x with
 | int i=>cases y with
   | int j=>
     unfold i2C at h;dsimp only at h
     by_cases hc:C i j=true
     ·rw [if_pos hc] at h;cases h;exact ⟨i,j,rfl,rfl,hc,rfl⟩
     ·rw [if_neg hc] at h;cases h
   | _=>cases h
 | _=>cases h
theorem IW {P:Int->Int->Prop}{C:Int->Int->Bool}{gV:Int->Int->V}(hP:∀i j,C i j=true->P i j)(hr:∀i j c H,Rep K c H (gV i j) (g i j)):Bm K (rI P gV) (i2C C g):=λ{Oo c t σ H x y dx dy r t' Q} f rx ry eq k=>by
 obtain ⟨i,j,rfl,rfl,hc,z⟩:=VQ eq
 cases z
 cases rx
 cases ry
 exact ⟨i,j,rfl,rfl,hP i j hc,k _ H c f .refl (hr i j c H)⟩
def Dv:=i2 λi j=>.int (i - j)
noncomputable def Ma (_ j:Int):Bool:=decide (0 < j) && decide (j < 1073741824)
def Bc:=i2C Ma λi j=>.int (i / j)
def Bl:=i2C (λ_ j=>decide (0 < j)) λi j=>.int (i % j)
noncomputable def Mg (i j:Int):Bool:=decide (0<=j) && decide (j<=1000000) && decide (i.natAbs < 2 ^ 64)
def No:=i2C Mg λi j=>.int (i ^ j.toNat)
noncomputable def Fy (i j:Int):Bool:=(decide (-(2 ^ 64) < i) && decide (i < 2 ^ 64)) || (decide (-(2 ^ 64) < j) && decide (j < 2 ^ 64))
def NC:=i2C (λ_ j=>decide (0<=j)) λi j=>.int (i / 2 ^ j.toNat)
theorem W5:Bm K (rI0 λi j=>.int (i - j)) Dv:=Zm λi j _ _=>.int _
theorem Up:Bm K (rI Xr λi j=>.int (i / j)) Bc:=IW (λi j h=>by
 unfold Ma at h;rw [uh5] at h;exact ⟨ug9 h.1,ug9 h.2⟩) λi j _ _=>.int _
theorem WX:Bm K (rI (λ_ j=>0 < j) λi j=>.int (i % j)) Bl:=IW (λi j h=>ug9 h) λi j _ _=>.int _
theorem W3:Bm K (rI Xs λi j=>.int (i ^ j.toNat)) No:=IW (λi j h=>by
 unfold Mg at h;rw [uh5,uh5] at h;exact ⟨ug9 h.1.1,ug9 h.1.2,ug9 h.2⟩) λi j _ _=>.int _
theorem W4:Bm K (rI (λ_ j=>0<=j) λi j=>.int (i / 2 ^ j.toNat)) NC:=IW (λi j h=>ug9 h) λi j _ _=>.int _
theorem Rk {i j:Int}(h:Fy i j=true):CMul i j:=by
 unfold Fy at h;rw [uj6,uh5,uh5] at h;rcases h with h | h
 ·exact .inl ⟨ug9 h.1,ug9 h.2⟩
 ·exact .inr ⟨ug9 h.1,ug9 h.2⟩
def Ng:D->M D
 | .int i=>ret (.int (-i))
 | _=>fail
theorem WZ:Xw K (rU λi=>.int (-i)) Ng:=λ{Oo c t σ H x dx r t' Q} f rx eq k=>by
 cases rx with
 | int i=>cases eq;exact ⟨i,rfl,k _ H c f .refl (.int _)⟩
 | _=>cases eq
def SK:D->D->M D
 | .int i,.int j=>ret (.int (i + j))
 | .str x,.str y=>lim (x.length + y.length) (.str (x++y))
 | .lst xs,.lst ys=>lim (xs.length + ys.length) (.lst (xs++ys))
 | .tup xs,.tup ys=>λt=>if xs.isEmpty=false/\xs.length + ys.length<=LIM then some (.tup (xs++ys),t) else none
 | _,_=>fail
def WG:R2:=λx y H Q=>∃i j,x = .str i/\y = .str j/\i.length + j.length<=sizeLine/\Q (.str (i++j)) H
def PU (K:PySem.W.Frag):R2:=λx y H Q=>rI0 (λi j=>.int (i + j)) x y H Q\/(WG x y H Q\/(Ug x y H Q\/U2 K x y H Q))
theorem op_add4:OpR X (binaryOp .Add) (PU X.K):=op_add.or (op_add_str.or (op_cat.or Wd))
theorem WN:Bm K (PU K) SK:=λ{Oo c t σ H x y dx dy r t' Q} f rx ry eq k=>by
 cases rx with
 | int i=>
   cases ry with
   | int j=>cases eq;exact .inl ⟨i,j,rfl,rfl,k _ H c f .refl (.int _)⟩
   | _=>cases eq
 | str i=>
   cases ry with
   | str j=>
     obtain ⟨h,z⟩:=Ed eq
     cases z
     exact .inr (.inl ⟨i,j,rfl,rfl,um0 h BU,k _ H c f .refl (.str _)⟩)
   | _=>cases eq
 | @lst a vs ds h1 h2 h3=>
   cases ry with
   | @lst b ws es g1 g2 g3=>
     obtain ⟨h,z⟩:=Ed eq
     cases z
     refine .inr (.inr (.inl ⟨a,b,vs,ws,rfl,rfl,h1,g1,?_,λp hp=>?_⟩))
     ·rw [h3.length,g3.length];exact um0 h BU
     ·exact k _ _ c (f.laid hp) (f.stp_laid hp) (.lst Aj (f.s.free hp) ((h3.append g3).mono (Ext.laid f.s hp)))
   | _=>cases eq
 | @tup a vs ds h1 h2 h3=>
   cases ry with
   | @tup b ws es g1 g2 g3=>
     unfold SK at eq;dsimp only at eq
     split at eq
     ·next h=>
      cases eq
      have hne:vs≠[]:=λz=>by
       have:=h3.length;rw [z] at this;have h0:ds.length=0:=this.symm;have:ds=[]:=ub7.mp h0;rw [this] at h;simp at h
      refine .inr (.inr (.inr ⟨a,b,vs,ws,rfl,rfl,SqT.of h1,SqT.of g1,hne,?_,λz=>?_,λz p hp=>?_⟩))
      ·rw [h3.length,g3.length];exact um0 h.2 BU
      ·subst z;have:es=[]:=ub7.mp g3.length.symm;subst this;rw [ui8] at k;exact k _ H c f .refl (.tup h1 h2 h3)
      ·exact k _ _ c (f.laid hp) (f.stp_laid hp) (.tup Aj (f.s.free hp) ((h3.append g3).mono (Ext.laid f.s hp)))
     ·cases eq
   | _=>cases eq
 | _=>cases eq
def Jm:D->D->M (List D)
 | .lst xs,.lst ys=>lim (xs.length + ys.length) (xs++ys)
 | _,_=>fail
theorem Uo:O7 K Ug Jm:=λ{Oo c t σ H x y dx dy r t' Q} f rx ry eq k=>by
 cases rx with
 | @lst a vs ds h1 h2 h3=>
   cases ry with
   | @lst b ws es g1 g2 g3=>
     obtain ⟨h,z⟩:=Ed eq
     cases z
     refine ⟨a,b,vs,ws,rfl,rfl,h1,g1,?_,λp hp=>k p _ H c f .refl (h3.append g3) hp⟩;rw [h3.length,g3.length];exact um0 h BU
   | _=>cases eq
 | _=>cases eq
def isC:D->D->M D
 | x,.non=>λt=>some (.bl (match x with | .non=>true | _=>false),t)
 | x,.bl b=>λt=>some (.bl (match x with | .bl c=>c == b | _=>false),t)
 | _,_=>fail
def Q2 (x y:D):M D:=bnd (isC x y) λd=>match d with | .bl b=>ret (.bl (!b)) | _=>fail
def rIs (g:Bool->Bool):R2:=λx y H Q=>(y = .non\/∃b,y = .bl b)/\Q (.bl (g (decide (x=y)))) H
theorem Vk {x y:V}{v u:Value}(rx:RelV x v)(ry:RelV y u)(hy:y = .non\/∃b,y = .bl b):plainIs v u=true/\(v == u)=decide (x=y):=by
 rcases hy with rfl | ⟨b,rfl⟩
 ·cases ry
  cases x with
  | non=>cases rx;exact ⟨rfl,by simp⟩
  | bl _=>cases rx;exact ⟨rfl,by simp⟩
  | int _=>obtain ⟨t,rfl⟩:=rx;exact ⟨rfl,by simp⟩
  | str _=>obtain ⟨t,rfl⟩:=rx;exact ⟨rfl,by simp⟩
  | byt _=>obtain ⟨t,rfl⟩:=rx;exact ⟨rfl,by simp⟩
  | flt _=>obtain ⟨t,rfl⟩:=rx;exact ⟨rfl,by simp⟩
  | ref _=>cases rx;exact ⟨rfl,by simp⟩
  | ty _=>cases rx;exact ⟨rfl,by simp⟩
 ·cases ry
  cases x with
  | non=>cases rx;exact ⟨rfl,by simp⟩
  | bl c=>cases rx;exact ⟨rfl,by simp;cases c <;> cases b <;> rfl⟩
  | int _=>obtain ⟨t,rfl⟩:=rx;exact ⟨rfl,by simp⟩
  | str _=>obtain ⟨t,rfl⟩:=rx;exact ⟨rfl,by simp⟩
  | byt _=>obtain ⟨t,rfl⟩:=rx;exact ⟨rfl,by simp⟩
  | flt _=>obtain ⟨t,rfl⟩:=rx;exact ⟨rfl,by simp⟩
  | ref _=>cases rx;exact ⟨rfl,by simp⟩
  | ty _=>cases rx;exact ⟨rfl,by simp⟩
theorem Ru:OpR X (compareOp .Is) (rIs id):=by
 intro pins s σ H x y v u Q I rx ry h;obtain ⟨hy,q⟩:=h;obtain ⟨h1,h2⟩:=Vk rx ry hy;exact wpAny_is_plain h1 ⟨.bl _,H,I,by rw [h2];rfl,q⟩
theorem VR {x y:V}{dx dy:D}(rx:Rep K c H x dx)(ry:Rep K c H y dy)(eq:isC dx dy t=some z):(y = .non\/∃b,y = .bl b)/\z=(.bl (decide (x=y)),t):=by
 cases ry with
 | non=>
   refine ⟨.inl rfl,?_⟩
   cases rx <;> (cases eq;first | rfl | simp)
 | bl b=>
   refine ⟨.inr ⟨b,rfl⟩,?_⟩
   cases rx <;> (cases eq;first | rfl | simp)
   next a=>cases a <;> cases b <;> rfl
 | _=>cases eq
theorem R6:Bm K (rIs id) isC:=λ{Oo c t σ H x y dx dy r t' Q} f rx ry eq k=>by
 obtain ⟨h,z⟩:=VR rx ry eq
 cases z
 exact ⟨h,k _ H c f .refl (.bl _)⟩
def ixD:D->D->M D
 | .lst ds,.int i=>λt=>(atI ds i).map λd=>(d,t)
 | .tup ds,.int i=>λt=>(atI ds i).map λd=>(d,t)
 | .scr ns,.int i=>λt=>(atI ns i).map λn=>(.int n,t)
 | .str x,.int i=>λt=>if x.length<=LIM then (atI x.cps.toList i).map λn=>(.str ⟨#[n]⟩,t) else none
 | .obj k,.int i=>λt=>match t.S[k]? with
   | some (.lst ds)=>(atI ds i).map λd=>(d,t)
   | _=>none
 | _,_=>fail
theorem Ji {vs:List V}{ds:List D}{i:Int}{d:D}(r:Reps K c H vs ds)(h:atI ds i=some d):∃v,atI vs i=some v/\Rep K c H v d:=by
 unfold atI at h ⊢;obtain ⟨j,h1,h2⟩:=Option.bind_eq_some_iff.mp h;obtain ⟨v,h3,h4⟩:=r.at h2;exact ⟨v,by rw [r.length,h1];exact h3,h4⟩
theorem Vh {α β:Type}(g:α->β)(xs:List α)(i:Int):atI (xs.map g) i=(atI xs i).map g:=by
 unfold atI;rw [ui6]
 cases ixN xs.length i with
 | none=>rfl
 | some j=>simp
theorem Yi {dx dy r:D}{t':T}(eq:ixD dx dy t=some (r,t')):∃i,dy = .int i/\((∃ds,dx = .lst ds)\/(∃ds,dx = .tup ds)\/(∃ns,dx = .scr ns)\/(∃z,dx = .str z)\/∃k,dx = .obj k):=by
 unfold ixD at eq
 split at eq
 ·exact ⟨_,rfl,.inl ⟨_,rfl⟩⟩
 ·exact ⟨_,rfl,.inr (.inl ⟨_,rfl⟩)⟩
 ·exact ⟨_,rfl,.inr (.inr (.inl ⟨_,rfl⟩))⟩
 ·exact ⟨_,rfl,.inr (.inr (.inr (.inl ⟨_,rfl⟩)))⟩
 ·exact ⟨_,rfl,.inr (.inr (.inr (.inr ⟨_,rfl⟩)))⟩
 ·cases eq
theorem R7:Bm K (rIx K) ixD:=λ{Oo c t σ H x y dx dy r t' Q} f rx ry eq k=>by
 obtain ⟨i,rfl,hd⟩:=Yi eq
 cases ry
 rcases hd with ⟨ds,rfl⟩ | ⟨ds,rfl⟩ | ⟨ns,rfl⟩ | ⟨z,rfl⟩ | ⟨kk,rfl⟩
 ·cases rx with
  | @lst a vs _ h1 h2 h3=>
    obtain ⟨d,e1,e2⟩:=uc6.mp eq
    cases e2
    obtain ⟨v,e3,e4⟩:=Ji h3 e1;exact .inl ⟨a,vs,i,v,rfl,rfl,SqL.of h1,e3,k _ H c f .refl e4⟩
 ·cases rx with
  | @tup a vs _ h1 h2 h3=>
    obtain ⟨d,e1,e2⟩:=uc6.mp eq
    cases e2
    obtain ⟨v,e3,e4⟩:=Ji h3 e1;exact .inr (.inl ⟨a,vs,i,v,rfl,rfl,SqT.of h1,e3,k _ H c f .refl e4⟩)
 ·cases rx with
  | @scr a _ h1=>
    obtain ⟨n,e1,e2⟩:=uc6.mp eq
    cases e2
    exact .inl ⟨a,_,i,.int n,rfl,rfl,h1.sq,by rw [Vh,e1];rfl,k _ H c f .refl (.int n)⟩
 ·cases rx
  unfold ixD at eq;dsimp only at eq
  split at eq
  ·next hl=>
   obtain ⟨n,e1,e2⟩:=uc6.mp eq
   cases e2
   exact .inr (.inr ⟨z,i,n,rfl,rfl,um0 hl BU,e1,k _ H c f .refl (.str _)⟩)
  ·cases eq
 ·cases rx with
  | @obj a _ h1=>
    unfold ixD at eq;dsimp only at eq
    cases es:t.S[kk]? with
    | none=>rw [es] at eq;cases eq
    | some o=>
      rw [es] at eq
      cases o with
      | dct _ | ins _ _=>cases eq
      | lst ds=>
        obtain ⟨d,e1,e2⟩:=uc6.mp eq
        cases e2
        obtain ⟨vs,g1,g2⟩:=f.s.obs kk a _ h1 es;obtain ⟨v,e3,e4⟩:=Ji g2 e1;exact .inl ⟨a,vs,i,v,rfl,rfl,SqL.of g1,e3,k _ H c f .refl e4⟩
end
variable {f:M D}{id:String}{R:List V->Hp->VK->Prop}{p:Pos}
section
variable {X:Cx}{e a b:Expr}{es:List Expr}{pos:Pos}
inductive RO (K:PySem.W.Frag)(f:M (Option Int))(σ:L2.St)(H:Hp)(Q:Option Int->Hp->Prop):Prop where
 | mk (Oo:Addr->Prop) (c:Cf) (t:T) (fi:FInv K Oo c t σ H) (r:Option Int) (t':T) (e:f t=some (r,t')) (k:∀H' c',FInv K Oo c' t' σ H'->Stp Oo c H c' H'->Q r H'):RO K f σ H Q
theorem Ql {oe:Option Expr}{t t':TO}(h:PO X oe t)(i:∀σ H Q,t' σ H Q->t σ H Q):PO X oe t':=λpins s σ H Q I q=>h pins s σ H Q I (i σ H Q q)
def fNo:M (Option Int):=ret none
def asI:D->M (Option Int)
 | .int i=>ret (some i)
 | _=>fail
def D8 (f:M D):M (Option Int):=bnd f asI
theorem VI:PO X none (RO X.K fNo):=Ql Wz λσ H Q z9=>by
 obtain ⟨Oo,c,t,fi,r,t',eq,k⟩:=z9
 cases eq
 exact k H c fi .refl
theorem VJ (h:PE X e (RE X.K f)):PO X (some e) (RO X.K (D8 f)):=Ql (WA h) λσ H Q z9=>by
 obtain ⟨Oo,c,t,fi,r,t',eq,k⟩:=z9;obtain ⟨d,t1,e1,eq⟩:=Ae eq;refine ⟨Oo,c,t,fi,d,t1,e1,λv H1 c1 f1 s1 rv=>?_⟩
 cases rv with
 | int i=>cases eq;exact ⟨i,rfl,k H1 c1 f1 s1⟩
 | _=>cases eq
def O8 (K:PySem.W.Frag)(R:V->Option Int->Option Int->Hp->VK->Prop)(h:D->Option Int->Option Int->M D):Prop:=∀{Oo:Addr->Prop} {c:Cf} {t:T} {σ:L2.St} {H:Hp} {x:V} {dx r:D} {lo hi:Option Int} {t':T} {Q:VK},FInv K Oo c t σ H->Rep K c H x dx->h dx lo hi t=some (r,t')->
 (∀v H' c',FInv K Oo c' t' σ H'->Stp Oo c H c' H'->Rep K c' H' v r->Q v H')->R x lo hi H Q
def fSl (f:M D)(l u:M (Option Int))(h:D->Option Int->Option Int->M D):M D:=bnd f λx=>bnd l λlo=>bnd u λhi=>h x lo hi
theorem MY {R:V->Option Int->Option Int->Hp->VK->Prop}{h:D->Option Int->Option Int->M D}{l u:M (Option Int)}{lo hi:Option Expr}{p2:Pos}(hr:SlR X R)(s:O8 X.K R h)(he:PE X e (RE X.K f))(hl:PO X lo (RO X.K l))(hu:PO X hi (RO X.K u)):PE X (.Subscript e (.Slice lo hi none p2) pos) (RE X.K (fSl f l u h)):=
 AG (Ua hr he hl hu) λσ H Q z9=>by
  obtain ⟨Oo,c,t,fi,r,t',eq,k⟩:=z9;obtain ⟨d,t1,e1,eq⟩:=Ae eq;obtain ⟨ol,t2,e2,eq⟩:=Ae eq;obtain ⟨oh,t3,e3,eq⟩:=Ae eq;exact ⟨Oo,c,t,fi,d,t1,e1,λv H1 c1 f1 s1 rv=>⟨Oo,c1,t1,f1,ol,t2,e2,λH2 c2 f2 s2=>⟨Oo,c2,t2,f2,oh,t3,e3,λH3 c3 f3 s3=>
   s f3 (rv.mono (s2.trans s3).ext) eq λv H' c' f' s' rv'=>k v H' c' f' (((s1.trans s2).trans s3).trans s') rv'⟩⟩⟩
def Bx {α:Type}(xs:List α)(lo hi:Option Int):List α:=(xs.drop (HT.sIx xs.length 0 lo)).take (HT.sIx xs.length xs.length hi - HT.sIx xs.length 0 lo)
def slD:D->Option Int->Option Int->M D
 | .lst ds,lo,hi=>ret (.lst (Bx ds lo hi))
 | .scr ns,lo,hi=>ret (.lst ((Bx ns lo hi).map .int))
 | .tup ds,lo,hi=>λt=>if HT.sIx ds.length 0 lo=0/\HT.sIx ds.length ds.length hi=ds.length then none else some (.tup (Bx ds lo hi),t)
 | _,_,_=>fail
theorem Hn {K:PySem.W.Frag}{vs:List V}{ds:List D}(r:Reps K c H vs ds)(lo hi:Option Int):Reps K c H (G5 vs lo hi) (Bx ds lo hi):=by
 unfold G5 Bx;rw [r.length];exact (r.drop _).take _
theorem SV {α β:Type}(g:α->β)(xs:List α)(lo hi:Option Int):Bx (xs.map g) lo hi=(Bx xs lo hi).map g:=by
 unfold Bx;rw [ui6,List.map_take,List.map_drop]
theorem Qv (ns:List Int)(lo hi:Option Int):G5 (ns.map V.int) lo hi=(Bx ns lo hi).map V.int:=SV V.int ns lo hi
def Uh (K:PySem.W.Frag):V->Option Int->Option Int->Hp->VK->Prop:=λx lo hi H Q=>Ze K x lo hi H Q\/Zg K x lo hi H Q
theorem sl2:SlR X (Uh X.K):=sl_list.or Zq
theorem Zn {K:PySem.W.Frag}:O8 K (Uh K) slD:=λ{Oo c t σ H x dx r lo hi t' Q} f rx eq k=>by
 cases rx with
 | @lst p vs ds h1 h2 h3=>
   cases eq
   exact .inl ⟨p,vs,rfl,SqL.of h1,λq hq=>k _ _ c (f.laid hq) (f.stp_laid hq) (.lst Aj (f.s.free hq) ((Hn h3 lo hi).mono (Ext.laid f.s hq)))⟩
 | @scr p ns h1=>
   cases eq
   refine .inl ⟨p,_,rfl,h1.sq,λq hq=>k _ _ c (f.laid hq) (f.stp_laid hq) (.lst Aj (f.s.free hq) ?_)⟩;rw [Qv];exact Reps.ints _
 | @tup p vs ds h1 h2 h3=>
   unfold slD at eq;dsimp only at eq
   split at eq
   ·cases eq
   ·next hn=>
    cases eq
    exact .inr ⟨p,vs,rfl,SqT.of h1,by rw [h3.length];exact hn,λq hq=>k _ _ c (f.laid hq) (f.stp_laid hq) (.tup Aj (f.s.free hq) ((Hn h3 lo hi).mono (Ext.laid f.s hq)))⟩
 | _=>cases eq
theorem b4 {h:List D->M D}{f:M (List D)}{x:Str}(hc:Dw X (.builtin id) R)(s:GV X.K R h)(hg:Gl X x)(hm:X.mg x=none)(hv:bootBuiltins x=some (.builtin id))(ha:PA X (e :: es) (RA X.K f))(hn:x≠"__name__":=by decide)(hdb:(x == ("__debug__" : Str))=false:=by decide)
 (he:starEach (e :: es) X.env=(false,eval e X.env) :: starEach es X.env:=by rfl) (hpl:(backTo pos (starEach es X.env)).any (·.1)=false:=by rfl):PE X (.Call (.Name x p) (e :: es) [] pos) (RE X.K (fB f h)):=
 AG (TY hc hg hm hv ha hn hdb he hpl) λ_ _ _ q=>RE.callB s q
theorem b5 {h:List D->M D}{f:M (List D)}{x:Str}(hc:Dw X (.type id) R)(s:GV X.K R h)(hg:Gl X x)(hm:X.mg x=none)(hv:bootBuiltins x=some (.type id))(ha:PA X (e :: es) (RA X.K f))(hn:x≠"__name__":=by decide)(hdb:(x == ("__debug__" : Str))=false:=by decide)
 (he:starEach (e :: es) X.env=(false,eval e X.env) :: starEach es X.env:=by rfl) (hpl:(backTo pos (starEach es X.env)).any (·.1)=false:=by rfl):PE X (.Call (.Name x p) (e :: es) [] pos) (RE X.K (fB f h)):=
 AG (Ip hc hg hm hv ha hn hdb he hpl) λ_ _ _ q=>RE.callB s q
theorem b6 {h:List D->M (List D)}{f:M (List D)}{x:Str}(hc:Dw X (.type id) R)(s:L8 X.K R h)(hg:Gl X x)(hm:X.mg x=none)(hv:bootBuiltins x=some (.type id))(ha:PA X (e :: es) (RA X.K f))(hn:x≠"__name__":=by decide)(hdb:(x == ("__debug__" : Str))=false:=by decide)
 (he:starEach (e :: es) X.env=(false,eval e X.env) :: starEach es X.env:=by rfl) (hpl:(backTo pos (starEach es X.env)).any (·.1)=false:=by rfl):PE X (.Call (.Name x p) (e :: es) [] pos) (RF X.K (fBF f h)):=
 AG (Ip hc hg hm hv ha hn hdb he hpl) λ_ _ _ q=>RF.callB s q
theorem Z6 {op:Operator}{R:R2}{g:M D}{h:D->D->M (List D)}(ho:OpR X (binaryOp op) R)(s:O7 X.K R h)(ha:PE X a (RE X.K f))(hb:PE X b (RE X.K g)):PE X (.BinOp a op b pos) (RF X.K (bnd f λx=>bnd g λy=>h x y)):=
 AG (PN ho ha hb) λ_ _ _ q=>RF.two s q
end
section
variable {K:PySem.W.Frag}
theorem E2 {xs:List V}{d:D}(r:Reps K c H xs [d]):∃v,xs=[v]/\Rep K c H v d:=by
 cases r with
 | cons r rs=>cases rs;exact ⟨_,rfl,r⟩
theorem aF {xs:List V}{d e:D}(r:Reps K c H xs [d,e]):∃v u,xs=[v,u]/\Rep K c H v d/\Rep K c H u e:=by
 cases r with
 | cons r rs=>
   obtain ⟨u,rfl,q⟩:=E2 rs;exact ⟨_,u,rfl,r,q⟩
def A0:List D->M D
 | [.lst ds]=>ret (.int ds.length)
 | [.tup ds]=>ret (.int ds.length)
 | [.scr ns]=>ret (.int ns.length)
 | [.str x]=>lim x.length (.int x.length)
 | [.obj k]=>λt=>match t.S[k]? with
   | some (.lst ds)=>some (.int ds.length,t)
   | _=>none
 | _=>fail
theorem WU:GV K (λxs H Q=>∃x n,xs=[x]/\Xu K x H n/\Q (.int n) H) A0:=λ{Oo c t σ H xs ds r t' Q} f rx eq k=>by
 match ds,rx,eq with
 | [],_,eq=>cases eq
 | d0 :: _ :: _,_,eq=>cases d0 <;> cases eq
 | [d],rx,eq=>
   obtain ⟨v,rfl,rv⟩:=E2 rx
   cases rv with
   | @lst a vs ds h1 h2 h3=>cases eq;exact ⟨_,ds.length,rfl,.inl ⟨vs,SqL.of h1,h3.length.symm⟩,k _ H c f .refl (.int _)⟩
   | @tup a vs ds h1 h2 h3=>cases eq;exact ⟨_,ds.length,rfl,.inr ⟨vs,SqT.of h1,h3.length.symm⟩,k _ H c f .refl (.int _)⟩
   | @scr a ns h1=>cases eq;exact ⟨_,ns.length,rfl,.inl ⟨_,h1.sq,by simp⟩,k _ H c f .refl (.int _)⟩
   | str x=>
     obtain ⟨hl,z⟩:=Ed eq
     cases z
     exact ⟨_,x.length,rfl,⟨um0 hl BU,rfl⟩,k _ H c f .refl (.int _)⟩
   | @obj a kk h1=>
     unfold A0 at eq;dsimp only at eq
     cases es:t.S[kk]? with
     | none=>rw [es] at eq;cases eq
     | some o=>
       rw [es] at eq
       cases o with
       | dct _ | ins _ _=>cases eq
       | lst ds=>
         cases eq
         obtain ⟨vs,g1,g2⟩:=f.s.obs kk a _ h1 es;exact ⟨_,ds.length,rfl,.inl ⟨vs,SqL.of g1,g2.length.symm⟩,k _ H c f .refl (.int _)⟩
   | _=>cases eq
noncomputable def tyD:D->Option String
 | .non=>some "NoneType"
 | .bl _=>some "bool"
 | .int _=>some "int"
 | .str _=>some "str"
 | .lst _=>some "list"
 | .tup _=>some "tuple"
 | .dic=>some "dict"
 | _=>none
noncomputable def K8 (n m:String):Option Bool:=match m with
 | "int"=>some (n == "int" || n == "bool")
 | "bool"=>some (n == "bool")
 | "str"=>some (n == "str")
 | "list"=>some (n == "list")
 | "tuple"=>some (n == "tuple")
 | "dict"=>some (n == "dict")
 | _=>none
def Du:List D->M D
 | [d,.ty m]=>λt=>match tyD d with
   | some n=>(K8 n m).map λb=>(.bl b,t)
   | none=>none
 | _=>fail
theorem VW {d:D}{n m:String}{b:Bool}(h1:tyD d=some n)(h2:K8 n m=some b):PySem.W.kitOne K (.type n) (.type m)=some b:=by
 have hm:m = "int"\/m = "bool"\/m = "str"\/m = "list"\/m = "tuple"\/m = "dict":=by
  unfold K8 at h2
  split at h2 <;> simp_all
 have hn:n = "NoneType"\/n = "bool"\/n = "int"\/n = "str"\/n = "list"\/n = "tuple"\/n = "dict":=by
  cases d <;> simp [tyD] at h1 <;> simp [<-h1]
 rcases hm with rfl | rfl | rfl | rfl | rfl | rfl <;> rcases hn with rfl | rfl | rfl | rfl | rfl | rfl | rfl <;> (cases h2;rfl)
def Y9 (K:PySem.W.Frag):List V->Hp->VK->Prop:=λxs H Q=>∃x n t b,xs=[x,.ty n]/\TyOf K H x t/\PySem.W.kitOne K t (.type n)=some b/\Q (.bl b) H
theorem SR:Dw X (.builtin "isinstance") (Y9 X.K):=by
 intro pins s σ H xs us Q I r h;obtain ⟨x,n,t,b,rfl,ty,e,q⟩:=h;obtain ⟨u,w',rfl,rx,rt⟩:=aS r
 cases rt
 exact Q4 I rx ty e λtk=>⟨.bl b,H,I.tok tk,rfl,q⟩
theorem WT:GV K (Y9 K) Du:=λ{Oo c t σ H xs ds r t' Q} f rx eq k=>by
 unfold Du at eq
 split at eq
 ·next d m=>
  obtain ⟨v,u,rfl,rv,ru⟩:=aF rx
  cases ru
  cases et:tyD d with
  | none=>rw [et] at eq;cases eq
  | some n=>
    rw [et] at eq;obtain ⟨b,e1,e2⟩:=uc6.mp eq
    cases e2
    refine ⟨v,m,.type n,b,rfl,?_,VW et e1,k _ H c f .refl (.bl b)⟩
    cases rv <;> first | (cases et;first | exact .non | exact .bl _ | exact .int _ | exact .str _ | exact .lst ‹_› | exact .tup ‹_› | exact .dK ‹_›) | cases et
 ·cases eq
def cT:List D->M D
 | [.lst ds]=>ret (.tup ds)
 | [.tup ds]=>ret (.tup ds)
 | [.obj k]=>λt=>match t.S[k]? with
   | some (.lst ds)=>some (.tup ds,t)
   | _=>none
 | _=>fail
def Hf:List D->M (List D)
 | [.lst ds]=>ret ds
 | [.tup ds]=>ret ds
 | [.scr ns]=>ret (ns.map .int)
 | [.obj k]=>λt=>match t.S[k]? with
   | some (.lst ds)=>some (ds,t)
   | _=>none
 | _=>fail
theorem WV:L8 K (λxs H Q=>∃p ys,xs=[.ref p]/\(SqL K H p ys\/SqT K H p ys)/\∀l,H l=none->Q (.ref l) (upd H l (.lst ys))) Hf:=λ{Oo c t σ H xs ds r t' Q} f rx eq k=>by
 match ds,rx,eq with
 | [],_,eq=>cases eq
 | d0 :: _ :: _,_,eq=>cases d0 <;> cases eq
 | [d],rx,eq=>
   obtain ⟨v,rfl,rv⟩:=E2 rx
   cases rv with
   | @lst a vs ds h1 h2 h3=>cases eq;exact ⟨a,vs,rfl,.inl (SqL.of h1),λq hq=>k q vs H c f .refl h3 hq⟩
   | @tup a vs ds h1 h2 h3=>cases eq;exact ⟨a,vs,rfl,.inr (SqT.of h1),λq hq=>k q vs H c f .refl h3 hq⟩
   | @scr a ns h1=>cases eq;exact ⟨a,_,rfl,.inl h1.sq,λq hq=>k q _ H c f .refl (Reps.ints ns) hq⟩
   | @obj a kk h1=>
     unfold Hf at eq;dsimp only at eq
     cases es:t.S[kk]? with
     | none=>rw [es] at eq;cases eq
     | some o=>
       rw [es] at eq
       cases o with
       | dct _ | ins _ _=>cases eq
       | lst ds=>
         cases eq
         obtain ⟨vs,g1,g2⟩:=f.s.obs kk a _ h1 es;exact ⟨a,vs,rfl,.inl (SqL.of g1),λq hq=>k q vs H c f .refl g2 hq⟩
   | _=>cases eq
def K6:List D->M D
 | [.int i]=>ret (.int i)
 | [.bl b]=>ret (.int (if b then 1 else 0))
 | _=>fail
theorem WS:GV K (λxs H Q=>(∃i,xs=[.int i]/\Q (.int i) H)\/∃k,xs=[.bl k]/\Q (.int (if k then 1 else 0)) H) K6:=λ{Oo c t σ H xs ds r t' Q} f rx eq k=>by
 match ds,rx,eq with
 | [],_,eq=>cases eq
 | d0 :: _ :: _,_,eq=>cases d0 <;> cases eq
 | [d],rx,eq=>
   obtain ⟨v,rfl,rv⟩:=E2 rx
   cases rv with
   | int i=>cases eq;exact .inl ⟨i,rfl,k _ H c f .refl (.int _)⟩
   | bl b=>cases eq;exact .inr ⟨b,rfl,k _ H c f .refl (.int _)⟩
   | _=>cases eq
def bS:List D->M D
 | [.int i]=>ret (.int (if i < 0 then -i else i))
 | _=>fail
def cA:List D->M D
 | [.int i,.int j]=>ret (.int (if j < i then j else i))
 | _=>fail
def cz:List D->M D
 | [.int i,.int j]=>ret (.int (if j > i then j else i))
 | _=>fail
def JB:List D->M D
 | [.str x]=>λt=>if x.length=1 then some (.int (x.cps.getD 0 0:Nat),t) else none
 | _=>fail
theorem W0:GV K (λxs H Q=>∃x,xs=[.str x]/\x.length=1/\Q (.int (x.cps.getD 0 0:Nat)) H) JB:=λ{Oo c t σ H xs ds r t' Q} f rx eq k=>by
 match ds,rx,eq with
 | [],_,eq=>cases eq
 | d0 :: _ :: _,_,eq=>cases d0 <;> cases eq
 | [d],rx,eq=>
   obtain ⟨v,rfl,rv⟩:=E2 rx
   cases rv with
   | str x=>
     unfold JB at eq;dsimp only at eq
     split at eq
     ·next h=>cases eq;exact ⟨x,rfl,h,k _ H c f .refl (.int _)⟩
     ·cases eq
   | _=>cases eq
end
end F2
namespace L2
open PySem PySem.Spec PyProof.Rows
open AutoSeq1 (wpAny_loadPart')
def U1 (K:PySem.W.Frag):R2:=λx y H Q=>∃a b ys,x = .ref a/\y = .ref b/\SqT K H a []/\SqT K H b ys/\Q (.ref b) H
theorem Wc {X:Cx}:OpR X (binaryOp .Add) (U1 X.K):=by
 intro pins s σ H x y v u Q I rx ry h;obtain ⟨a,b,ys,rfl,rfl,h1,h2,q⟩:=h
 cases rx
 cases ry
 obtain ⟨its,r,⟨⟨cls,dd,data,sl⟩,ho,hc,n,hd⟩,z⟩:=I.tuple h1;obtain ⟨its2,r2,⟨⟨cls2,dd2,data2,sl2⟩,ho2,hc2,n2,hd2⟩,z2⟩:=I.tuple h2;simp only at hc hd hc2 hd2;subst hc hd hc2 hd2
 cases r
 exact concat_meets ⟨_,ho,rfl⟩ ⟨_,ho2,rfl⟩ noFill_tuple_add seq_tuple_add uc4 ub6 (ub2 _ _)
  (tuple_addW0 a b #[] its2.toArray n n2 dd dd2 sl sl2 rfl) ⟨ho,ho2,.ref b,H,I,rfl,q⟩
theorem Jz:fillsNumberSlot (.type "tuple") "mul" = pure false:=
 PySem.fillsNumberSlot_seq (id:="tuple.__mul__") (r:=some (.builtin "tuple.__rmul__")) F.slot_tuple_mul.lookup (by decide +kernel) F.slot_tuple_rmul.lookup (by decide +kernel)
theorem Nx:seqRepeat? (.type "tuple")=pure (some (.builtin "tuple.__mul__")):=by
 unfold seqRepeat?;rw [PySem.seqSlot_of (T:="tuple") (name:="__mul__") (id:="tuple.__mul__") F.slot_tuple_mul.lookup (by decide +kernel),PySem.seqSlot_of (T:="tuple") (name:="__rmul__") (id:="tuple.__rmul__") F.slot_tuple_rmul.lookup (by decide +kernel)];rfl
theorem Lj (a:Int)(t:Tok)(l:Addr)(items:Array Value)(n:Nat)(dd:Option Addr)(sl:Array (Option Value)) :
 Meets (Builtin.«int.__rmul__» ⟨[.int a t,.ref l],[]⟩) (λ_ R s=>s.heap.get? l=some { cls:=.type "tuple",dict:=dd,data:=.seq items n,slots:=sl }/\R (.ok (.ret Value.notImplemented)) s):=
 .of_wp λprog w A R s h=>by obtain ⟨hp,g,d,tk,os⟩:=s;obtain ⟨hl,h⟩:=h;wp_walk;exact ⟨_,rfl,h⟩
theorem NX (l:Addr)(items:Array Value)(n:Nat)(dd:Option Addr)(sl:Array (Option Value))(x:Int)(u:Tok)(hc0:(decide (x < -(2 ^ 63)) || decide (x ≥ 2 ^ 63))=false)(hc1:(items.isEmpty || x == 1)=true) :
 Meets (Builtin.«tuple.__mul__» ⟨[.ref l,.int x u],[]⟩) (λ_ R s=>s.heap.get? l=some { cls:=.type "tuple",dict:=dd,data:=.seq items n,slots:=sl }/\R (.ok (.ret (Value.ref l))) s):=
 .of_wp λprog w A R s h=>by
  obtain ⟨hp,g,d,tk,os⟩:=s;obtain ⟨hl,h⟩:=h;have f1:=AutoSeq1.idx_int;have f2:=AutoSeq1.sub_tuple_tuple;have f3:=AutoSeq1.sub_list_list;have f4:=AutoSeq1.sub_tuple_list;have f5:=AutoSeq1.sub_list_tuple
  wp_walk using wpAny_loadPart' hl
  refine wpAny_ite_split (λz=>absurd z (by rw [hc0];decide)) λ_=>?_
  wp_walk using wpAny_loadPart' hl
  exact ⟨_,rfl,h⟩
theorem NY (l:Addr)(items:Array Value)(n:Nat)(dd:Option Addr)(sl:Array (Option Value))(x:Int)(u:Tok)(hc0:(decide (x < -(2 ^ 63)) || decide (x ≥ 2 ^ 63))=false)(hc1:(items.isEmpty || x == 1)=false)(hc2:(decide (x<=0) || items.isEmpty)=true) :
 Meets (Builtin.«tuple.__mul__» ⟨[.ref l,.int x u],[]⟩) (λ_ R s=>s.heap.get? l=some { cls:=.type "tuple",dict:=dd,data:=.seq items n,slots:=sl }/\R (.ok (.ret (Value.ref s.heap.objs.size))) { s with heap:=s.heap.push { cls:=Value.type "tuple",data:=Data.seq #[] },toks:=s.toks }):=
 .of_wp λprog w A R s h=>by
  obtain ⟨hp,g,d,tk,os⟩:=s;obtain ⟨hl,h⟩:=h;have f1:=AutoSeq1.idx_int;have f2:=AutoSeq1.sub_tuple_tuple;have f3:=AutoSeq1.sub_list_list;have f4:=AutoSeq1.sub_tuple_list;have f5:=AutoSeq1.sub_list_tuple
  wp_walk using wpAny_loadPart' hl
  refine wpAny_ite_split (λz=>absurd z (by rw [hc0];decide)) λ_=>?_
  wp_walk using wpAny_loadPart' hl
  exact ⟨_,rfl,h⟩
theorem NZ (l:Addr)(items:Array Value)(n:Nat)(dd:Option Addr)(sl:Array (Option Value))(x:Int)(u:Tok)(hc0:(decide (x < -(2 ^ 63)) || decide (x ≥ 2 ^ 63))=false)(hc1:(items.isEmpty || x == 1)=false)(hc2:(decide (x<=0) || items.isEmpty)=false)
 (hc3:¬(items.size:Int) * x > (2 ^ 63 - 1) / 8) (hc4:Builtin.Tuple.tupleTooMany ((items.size:Int) * x)=false) (hsz:(List.foldl (λx1 x2=>x1++x2) #[] (List.replicate x.toNat items)).size<=sizeLine) :
 Meets (Builtin.«tuple.__mul__» ⟨[.ref l,.int x u],[]⟩) (λ_ R s=>s.heap.get? l=some { cls:=.type "tuple",dict:=dd,data:=.seq items n,slots:=sl }/\R (.ok (.ret (Value.ref s.heap.objs.size))) { s with heap:=s.heap.push { cls:=Value.type "tuple",data:=Data.seq (List.foldl (λx1 x2=>x1++x2) #[] (List.replicate x.toNat items)) },toks:=s.toks }):=
 .of_wp λprog w A R s h=>by
  obtain ⟨hp,g,d,tk,os⟩:=s;obtain ⟨hl,h⟩:=h;have f1:=AutoSeq1.idx_int;have f2:=AutoSeq1.sub_tuple_tuple;have f3:=AutoSeq1.sub_list_list;have f4:=AutoSeq1.sub_tuple_list;have f5:=AutoSeq1.sub_list_tuple
  wp_walk using wpAny_loadPart' hl
  refine wpAny_ite_split (λz=>absurd z (by rw [hc0];decide)) λ_=>?_
  wp_walk using wpAny_loadPart' hl
  refine wpAny_ite_split (λz=>absurd z hc3) λ_=>?_
  wp_walk using wpAny_loadPart' hl
  exact ⟨_,rfl,h⟩
end L2
namespace L2
open PySem PySem.Spec PyProof.Rows
open AutoSeq1 (wpAny_loadPart')
def U7 (K:PySem.W.Frag):R2:=λx y H Q=>∃a k xs,x = .ref a/\y = .int k/\SqT K H a xs/\-(2 ^ 62)<=k/\k < 2 ^ 62/\xs.length * k.toNat<=sizeLine/\
 ((xs=[]\/k=1)->Q (.ref a) H)/\(¬(xs=[]\/k=1)->∀p,H p=none->Q (.ref p) (upd H p (.tup (List.replicate k.toNat xs).flatten)))
theorem Inv.tnew {X:Cx}{pins:List (Addr×Obj)}{σ:L2.St}{H:Hp}{s:Shared}{ys:List V}{its:List Value}{t':Nat}(I:Inv X pins σ H s)(hv:Vals ys its)(hz:ys.length<=sizeLine) :
 Inv X pins σ (upd H s.heap.objs.size (.tup ys)) { s with heap:=s.heap.push { cls:=.type "tuple",data:=.seq its.toArray },toks:=t' }:=
 I.laid (λb u e=>uc2 _ e) (um8 _) ⟨hz,its,hv,⟨_,ue3 _ rfl,rfl,_,rfl⟩⟩
theorem op_mulT {X:Cx}:OpR X (binaryOp .Mult) (U7 X.K):=by
 intro pins s σ H x y v u Q I rx ry h;obtain ⟨a,k,xs,rfl,rfl,hq,h1,h2,hz,q1,q2⟩:=h
 cases rx
 obtain ⟨t,rfl⟩:=ry;obtain ⟨its,r,⟨⟨cls,dd,data,sl⟩,ho,hc,n,hd⟩,z⟩:=I.tuple hq;simp only at hc hd;subst hc hd;have hl:=r.length;have hc0:(decide (k < -(2 ^ 63)) || decide (k ≥ 2 ^ 63))=false:=by
  rw [Bool.or_eq_false_iff];exact ⟨uk1 (by lia),uk1 (by lia)⟩
 refine wpAny_binaryOp_repeat_ref (T:="tuple") (U:="int") (by decide) ⟨_,ho,rfl⟩ (λs'=>typeIs_int s' k t) Jz F.fills_int_mul F.slot_int_rmul Nx F.slot_int_index.lookup
  (call_meets F.slot_int_rmul (typeIs_int s k t) F.entry_int_rmul (F.args_int_rmul_2 _ _) (Lj k t a its.toArray n dd sl) ⟨ho,rfl,⟨_,ho,rfl⟩,?_⟩)
 by_cases hs:xs=[]\/k=1
 ·have hc1:(its.toArray.isEmpty || k == 1)=true:=by
   rw [uj6];rcases hs with z | z
   ·subst z;cases r;exact .inl rfl
   ·exact .inr (by simp [z])
  exact call_meets F.slot_tuple_mul ⟨_,ho,rfl⟩ F.entry_tuple_mul (F.args_tuple_mul_2 _ _) (NX a its.toArray n dd sl k t hc0 hc1) ⟨ho,.ref a,H,I,rfl,q1 hs⟩
 ·have hne:its≠[]:=λz=>hs (.inl (by subst z;cases r;rfl))
  have hk1:k≠1:=λz=>hs (.inr z);have hem:its.toArray.isEmpty=false:=by cases its with | nil=>exact absurd rfl hne | cons _ _=>rfl
  have hc1:(its.toArray.isEmpty || k == 1)=false:=by rw [hem];simpa using hk1
  by_cases hk:k<=0
  ·have hc2:(decide (k<=0) || its.toArray.isEmpty)=true:=by rw [uk6 hk];rfl
   refine call_meets F.slot_tuple_mul ⟨_,ho,rfl⟩ F.entry_tuple_mul (F.args_tuple_mul_2 _ _) (NY a its.toArray n dd sl k t hc0 hc1 hc2) ⟨ho,?_⟩;have hk0:k.toNat=0:=by lia
   refine ⟨.ref _,_,I.tnew (t':=s.toks) (ys:=[]) (its:=[]) .nil (um9 _),rfl,?_⟩;have:=q2 hs _ I.fresh;rw [hk0] at this;exact this
  ·have hc2:(decide (k<=0) || its.toArray.isEmpty)=false:=by rw [uk1 hk,hem];rfl
   have hsz:its.length * k.toNat<=sizeLine:=by rw [<-hl];exact hz
   have hmul:((its.toArray.size:Nat):Int) * k=((its.length * k.toNat:Nat):Int):=by
    rw [ug0,Int.natCast_mul,ue7 (by lia)]
   have hline:(sizeLine:Nat)<=(2 ^ 63 - 1) / 8:=by decide
   have hc3:¬(its.toArray.size:Int) * k > (2 ^ 63 - 1) / 8:=by rw [hmul];lia
   have hc4:Builtin.Tuple.tupleTooMany ((its.toArray.size:Int) * k)=false:=by
    unfold Builtin.Tuple.tupleTooMany;rw [hmul];exact uk1 (by lia)
   have f0:List.foldl (λx1 x2=>x1++x2) #[] (List.replicate k.toNat its.toArray)=(List.replicate k.toNat its).flatten.toArray:=by
    have:=HV its k.toNat [];rw [uj2] at this;exact this
   have hfz:(List.foldl (λx1 x2=>x1++x2) #[] (List.replicate k.toNat its.toArray)).size<=sizeLine:=by
    rw [f0,ug0,K9,um2];exact hsz
   refine call_meets F.slot_tuple_mul ⟨_,ho,rfl⟩ F.entry_tuple_mul (F.args_tuple_mul_2 _ _) (NZ a its.toArray n dd sl k t hc0 hc1 hc2 hc3 hc4 hfz) ⟨ho,?_⟩;rw [f0];exact ⟨.ref _,_,I.tnew (t':=s.toks) (r.rep k.toNat) (by rw [K9,um2];exact hz),rfl,q2 hs _ I.fresh⟩
theorem Ia (l:Addr)(items:Array Value)(n:Nat)(b:Addr)(items2:Array Value)(n2:Nat)(dd:Option Addr)(sl:Array (Option Value))(hs0:¬(!items.isEmpty && Builtin.List.listTooLong (items.size + items2.size))=true)(hs1:items.size<=sizeLine)(hs2:items.size + items2.size<=sizeLine + 1) :
 Meets (Builtin.«list.extend» ⟨[.ref l,.ref b],[]⟩) (λ_ R s=>s.heap.get? l=some { cls:=.type "list",dict:=none,data:=.seq items n,slots:=#[] }/\s.heap.get? b=some { cls:=.type "tuple",dict:=dd,data:=.seq items2 n2,slots:=sl }/\R (.ok (.ret Value.none)) { s with heap:=s.heap.update l (Obj.mapSeq λx=>x++items2),toks:=s.toks }):=
 .of_wp λprog w A R s h=>by
  obtain ⟨hp,g,d,tk,os⟩:=s;obtain ⟨hl,hb,h⟩:=h;have f1:=AutoSeq1.idx_int;have f2:=AutoSeq1.sub_tuple_tuple;have f3:=AutoSeq1.sub_list_list;have f4:=AutoSeq1.sub_tuple_list;have f5:=AutoSeq1.sub_list_tuple;have hz':(items++items2).size<=sizeLine + 1:=by rw [Array.size_append];exact hs2
  wp_walk using (wpAny_updateSeq hl rfl (hz:=hs1) (_hz':=hz')),wpAny_loadPart' hl,wpAny_loadPart' hb;exact ⟨_,rfl,h⟩
def Nr (K:PySem.W.Frag):V->List V->Hp->VK->Prop:=λx vs H Q=>∃l b xs zs,x = .ref l/\vs=[.ref b]/\H l=some (.lst xs)/\SqT K H b zs/\xs.length + zs.length<=sizeLine/\Q .non (upd H l (.lst (xs++zs)))
theorem PF {X:Cx}:MtM X "list.extend" (Nr X.K):=by
 intro pins s σ H x vs v us Q I rx rv h;obtain ⟨l,b,xs,zs,rfl,rfl,hH,hB,hz,q⟩:=h
 cases rx
 obtain ⟨u,rfl,ru⟩:=rv.one
 cases ru
 obtain ⟨z,its,n,r,hl,e⟩:=I.lstM hH;obtain ⟨its2,r2,⟨⟨cls,dd,data,sl⟩,ho,hc,n2,hd⟩,z2⟩:=I.tuple hB;simp only at hc hd;subst hc hd;have hl2:=r2.length;have hsz:its.toArray.size + its2.toArray.size<=sizeLine:=by rw [ug0,ug0];lia
 have hlong:¬(!its.toArray.isEmpty && Builtin.List.listTooLong (its.toArray.size + its2.toArray.size))=true:=by
  rw [JA hsz,uk4];exact uf1
 refine call_meets F.slot_list_extend ⟨_,e,rfl⟩ F.entry_list_extend (F.args_list_extend_2 _ _)
  (Ia l its.toArray n b its2.toArray n2 dd sl hlong (by rw [ug0];lia) (by lia)) ⟨e,ho,?_⟩
 refine ⟨.non,_,I.lset (its':=its++its2) hH e (by simp) (r.append r2) ?_,rfl,q⟩;rw [uf4];lia
theorem MtM.or {X:Cx}{id:String}{r r':V->List V->Hp->VK->Prop}(h:MtM X id r)(h':MtM X id r'):MtM X id (λx xs H Q=>r x xs H Q\/r' x xs H Q):=by
 intro pins s σ H x xs v us Q I rx rv q;rcases q with q | q
 ·exact h pins s σ H x xs v us Q I rx rv q
 ·exact h' pins s σ H x xs v us Q I rx rv q
section
variable {X:Cx}{a b c d:Expr}{ta tb tc td:TE}{pos:Pos}
end
end L2
namespace F2
open PySem L2 PySem.Spec
section
variable {K:PySem.W.Frag}
def AW (x y:D):M D:=match x,y with
 | .tup [],.tup ys=>ret (.tup ys)
 | x,y=>SK x y
def U0 (K:PySem.W.Frag):R2:=λx y H Q=>PU K x y H Q\/U1 K x y H Q
theorem Ow {X:Cx}:OpR X (binaryOp .Add) (U0 X.K):=op_add4.or Wc
theorem NB:Bm K (U0 K) AW:=λ{Oo c t σ H x y dx dy r t' Q} f rx ry eq k=>by
 unfold AW at eq
 split at eq
 ·next ys=>
  cases eq
  cases rx with
  | tup h1 h2 h3=>
    cases h3
    cases ry with
    | tup g1 g2 g3=>exact .inr ⟨_,_,_,rfl,rfl,SqT.of h1,SqT.of g1,k _ H c f .refl (.tup g1 g2 g3)⟩
 ·exact .inl (WN f rx ry eq k)
def Jx:D->D->M D
 | .int i,.int j=>λt=>if Fy i j=true then some (.int (i * j),t) else none
 | .tup xs,.int k=>λt=>if CF k=true/\xs.length * k.toNat<=LIM then some (.tup (List.replicate k.toNat xs).flatten,t) else none
 | .lst xs,.int k=>λt=>if CF k=true/\xs.length * k.toNat<=LIM then some (.lst (List.replicate k.toNat xs).flatten,t) else none
 | _,_=>fail
def PX (K:PySem.W.Frag):R2:=λx y H Q=>rI CMul (λi j=>.int (i * j)) x y H Q\/(U7 K x y H Q\/Zd x y H Q)
theorem op_mul3 {X:Cx}:OpR X (binaryOp .Mult) (PX X.K):=op_mul.or (op_mulT.or YF)
theorem V6 {dx dy r:D}{t t':T}(eq:Jx dx dy t=some (r,t')):∃j,dy = .int j/\((∃i,dx = .int i)\/(∃ds,dx = .tup ds)\/∃ds,dx = .lst ds):=by
 unfold Jx at eq
 split at eq
 ·exact ⟨_,rfl,.inl ⟨_,rfl⟩⟩
 ·exact ⟨_,rfl,.inr (.inl ⟨_,rfl⟩)⟩
 ·exact ⟨_,rfl,.inr (.inr ⟨_,rfl⟩)⟩
 ·cases eq
theorem WY:Bm K (PX K) Jx:=λ{Oo c t σ H x y dx dy r t' Q} f rx ry eq k=>by
 obtain ⟨j,rfl,hd⟩:=V6 eq
 cases ry
 rcases hd with ⟨i,rfl⟩ | ⟨ds,rfl⟩ | ⟨ds,rfl⟩
 ·cases rx
  unfold Jx at eq;dsimp only at eq
  split at eq
  ·next h=>cases eq;exact .inl ⟨i,j,rfl,rfl,Rk h,k _ H c f .refl (.int _)⟩
  ·cases eq
 ·cases rx with
  | @tup a vs _ h1 h2 h3=>
    unfold Jx at eq;dsimp only at eq
    split at eq
    ·next h=>
     cases eq
     obtain ⟨g1,g2⟩:=Es h.1;refine .inr (.inl ⟨a,j,vs,rfl,rfl,SqT.of h1,g1,g2,by rw [h3.length];exact um0 h.2 BU,λhs=>?_,λhs p hp=>?_⟩)
     ·rcases hs with z | z
      ·subst z;have:ds=[]:=ub7.mp h3.length.symm;subst this;have e:(List.replicate j.toNat ([]:List D)).flatten=[]:=by simp
       rw [e] at k;exact k _ H c f .refl (.tup h1 h2 h3)
      ·subst z;have e:(List.replicate (1:Int).toNat ds).flatten=ds:=by simp
       rw [e] at k;exact k _ H c f .refl (.tup h1 h2 h3)
     ·exact k _ _ c (f.laid hp) (f.stp_laid hp) (.tup Aj (f.s.free hp) ((h3.rep j.toNat).mono (Ext.laid f.s hp)))
    ·cases eq
 ·cases rx with
  | @lst a vs _ h1 h2 h3=>
    unfold Jx at eq;dsimp only at eq
    split at eq
    ·next h=>
     cases eq
     obtain ⟨g1,g2⟩:=Es h.1;refine .inr (.inr ⟨a,j,vs,rfl,rfl,h1,by lia,by lia,by rw [h3.length];exact um0 h.2 BU,λp hp=>?_⟩);exact k _ _ c (f.laid hp) (f.stp_laid hp) (.lst Aj (f.s.free hp) ((h3.rep j.toNat).mono (Ext.laid f.s hp)))
    ·cases eq
end
variable {K:PySem.W.Frag}
section
variable {X:Cx}{e a b:Expr}{pos:Pos}
def Dt (xs:List D):List D->Option (List D)
 | [d]=>if xs.length < LIM then some (xs++[d]) else none
 | _=>none
def Ec (xs:List D):List D->Option (List D)
 | [.lst ys]=>if xs.length + ys.length<=LIM then some (xs++ys) else none
 | [.tup ys]=>if xs.length + ys.length<=LIM then some (xs++ys) else none
 | _=>none
def ownM (i:Nat)(h:List D->List D->Option (List D))(g:M (List D)):M Out:=λt=>match t.env[i]? with
 | some (some (.own _))=>bnd g (λds t1=>match t1.env[i]? with
   | some (some (.own xs))=>(h xs ds).map λys=>(.next,{ t1 with env:=t1.env.set i (some (.own ys)) })
   | _=>none) t
 | _=>none
def O9 (K:PySem.W.Frag)(R:V->List V->Hp->VK->Prop)(h:List D->List D->Option (List D)):Prop:=∀{c:Cf} {S:List Ob} {H:Hp} {a:Addr} {vs us:List V} {xs ds ys:List D} {Q:VK},SInv K c S H->H a=some (.lst vs)->Reps K c H vs xs->Reps K c H us ds->h xs ds=some ys->
 (∀ws,Reps K c H ws ys->Q .non (upd H a (.lst ws)))->R (.ref a) us H Q
theorem OK:O9 K OD Dt:=λ{c S H a vs us xs ds ys Q} s h r rs e k=>by
 unfold Dt at e
 split at e
 ·next d=>
  split at e
  ·next hl=>
   cases e
   obtain ⟨v,rfl,rv⟩:=E2 rs;exact ⟨a,vs,v,rfl,rfl,h,by rw [r.length];exact ue9 hl BU,k _ (r.append (.cons rv .nil))⟩
  ·cases e
 ·cases e
def U3 (K:PySem.W.Frag):V->List V->Hp->VK->Prop:=λx xs H Q=>OE x xs H Q\/Nr K x xs H Q
theorem On {X:Cx}:MtM X "list.extend" (U3 X.K):=mt_extend.or PF
theorem OL:O9 K (U3 K) Ec:=λ{c S H a vs us xs ds ys Q} s h r rs e k=>by
 unfold Ec at e
 split at e
 ·split at e
  ·next hl=>
   cases e
   obtain ⟨v,rfl,rv⟩:=E2 rs
   cases rv with
   | lst h1 h2 h3=>exact .inl ⟨a,_,vs,_,rfl,rfl,h,h1,by rw [r.length,h3.length];exact um0 hl BU,k _ (r.append h3)⟩
  ·cases e
 ·split at e
  ·next hl=>
   cases e
   obtain ⟨v,rfl,rv⟩:=E2 rs
   cases rv with
   | tup h1 h2 h3=>exact .inr ⟨a,_,vs,_,rfl,rfl,h,SqT.of h1,by rw [r.length,h3.length];exact um0 hl BU,k _ (r.append h3)⟩
  ·cases e
 ·cases e
theorem RS.ownM {μ:Cf->Hp->D->(V->Hp->Prop)->Prop}{K:PySem.W.Frag}{i:Nat}{h:List D->List D->Option (List D)}{g:M (List D)}{R:V->List V->Hp->VK->Prop}(s:O9 K R h){E:Ends}{σ:L2.St}{H:Hp}(q:RSg K μ (F2.ownM i h g) E σ H):Va (tBM K "list" R (ZB i) (RA K g)) E σ H:=by
 obtain ⟨Oo,c,t,fi,o,t',eq,k⟩:=q;unfold F2.ownM at eq
 split at eq
 ·next xs0 e0=>
  obtain ⟨ds,t1,e1,eq⟩:=Ae eq;obtain ⟨a,vs0,h1,h2,h3,h4,h5⟩:=fi.own i xs0 e0;refine ⟨.ref a,h1,.inl ⟨rfl,vs0,SqL.of h4⟩,Oo,c,t,fi,ds,t1,e1,λus H1 c1 f1 s1 rus=>?_⟩
  split at eq
  ·next xs ex=>
   obtain ⟨ys,ey,ez⟩:=uc6.mp eq
   cases ez
   obtain ⟨a',vs,g1,g2,g3,g4,g5⟩:=f1.own i xs ex;rw [h1] at g1;injection g1 with g1;injection g1 with g1;injection g1 with g1;subst g1
   refine s f1.s g4 g5 rus ey λws rws=>?_;obtain ⟨f2,s2⟩:=f1.wrOwn ex h1 rws;exact k σ _ c1 f2 (s1.trans s2)
  ·cases eq
 ·cases eq
theorem QJ {μ:Cf->Hp->D->(V->Hp->Prop)->Prop}(i:Nat){x:Str}{es:List Expr}{g:M (List D)}{px apos cpos:Pos}(ha:PA X (e :: es) (RA X.K g))(hN:X.N[i]?=some x:=by rfl)(hv:Vis X.env.scope x:=by walk_at "h")(hd:(x == ("__debug__" : Str))=false:=by decide)
 (hcd:(x == ("__classdict__" : Str))=false:=by decide)
 (hbase:attributeBase (.Name x px) "append" X.env (eval (.Name x px) X.env)=eval (.Name x px) X.env:=by rfl)
 (hfew:((backTo cpos (starEach (e :: es) X.env)).all (λx=>!x.1) && (backToKw cpos (keywordEach [] X.env)).all (λx=>x.1.isSome) && decide ((e :: es).length + ([]:List Keyword).length + (if ([]:List Keyword).isEmpty then 0 else 1) < 30))=true:=by rfl)
 (hline:(apos.endLine == cpos.line)=true:=by rfl) (hs:starEach (e :: es) X.env=(false,eval e X.env) :: starEach es X.env:=by rfl) (hplain:(backTo cpos (starEach es X.env)).any (·.1)=false:=by rfl) :
 PS X (.Expr (.Call (.Attribute (.Name x px) "append" apos) (e :: es) [] cpos) pos) (RSg X.K μ (ownM i Dt g)):=
 Bk (Lh (Kl ub8 PySem.F.slot_list_append PySem.F.type_list_append LJ (CB hN hv hd hcd) ha hbase hfew hline hs hplain)) λ_ _ _ q=>RS.ownM OK q
theorem QK {μ:Cf->Hp->D->(V->Hp->Prop)->Prop}(i:Nat){x:Str}{es:List Expr}{g:M (List D)}{px apos cpos:Pos}(ha:PA X (e :: es) (RA X.K g))(hN:X.N[i]?=some x:=by rfl)(hv:Vis X.env.scope x:=by walk_at "h")(hd:(x == ("__debug__" : Str))=false:=by decide)
 (hcd:(x == ("__classdict__" : Str))=false:=by decide)
 (hbase:attributeBase (.Name x px) "extend" X.env (eval (.Name x px) X.env)=eval (.Name x px) X.env:=by rfl)
 (hfew:((backTo cpos (starEach (e :: es) X.env)).all (λx=>!x.1) && (backToKw cpos (keywordEach [] X.env)).all (λx=>x.1.isSome) && decide ((e :: es).length + ([]:List Keyword).length + (if ([]:List Keyword).isEmpty then 0 else 1) < 30))=true:=by rfl)
 (hline:(apos.endLine == cpos.line)=true:=by rfl) (hs:starEach (e :: es) X.env=(false,eval e X.env) :: starEach es X.env:=by rfl) (hplain:(backTo cpos (starEach es X.env)).any (·.1)=false:=by rfl) :
 PS X (.Expr (.Call (.Attribute (.Name x px) "extend" apos) (e :: es) [] cpos) pos) (RSg X.K μ (ownM i Ec g)):=
 Bk (Lh (Kl ub8 PySem.F.slot_list_extend PySem.F.type_list_extend On (CB hN hv hd hcd) ha hbase hfew hline hs hplain)) λ_ _ _ q=>RS.ownM OL q
def objM (h:List D->List D->Option (List D))(f:M D)(g:M (List D)):M D:=bnd f λo=>match o with
 | .obj k=>λt=>match t.S[k]? with
   | some (.lst _)=>bnd g (λds t1=>match t1.S[k]? with
     | some (.lst xs)=>(h xs ds).map λys=>(.non,{ t1 with S:=t1.S.set k (.lst ys) })
     | _=>none) t
   | _=>none
 | _=>fail
theorem RE.objM {K:PySem.W.Frag}{h:List D->List D->Option (List D)}{f:M D}{g:M (List D)}{R:V->List V->Hp->VK->Prop}(s:O9 K R h){σ:L2.St}{H:Hp}{Q:VK}(q:RE K (F2.objM h f g) σ H Q):tBM K "list" R (RE K f) (RA K g) σ H Q:=by
 obtain ⟨Oo,c,t,fi,r,t',eq,k⟩:=q;obtain ⟨o,t0,e0,eq⟩:=Ae eq;refine ⟨Oo,c,t,fi,o,t0,e0,λx H0 c0 f0 s0 rx=>?_⟩
 cases rx with
 | @obj a kk hk=>
   dsimp only at eq
   split at eq
   ·next xs0 ex0=>
    obtain ⟨ds,t1,e1,eq⟩:=Ae eq;obtain ⟨vs0,g0,g0'⟩:=f0.s.obs kk a _ hk ex0;refine ⟨.inl ⟨rfl,vs0,SqL.of g0⟩,Oo,c0,t0,f0,ds,t1,e1,λus H1 c1 f1 s1 rus=>?_⟩
    split at eq
    ·next xs ex=>
     obtain ⟨ys,ey,ez⟩:=uc6.mp eq
     cases ez
     have hk1:=s1.ext.io _ _ hk;obtain ⟨vs,g1,g2⟩:=f1.s.obs kk a _ hk1 ex;refine s f1.s g1 g2 rus ey λws rws=>?_;obtain ⟨f2,s2⟩:=f1.wrObj (o:=.lst ys) (u:=.lst ws) hk1 λc' H' ext hu=>⟨ws,hu,rws.mono ext⟩;exact k _ _ c1 f2 ((s0.trans s1).trans s2) .non
    ·cases eq
   ·cases eq
 | _=>cases eq
theorem QA {o:Expr}{es:List Expr}{f:M D}{g:M (List D)}{apos cpos:Pos}(ho:PE X o (RE X.K f))(ha:PA X (e :: es) (RA X.K g))
 (hbase:attributeBase o "append" X.env (eval o X.env)=eval o X.env:=by rfl)
 (hfew:((backTo cpos (starEach (e :: es) X.env)).all (λx=>!x.1) && (backToKw cpos (keywordEach [] X.env)).all (λx=>x.1.isSome) && decide ((e :: es).length + ([]:List Keyword).length + (if ([]:List Keyword).isEmpty then 0 else 1) < 30))=true:=by rfl)
 (hline:(apos.endLine == cpos.line)=true:=by rfl) (hs:starEach (e :: es) X.env=(false,eval e X.env) :: starEach es X.env:=by rfl) (hplain:(backTo cpos (starEach es X.env)).any (·.1)=false:=by rfl) :
 PE X (.Call (.Attribute o "append" apos) (e :: es) [] cpos) (RE X.K (objM Dt f g)):=
 AG (Kl ub8 PySem.F.slot_list_append PySem.F.type_list_append LJ ho ha hbase hfew hline hs hplain) λ_ _ _ q=>RE.objM OK q
def Zr (o i d:D):M Unit:=match o,i with
 | .obj k,.int j=>λt=>match t.S[k]? with
   | some (.lst xs)=>(ixN xs.length j).map λn=>((),{ t with S:=t.S.set k (.lst (xs.set n d)) })
   | _=>none
 | _,_=>fail
def stD (f g:M D)(d:D):M Unit:=bnd f λo=>bnd g λi=>Zr o i d
end
section
variable {X:Cx}{e a b tg iter elt:Expr}{ifs:List Expr}{pos:Pos}{scope:Scope}{N':List Str}{n:Nat}{fr:List Nat}{f:M (List D)}{st:D->M Unit}{tst:M Bool}{el:M D}
def Gv:M Bool:=ret true
theorem VB:PIf X [] (RT X.K Gv):=λpins s σ H Q I z9=>by
 obtain ⟨Oo,c,t,fi,r,t',eq,k⟩:=z9;exact Wv pins s σ H Q I (by cases eq;exact k H c fi .refl)
theorem VC {g:M Bool}(h:PT X e (RT X.K g)):PIf X [e] (RT X.K g):=Ww h
theorem GA (O:CmpOk X scope N' (Ff n fr))(hc:X.calm=true)(hi:PI X tg iter (RI X.K f))
 (hg:∀cl C s2 H2 fp,PG (Co X N' scope cl C s2 H2 fp) tg (RG X.K st)) (ht:∀cl C s2 H2 fp,PIf (Co X N' scope cl C s2 H2 fp) ifs (RT X.K tst)) (he:∀cl C s2 H2 fp,PE (Co X N' scope cl C s2 H2 fp) elt (RE X.K el))
 (hs:∀x,foldedSetIterable iter X.env x=pure x:=by intro _;rfl):PE X (.ListComp elt [⟨tg,iter,ifs,0⟩] scope pos) (RF X.K (B6 n fr f st tst el)):=
 AG (Lf O hc hi hg ht he hs) λ_ _ _ q=>RF.comp q
theorem FJ (tgs:List Str)(frn:List (Nat×Str))(hk:scope.kind = .function)(hcell:(scope.names.all λy=>y.2 != .cell)=true)(hloc:(scope.names.all λy=>y.2 != .local || scope.names.lookup y.1 == some .local)=true)
 (hfree:(scope.names.all λy=>y.2 != .free || X.env.kindOf y.1 == some .cell || X.env.kindOf y.1 == some .free)=true)
 (hf:(frn.all λp=>X.N[p.1]? == some p.2 && scope.names.lookup p.2 == some .free)=true):CmpOk X scope (tgs++frn.map (·.2)) (Ff tgs.length (frn.map (·.1))):=by
 rw [uh9] at hcell hloc hfree hf;refine ⟨hk,λy hy=>by simpa using hcell y hy,λy hy hl=>?_,λy hy hl=>?_,λσ _=>by simp [Ff],λσ j x v h1 h2=>?_⟩
 ·have:=hloc y hy;simpa [hl] using this
 ·have:=hfree y hy;simpa [hl] using this
 ·unfold Ff at h2
  by_cases hj:j < tgs.length
  ·rw [ua9 (by simpa using hj),ub5] at h2
   split at h2 <;> simp at h2
  ·rw [ua4 (by simpa using hj),ud3,ug1,ug1] at h2;rw [ua4 (by simpa using hj),ug1] at h1
   cases e:frn[j - tgs.length]? with
   | none=>rw [e] at h1;cases h1
   | some p=>
     rw [e] at h1 h2;simp only [uj5,ug7] at h1 h2;have hp:=hf p (ue0 e);rw [uh5] at hp;refine ⟨p.1,by rw [<-h1];simpa using hp.1,?_,by rw [<-h1];simpa using hp.2⟩
     cases e2:σ[p.1]? with
     | none=>rw [e2] at h2;cases h2
     | some o=>rw [e2] at h2;simpa using h2
end
mutual
noncomputable def Bw:D->Bool
 | .tup xs=>Hl xs
 | .lst xs=>Hl xs
 | .obj _=>false
 | .scr _=>false
 | .exc _ _=>false
 | _=>true
noncomputable def Hl:List D->Bool
 | []=>true
 | d :: r=>Bw d && Hl r
end
def c0:Cf:=⟨[],λ_=>False⟩
theorem HH (a:Addr):¬c0.A a:=λh=>h.elim (λz=>nomatch z) λz=>z
mutual
theorem D6 {K:PySem.W.Frag}{c:Cf}{H:Hp}{v:V}{d:D}(r:Rep K c H v d)(p:Bw d=true):Rep K c0 H v d:=by
 cases r with
 | non=>exact .non
 | bl b=>exact .bl b
 | int i=>exact .int i
 | str x=>exact .str x
 | ty n=>exact .ty n
 | tup h n r=>exact .tup h (HH _) (IT r (by simpa [Bw] using p))
 | lst h n r=>exact .lst h (HH _) (IT r (by simpa [Bw] using p))
 | scr h=>simp [Bw] at p
 | dic h n=>exact .dic h (HH _)
 | obj h=>simp [Bw] at p
 | exc _ _ _ _ _=>simp [Bw] at p
theorem IT {K:PySem.W.Frag}{c:Cf}{H:Hp}{vs:List V}{ds:List D}(r:Reps K c H vs ds)(p:Hl ds=true):Reps K c0 H vs ds:=by
 cases r with
 | nil=>exact .nil
 | cons h t=>
   simp only [Hl,uh5] at p;exact .cons (D6 h p.1) (IT t p.2)
end
noncomputable def F3 (S:List Ob):D->D
 | .obj k=>match S[k]? with
   | some (.lst ds)=>.lst ds
   | _=>.obj k
 | d=>d
noncomputable def Ty:D->Bool
 | .obj _=>true
 | _=>false
def eqS (g:Bool->Bool)(x y:D):M D:=λt=>
 if (Ty x || Ty y)=true then (if (Bw (F3 t.S x) && Bw (F3 t.S y))=true then (eqN EQD (F3 t.S x) (F3 t.S y)).map λb=>(.bl (g b),t) else none)
 else (eqN EQD x y).map λb=>(.bl (g b),t)
theorem Nw {c:Cf}{S:List Ob}{H:Hp}{v:V}{d:D}(s:SInv K c S H)(r:Rep K c H v d)(p:Bw (F3 S d)=true):Rep K c0 H v (F3 S d):=by
 cases r with
 | @obj a k hk=>
   unfold F3 at p ⊢;dsimp only at p ⊢
   split
   ·next ds e=>
    rw [e] at p;obtain ⟨vs,h1,h2⟩:=s.obs k a _ hk e;exact .lst h1 (HH _) (IT h2 (by simpa [Bw] using p))
   ·next h=>
    split at p
    ·next ds e=>exact absurd e (h ds)
    ·simp [Bw] at p
 | non=>exact .non
 | bl b=>exact .bl b
 | int b=>exact .int b
 | str b=>exact .str b
 | ty b=>exact .ty b
 | tup h n q=>exact D6 (.tup h n q) p
 | lst h n q=>exact D6 (.lst h n q) p
 | scr h=>exact D6 (c:=c) (.scr h) p
 | dic h n=>exact D6 (.dic h n) p
 | exc a b n f q=>exact D6 (.exc a b n f q) p
theorem IV {g:Bool->Bool}:Bm K (PV K g) (eqS g):=λ{Oo c t σ H x y dx dy r t' Q} f rx ry eq k=>by
 unfold eqS at eq
 split at eq
 ·split at eq
  ·next hp=>
   rw [uh5] at hp;obtain ⟨b,e1,e2⟩:=uc6.mp eq
   cases e2
   exact ⟨c0,_,_,b,Nw f.s rx hp.1,Nw f.s ry hp.2,e1,k _ H c f .refl (.bl (g b))⟩
  ·cases eq
 ·obtain ⟨b,e1,e2⟩:=uc6.mp eq
  cases e2
  exact ⟨c,dx,dy,b,rx,ry,e1,k _ H c f .refl (.bl (g b))⟩
theorem Q9 {H:Hp}{a:Addr}{ns:List Int}{f:Fn}{S':List Ob}(hO:O4 H)(hS:SqL K H a (ns.map V.int))(e:f [.scr ns] []=some (.bl true,S')):spF K f [.ref a] H (λv _=>v = .bl true) λ_ _ _=>False:=by
 refine ⟨c0,[.scr ns],[],⟨rfl,List.Pairwise.nil,λk a o h=>by simp [c0] at h,λb z=>z.elim,λb z=>z.elim⟩,.cons (.scr ?_) .nil,.bl true,S',e,λv H' c' _ _ _ rv=>by cases rv;rfl⟩;rcases hS with (h | h) | h
 ·rcases hO a with z | ⟨o,xs,z⟩
  ·rw [z] at h;cases h
  ·rw [z] at h;cases h
 ·exact .inl ⟨h,HH _⟩
 ·exact .inr h
end F2
namespace L2
open PySem PySem.Spec PyProof.Rows
section
variable {prog:Program}{w:World}{A:Around}{E:Value->Shared->Prop}{s:Shared}
theorem J2 {it l:Addr}{items:Array Value}(hne:l≠it):∀(n i:Nat) (s:Shared) (Q:List Value->Shared->Prop),s.heap.IsListIter it l i->s.heap.IsList l items->i + n<=items.size->
 (∀h',h'.IsListIter it l (i + n)->Heap.SameBut it s.heap h'->Q ((items.toList.drop i).take n) { s with heap:=h' })->wpAny (model prog w) A (draw (.ref it) n) Q E s
 | 0,i,s,Q,hit,_,_,hQ=>un3 (by simpa using hQ s.heap hit (Heap.SameBut.refl ..))
 | n + 1,i,s,Q,hit,ht,hle,hQ=>by
   have hlt:i < items.size:=by lia
   refine un2 (wpAny_pyNext_list_item hit ht (x:=items[i]) (by simp [hlt]) λh1 hit1 hs1=>?_);refine un2 (ul7 (J2 hne n (i + 1) _ _ hit1 (ht.extBut hs1.extBut hne) (by lia) λh2 hit2 hs2=>un3 ?_));have hd:items.toList.drop i=items[i] :: items.toList.drop (i + 1):=by simp [ub0,hlt]
   have:=hQ h2 (by rw [show i + (n + 1)=i + 1 + n by lia];exact hit2) (hs1.trans hs2);rw [hd,ue8] at this;exact this
theorem NK {l:Addr}{items:Array Value}{targets:List (Bool×(Value->Sem Unit))}{Q:Unit->Shared->Prop}(hh:A.handled=none)(ht:s.heap.IsList l items)(hn:targets.length=items.size)(hstar:targets.findIdx? (·.1)=none)
 (h:∀h',Heap.ExtBut s.heap.objs.size s.heap h'->wpAny (model prog w) A (assignInOrder (targets.map (·.2)) items.toList) Q E { s with heap:=h' }):wpAny (model prog w) A (unpack (.ref l) targets) Q E s:=by
 have hlt:l≠s.heap.objs.size:=by obtain ⟨o,ho,_⟩:=ht;exact ul9 (ul8 ho)
 unfold unpack;rw [hn,hstar];refine un2 (ul7 ?_);unfold unpackItems;refine un2 ?_;unfold notIterableAtAll;refine un2 (wpAny_specialOf ht.typeIs PySem.F.slot_list_iter.lookup ?_);refine un3 ?_;simp only [uf5,if_false];refine un2 (ul7 (wpAny_pyIter_list ht ?_));have hp:Heap.IsList (s.heap.push { cls:=.type "list_iterator",data:=.fields #[.ref l,.int 0 0] }) l items:=by
  obtain ⟨o,ho,r⟩:=ht;exact ⟨o,uc2 _ ho,r⟩
 refine un2 (ul7 (J2 hlt items.size 0 _ _ ⟨_,ue3 _ rfl,rfl,rfl⟩ hp (by lia) λh1 hit1 hs1=>?_));have hall:List.take items.size (List.drop 0 items.toList)=items.toList:=by
  rw [uk5];exact uc7 (by simp)
 rw [hall];rw [if_neg (by simp)];have ht1:Heap.IsList h1 l items:=hp.extBut hs1.extBut hlt;refine un2 (ul7 (wpAny_pyNext_list_end hh hit1 ht1 (by simp) λh2 he2=>?_));simp only [Option.isSome_none,uf5,if_false];exact un3 (h h2 λb o hb e=>he2 b o hb (hs1.extBut b o hb (uc2 _ e)))
end
section
variable {X:Cx}{pos:Pos}
def gUn (K:PySem.W.Frag)(n:Nat)(t:TGs):TG:=λv σ H Q=>∃a xs,v = .ref a/\(SqT K H a xs\/SqL K H a xs)/\xs.length=n/\t xs σ H Q
theorem ax {es:List Expr}{k:Nat}{t:TGs}{n:Nat}(hc:X.calm=true)(h:PGs X es t)
 (hn:(assignEach es X.env).length=n:=by rfl) (hst:(assignEach es X.env).findIdx? (·.1)=none:=by rfl):PG X (.Tuple es k pos) (gUn X.K n t):=by
 intro pins s σ H v u Q I r hw;obtain ⟨a,xs,e1,hq | hq,hl,hw⟩:=hw
 ·exact YU hc h hn hst pins s σ H v u Q I r ⟨a,xs,e1,hq,hl,hw⟩
 ·subst e1
  cases r
  obtain ⟨its,rv,ht,hz⟩:=I.list hq;rw [assign_Tuple];refine un2 (wpAny_standAt (NK (I.ok.hd hc) ht.isList (by simp [hn,<-hl,rv.length]) hst λh' hx=>?_));have I1:Inv X pins σ H { s with heap:=h' }:=I.kept (t':=s.toks) λb o e=>hx b o (ul9 (ul8 e)) e;exact h pins _ σ H xs _ Q I1 (by simpa using rv) hw
end
section
open HT
variable {prog:Program}{w:World}{A:Around}{E:Value->Shared->Prop}{s:Shared}
theorem Hz {t sl:Addr}{items:Array Value}{vl vu:Value}{lo hi:Option Int}{Q:Value->Shared->Prop}(ht:IsTup s.heap t items)(hs:s.heap.IsSliceOf sl vl vu .none)(pl:IsPart vl lo)(pu:IsPart vu hi)
 (hw:sIx items.size 0 lo=0/\sIx items.size items.size hi=items.size) (h:Q (.ref t) s):wpAny (model prog w) A (getItem (.ref t) (.ref sl)) Q E s:=by
 obtain ⟨os,hos,hcs,hds⟩:=id hs;have hTs:s.TypeIs (.ref sl) "slice":=⟨os,hos,hcs⟩;unfold getItem
 try with_reducible refine ul7 ?_
 first | refine un2 (un3 ?_) | skip
 refine un2 (wpAny_sequenceKey ht.typeIs (by decide) ?_);refine un2 (wpAny_callSpecial?_slot (name:=Str.ofString "__getitem__") ht.typeIs ua0
  (wpAny_call_entry ua0 ht.typeIs entry_tuple_getitem ?_ (args_tuple_getitem _ _)))
 show wpAny _ _ (Builtin.Tuple.tupleItemsOf (.ref t) >>= _) _ _ s;refine un2 (tupleItemsOf_ ht ?_);refine un2 (wpAny_typeOf hTs ?_);rw [if_pos (by decide)];refine un2 (F5 hs pl pu ?_);have hyes:(((sIx items.size 0 lo:Nat):Int) == 0 && (1:Int) == 1 && (sIx items.size items.size hi - sIx items.size 0 lo) == items.size)=true:=by
  rw [hw.1,hw.2];simp
 show wpAny _ _ (if (((sIx items.size 0 lo:Nat):Int) == 0 && (1:Int) == 1 && (sIx items.size items.size hi - sIx items.size 0 lo) == items.size)=true then _ else _) _ _ s;rw [if_pos hyes];refine un2 (m:=Builtin.Tuple.tupleIsExact _) ?_;unfold Builtin.Tuple.tupleIsExact;refine un2 (wpAny_typeOf ht.typeIs (un3 ?_));rw [if_pos (by decide)]
 first
  | exact un2 (wpAny_rule (un3 ⟨_,rfl,un3 h⟩))
  | exact un2 (wpAny_rule (un2 (un3 (un3 ⟨_,rfl,un3 h⟩))))
end
section
variable {X:Cx}
def Zh (K:PySem.W.Frag):V->Option Int->Option Int->Hp->VK->Prop:=λx lo hi H Q=>∃a xs,x = .ref a/\SqT K H a xs/\(HT.sIx xs.length 0 lo=0/\HT.sIx xs.length xs.length hi=xs.length)/\Q (.ref a) H
theorem Xa:SlR X (Zh X.K):=by
 intro pins s σ H x v vl vu lo hi sl Q I rx hs pl pu h;obtain ⟨a,xs,rfl,hx,hw,q⟩:=h
 cases rx
 obtain ⟨its,r,ht,hz⟩:=I.tuple hx;have hlen:its.toArray.size=xs.length:=by rw [ug0];exact r.length.symm
 exact ⟨"tuple",_,ua0.lookup,ht.typeIs,Hz ht hs pl pu (by rw [hlen];exact hw) ⟨.ref a,H,I,rfl,q⟩⟩
end
noncomputable def Its (z:Str):It:=⟨λi _=>i < z.cps.size,λi H x H'=>H'=H/\∃c,z.cps[i]?=some c/\x = .str ⟨#[c]⟩,λi _=>i=z.cps.size⟩
theorem NJ {P:Program}{w:World}{K:PySem.W.Frag}{tg:Expr}{T:String}{x:Str}{t:Tok}(it:Addr)(hT:["enumerate", "zip", "dict_itemiterator", "dict_reverseitemiterator", "odict_iterator", "itertools.zip_longest", "itertools.pairwise"].contains T=false)
 (W:∀A:Around,A.handled=none->Walks P w A it [it] [it] x.cps.size (SignAt x) (λi h=>h.IsStrIter it T x t i))
 (self:∀(A:Around) (i:Nat) (s:Shared) (Q:Value->Shared->Prop) (E:Value->Shared->Prop),s.heap.IsStrIter it T x t i->Q (.ref it) s->wpAny (model P w) A (pyIter (.ref it)) Q E s) :
 Turn P w K tg (Its x) [it] it (λi h=>h.IsStrIter it T x t i) where
 mem:=by simp
 obj:=λi h st b hb=>by
  have e:b=it:=by simpa using hb
  subst e;obtain ⟨o,e,c,d⟩:=st;exact ⟨o,e,λv z=>by rw [d] at z;cases z⟩
 keep:=λi h h' st k=>by
  obtain ⟨o,e,r⟩:=st;exact ⟨o,k it (by simp) o e,r⟩
 item:=by
  intro X hP hw hK hc i pins s σ H E I hf st hg;subst hP hw hK;obtain ⟨f0,f1,f2,f3,f4,f5⟩:=hf it (by simp);refine (W X.A (I.ok.hd hc)).item i s _ _ hg st λv h' tk hv st' kk=>?_;obtain ⟨c,u,hcc,rfl⟩:=hv;have I1:Inv X pins σ H { s with heap:=h',toks:=tk }:=I.turned (λb o hb e=>kk b o (by simpa using hb) e) f0 f1 f3 f4 f5;obtain ⟨o,e,ec,ed⟩:=id st';exact ⟨_,rfl,Me (s:={ s with heap:=h',toks:=tk }) e ec ed hT ⟨.str ⟨#[c]⟩,H,I1,⟨u,rfl⟩,⟨rfl,c,hcc,rfl⟩,st',λb hb=>(hf b hb).1⟩⟩
 done:=by
  intro X hP hw hK hc i pins s σ H E I hf st hg;subst hP hw hK;obtain ⟨f0,f1,f2,f3,f4,f5⟩:=hf it (by simp);have hg':i=x.cps.size:=hg;subst hg';exact (W X.A (I.ok.hd hc)).done s _ _ st λh' tk kk=>⟨rfl,I.turned (λb o hb e=>kk b o (by simpa using hb) e) f0 f1 f3 f4 f5⟩
 self:=λA i s Q E st h=>self A i s Q E st h
section
variable {X:Cx}{tg:Expr}{pos:Pos}
def cq (K:PySem.W.Frag)(tl:TE):TI:=λσ H R=>tl σ H λx H1=>(∃a,x = .ref a/\(∃xs,SqL K H1 a xs)/\R (Itl K a) H1)\/(∃a,x = .ref a/\(∃xs,SqT K H1 a xs)/\R (Itt K a) H1)\/∃z,x = .str z/\R (Its z) H1
theorem Rz {l:Expr}{tl:TE}(hl:PE X l tl):PI X tg l (cq X.K tl):=by
 intro pins s σ H R I h;refine thn (hl pins s σ H _ I h) λv s1 z9=>?_;obtain ⟨x,H1,I1,r1,q1⟩:=z9;have fp:∀b∈[s1.heap.objs.size],FpOk X pins H1 b:=λb hb=>by
  have e:b=s1.heap.objs.size:=by simpa using hb
  subst e;exact I1.fpOk (um8 _) (I1.hok.fresh (um8 _))
 rcases q1 with ⟨a,rfl,⟨xs,hq⟩,q⟩ | ⟨a,rfl,⟨xs,hq⟩,q⟩ | ⟨z,rfl,q⟩
 ·cases r1
  obtain ⟨its,rv,p,hz⟩:=I1.list hq;refine wpAny_pyIter_list p.isList ?_;exact ⟨s1.heap.objs.size,[s1.heap.objs.size],_,_,H1,rfl,I1.kept (t':=s1.toks) λb o e=>uc2 _ e,Sm a _,⟨_,ue3 _ rfl,rfl,rfl⟩,fp,q⟩
 ·cases r1
  obtain ⟨its,rv,p,hz⟩:=I1.tuple hq;refine wpAny_pyIter_tuple (show s1.heap.IsTuple a its.toArray from p) ?_;exact ⟨s1.heap.objs.size,[s1.heap.objs.size],_,_,H1,rfl,I1.kept (t':=s1.toks) λb o e=>uc2 _ e,P8 a _,⟨_,ue3 _ rfl,rfl,rfl⟩,fp,q⟩
 ·obtain ⟨t,rfl⟩:=r1
  cases ha:z.cps.all (· < 128)
  ·refine wpAny_pyIter_wide ha ?_;exact ⟨s1.heap.objs.size,[s1.heap.objs.size],_,_,H1,rfl,I1.kept (t':=s1.toks) λb o e=>uc2 _ e,NJ (T:="str_iterator") (x:=z) (t:=t) _ (by decide) (λA hA=>Walks.strWide hA _ z t) (λ_ _ _ _ _ st h=>wpAny_pyIter_striter_wide st h),⟨_,ue3 _ rfl,rfl,rfl⟩,fp,q⟩
  ·refine wpAny_pyIter_ascii ha ?_;exact ⟨s1.heap.objs.size,[s1.heap.objs.size],_,_,H1,rfl,I1.kept (t':=s1.toks) λb o e=>uc2 _ e,NJ (T:="str_ascii_iterator") (x:=z) (t:=t) _ (by decide) (λA hA=>Walks.strAscii hA _ z t) (λ_ _ _ _ _ st h=>wpAny_pyIter_striter_ascii st h),⟨_,ue3 _ rfl,rfl,rfl⟩,fp,q⟩
def U6:R2:=λx y H Q=>∃z k,x = .str z/\y = .int k/\MulOk z k/\Q (.str (Txt.mul z k)) H
theorem Wh:OpR X (binaryOp .Mult) U6:=by
 intro pins s σ H x y v u Q I rx ry h;obtain ⟨z,k,rfl,rfl,hk,q⟩:=h;obtain ⟨t,rfl⟩:=rx;obtain ⟨t',rfl⟩:=ry;exact SB.mul hk λt2 tk=>⟨.str _,H,I.tok tk,⟨t2,rfl⟩,q⟩
def Zf:V->Option Int->Option Int->Hp->VK->Prop:=λx lo hi H Q=>∃z,x = .str z/\z.length<=sizeLine/\Q (.str (Txt.slice z lo hi)) H
theorem sl_str:SlR X Zf:=by
 intro pins s σ H x v vl vu lo hi sl Q I rx hs pl pu h;obtain ⟨z,rfl,hz,q⟩:=h;obtain ⟨t,rfl⟩:=rx;refine ⟨"str",_,PySem.F.slot_str_getitem.lookup,typeIs_str _ _ _,?_⟩;have part:∀{v:Value} {o:Option Int},IsPart v o->∃l:Option (Int×Tok),v=partValue l/\l.map (·.1)=o:=λ{v o} p=>by
  cases p with
  | none=>exact ⟨none,rfl,rfl⟩
  | int i t=>exact ⟨some (i,t),rfl,rfl⟩
 obtain ⟨l,rfl,el⟩:=part pl;obtain ⟨u,rfl,eu⟩:=part pu;refine wpAny_getItem_str_slice (l:=l) (u:=u) (st:=none) (by obtain ⟨o,h1,h2,h3⟩:=hs;exact ⟨o,h1,h2,h3⟩) rfl ?_;unfold sliceMade slicePicked;rw [el,eu];show (if ((1:Int) == 1 && (Builtin.Str.strSliceIndices lo hi 1 z.length).length == z.length)=true then Made.val (.str z t) else Made.str ⟨((Builtin.Str.strSliceIndices lo hi 1 z.length).filterMap (z.cps[·]?)).toArray⟩).post _ s;have hle:=Txt.slice_le z lo hi;unfold Txt.slice at q hle
 by_cases hc:((1:Int) == 1 && (Builtin.Str.strSliceIndices lo hi 1 z.length).length == z.length)=true
 ·rw [if_pos hc] at q ⊢;exact ⟨.str z,H,I,⟨t,rfl⟩,q⟩
 ·rw [if_neg hc] at q hle ⊢;exact ⟨um0 hle hz,.str _,H,I.tok _,⟨_,rfl⟩,q⟩
def Hm (g:Int->Int->Bool)(h:List Nat->List Nat->Bool):R2:=λx y H Q=>(∃i j,x = .int i/\y = .int j/\Q (.bl (g i j)) H)\/∃i j,x = .str i/\y = .str j/\Q (.bl (h i.cps.toList j.cps.toList)) H
theorem YC:OpR X (compareOp .Lt) (Hm (λi j=>decide (i < j)) λi j=>decide (i < j)):=op_lt.or λpins s σ H x y v u Q I rx ry h=>by
 obtain ⟨i,j,rfl,rfl,q⟩:=h;obtain ⟨t,rfl⟩:=rx;obtain ⟨t',rfl⟩:=ry;exact P.lt_str ⟨.bl _,H,I,rfl,q⟩
theorem Rv:OpR X (compareOp .LtE) (Hm (λi j=>decide (i<=j)) λi j=>!(decide (j < i))):=op_le.or λpins s σ H x y v u Q I rx ry h=>by
 obtain ⟨i,j,rfl,rfl,q⟩:=h;obtain ⟨t,rfl⟩:=rx;obtain ⟨t',rfl⟩:=ry;exact P.le_str ⟨.bl _,H,I,rfl,q⟩
theorem YA:OpR X (compareOp .Gt) (Hm (λi j=>decide (j < i)) λi j=>decide (j < i)):=op_gt.or λpins s σ H x y v u Q I rx ry h=>by
 obtain ⟨i,j,rfl,rfl,q⟩:=h;obtain ⟨t,rfl⟩:=rx;obtain ⟨t',rfl⟩:=ry;exact P.gt_str ⟨.bl _,H,I,rfl,q⟩
theorem Yz:OpR X (compareOp .GtE) (Hm (λi j=>decide (j<=i)) λi j=>!(decide (i < j))):=op_ge.or λpins s σ H x y v u Q I rx ry h=>by
 obtain ⟨i,j,rfl,rfl,q⟩:=h;obtain ⟨t,rfl⟩:=rx;obtain ⟨t',rfl⟩:=ry;exact P.ge_str ⟨.bl _,H,I,rfl,q⟩
end
end L2
namespace F2
open PySem L2 PySem.Spec
def DG:D->M (List D)
 | .lst ds=>ret ds
 | .scr ns=>ret (ns.map .int)
 | .tup ds=>ret ds
 | .str x=>ret (x.cps.toList.map λc=>.str ⟨#[c]⟩)
 | _=>fail
def DX (f:M D):M (List D):=bnd f DG
def DZ:D->D->M D
 | .str x,.int k=>λt=>if CF k=true/\x.length * k.toNat<=LIM/\k<=LIM/\x.length<=LIM then some (.str (Txt.mul x k),t) else none
 | x,y=>Jx x y
def DO:D->Option Int->Option Int->M D
 | .str x,lo,hi=>lim x.length (.str (Txt.slice x lo hi))
 | .tup ds,lo,hi=>ret (.tup (Bx ds lo hi))
 | x,lo,hi=>slD x lo hi
def MQ (g:Int->Int->Bool)(h:List Nat->List Nat->Bool):D->D->M D
 | .int i,.int j=>ret (.bl (g i j))
 | .str x,.str y=>ret (.bl (h x.cps.toList y.cps.toList))
 | _,_=>fail
def ltA:=MQ (λi j=>decide (i < j)) (λi j=>decide (i < j))
def leA:=MQ (λi j=>decide (i<=j)) (λi j=>!(decide (j < i)))
def gtA:=MQ (λi j=>decide (j < i)) (λi j=>decide (j < i))
def geA:=MQ (λi j=>decide (j<=i)) (λi j=>!(decide (i < j)))
def unS (n:Nat)(g:List D->M Unit):D->M Unit
 | .tup ds=>if ds.length=n then g ds else fail
 | .lst ds=>if ds.length=n then g ds else fail
 | _=>fail
def bZ:M D:=fC .dic
variable {tg:Expr}{K:PySem.W.Frag}{n:Nat}{g:List D->M Unit}{es:List Expr}
section
variable {X:Cx}{e a b:Expr}{pos:Pos}{st:Stmt}
theorem ItOk.str {K:PySem.W.Frag}{c:Cf}{H:Hp}{x:Str}:ItOk K (Its x) c H (x.cps.toList.map λc=>.str ⟨#[c]⟩):=by
 refine ⟨λc' H' i ex hi=>?_,λc' H' i y H'' d ex hd hy=>?_,λc' H' ex=>?_⟩
 ·show i < x.cps.size;simpa using hi
 ·obtain ⟨rfl,n,hn,rfl⟩:=hy;refine ⟨rfl,?_⟩;have:d = .str ⟨#[n]⟩:=by
   rw [ug1] at hd;have hn':x.cps.toList[i]?=some n:=by simpa using hn
   rw [hn'] at hd;simpa using hd.symm
  rw [this];exact .str _
 ·show _=x.cps.size;simp
theorem X7 {f:M D}(h:PE X e (RE X.K f)):PI X tg e (RI X.K (DX f)):=
 HD (Rz h) λσ H R z9=>by
  obtain ⟨Oo,c,t,fi,ds,t',eq,k⟩:=z9;obtain ⟨d,t1,e1,eq⟩:=Ae eq;refine ⟨Oo,c,t,fi,d,t1,e1,λv H1 c1 f1 s1 rv=>?_⟩
  cases rv with
  | @lst p vs ds' h1 h2 h3=>
    cases eq
    exact .inl ⟨p,rfl,⟨vs,SqL.of h1⟩,k _ H1 c1 f1 s1 (ItOk.lst λc' H' ex=>⟨vs,SqL.of (ex.keep _ _ h1 h2),h3.mono ex⟩)⟩
  | @scr p ns h1=>
    cases eq
    exact .inl ⟨p,rfl,⟨_,h1.sq⟩,k _ H1 c1 f1 s1 (ItOk.lst λc' H' ex=>⟨_,(h1.mono ex).sq,Reps.ints ns⟩)⟩
  | @tup p vs ds' h1 h2 h3=>
    cases eq
    exact .inr (.inl ⟨p,rfl,⟨vs,SqT.of h1⟩,k _ H1 c1 f1 s1 (ItOk.tup λc' H' ex=>⟨vs,SqT.of (ex.keep _ _ h1 h2),h3.mono ex⟩)⟩)
  | str x=>
    cases eq
    exact .inr (.inr ⟨x,rfl,k _ H1 c1 f1 s1 ItOk.str⟩)
  | _=>cases eq
theorem RG.un {v:V}{σ:L2.St}{H:Hp}{Q:L2.St->Hp->Prop}(q:RG K (unS n g) v σ H Q):gUn K n (RGs K g) v σ H Q:=by
 obtain ⟨Oo,c,t,d,fi,rv,t',eq,k⟩:=q
 cases rv with
 | @tup a vs ds h1 h2 h3=>
   unfold unS at eq
   by_cases hn:ds.length=n
   ·dsimp only at eq;rw [if_pos hn] at eq;exact ⟨a,vs,rfl,.inl (SqT.of h1),by rw [h3.length];exact hn,Oo,c,t,ds,fi,h3,t',eq,k⟩
   ·dsimp only at eq;rw [if_neg hn] at eq;cases eq
 | @lst a vs ds h1 h2 h3=>
   unfold unS at eq
   by_cases hn:ds.length=n
   ·dsimp only at eq;rw [if_pos hn] at eq;exact ⟨a,vs,rfl,.inr (SqL.of h1),by rw [h3.length];exact hn,Oo,c,t,ds,fi,h3,t',eq,k⟩
   ·dsimp only at eq;rw [if_neg hn] at eq;cases eq
 | _=>cases eq
theorem Z7 {k:Nat}(hc:X.calm=true)(h:PGs X es (RGs X.K g))(hn:(assignEach es X.env).length=n:=by rfl)(hst:(assignEach es X.env).findIdx? (·.1)=none:=by rfl):PG X (.Tuple es k pos) (RG X.K (unS n g)):=
 Mq (ax hc h hn hst) λ_ _ _ _ q=>RG.un q
theorem Tf {f:D->M Unit}(h1:PG X e (RG X.K f))(h2:PGs X es (RGs X.K g))(hs:(assignEach (e :: es) X.env).map (·.2)=assign e X.env :: (assignEach es X.env).map (·.2):=by rfl):PGs X (e :: es) (RGs X.K (AN f g)):=
 N1 (Ub h1 h2 hs) λ_ _ _ _ q=>RGs.cons q
end
section
variable {K:PySem.W.Frag}
def U5 (K:PySem.W.Frag):R2:=λx y H Q=>PX K x y H Q\/U6 x y H Q
theorem Wg {X:Cx}:OpR X (binaryOp .Mult) (U5 X.K):=op_mul3.or Wh
theorem NS {x:Str}{k:Int}(h:CF k=true/\x.length * k.toNat<=LIM/\k<=LIM/\x.length<=LIM):MulOk x k:=by
 obtain ⟨g1,g2⟩:=Es h.1;have hL:LIM=100000:=rfl;refine ⟨?_,λh1 _=>?_,λh1 _=>?_⟩
 ·rw [Bool.or_eq_false_iff];exact ⟨uk1 (by lia),uk1 (by lia)⟩
 ·have h2:k<=100000:=by have:=h.2.2.1;rw [hL] at this;exact this
  have h3:x.length<=100000:=by have:=h.2.2.2;rw [hL] at this;exact this
  have h4:(92233720368547:Int)<=(2 ^ 63 - 1) / k:=by
   rw [Int.le_ediv_iff_mul_le (by lia)];lia
  lia
 ·have h5:=h.2.1;rw [hL] at h5;unfold Builtin.Str.tooLong
  first | exact uk1 (by unfold sizeLine;lia) | (unfold sizeLine;exact uk1 (by lia))
theorem Uq:Bm K (U5 K) DZ:=λ{Oo c t σ H x y dx dy r t' Q} f rx ry eq k=>by
 unfold DZ at eq
 split at eq
 ·next z kk=>
  split at eq
  ·next h=>
   cases eq
   cases rx
   cases ry
   exact .inr ⟨z,kk,rfl,rfl,NS h,k _ H c f .refl (.str _)⟩
  ·cases eq
 ·exact .inl (WY f rx ry eq k)
def Ui (K:PySem.W.Frag):V->Option Int->Option Int->Hp->VK->Prop:=λx lo hi H Q=>Uh K x lo hi H Q\/(Zf x lo hi H Q\/Zh K x lo hi H Q)
theorem sl3 {X:Cx}:SlR X (Ui X.K):=sl2.or (sl_str.or Xa)
theorem Pi {α:Type}{xs:List α}{lo hi:Option Int}(h:HT.sIx xs.length 0 lo=0/\HT.sIx xs.length xs.length hi=xs.length):Bx xs lo hi=xs:=by
 unfold Bx;rw [h.1,h.2];simp
theorem ON:O8 K (Ui K) DO:=λ{Oo c t σ H x dx r lo hi t' Q} f rx eq k=>by
 unfold DO at eq
 split at eq
 ·next z=>
  obtain ⟨h,e⟩:=Ed eq
  cases e
  cases rx
  exact .inr (.inl ⟨z,rfl,um0 h BU,k _ H c f .refl (.str _)⟩)
 ·next ds=>
  cases eq
  cases rx with
  | @tup p vs ds h1 h2 h3=>
    by_cases hw:HT.sIx ds.length 0 lo=0/\HT.sIx ds.length ds.length hi=ds.length
    ·rw [Pi hw] at k;exact .inr (.inr ⟨p,vs,rfl,SqT.of h1,by rw [h3.length];exact hw,k _ H c f .refl (.tup h1 h2 h3)⟩)
    ·exact .inl (.inr ⟨p,vs,rfl,SqT.of h1,by rw [h3.length];exact hw,λq hq=>k _ _ c (f.laid hq) (f.stp_laid hq) (.tup Aj (f.s.free hq) ((Hn h3 lo hi).mono (Ext.laid f.s hq)))⟩)
 ·exact .inl (Zn f rx eq k)
theorem IU {g:Int->Int->Bool}{h:List Nat->List Nat->Bool}:Bm K (Hm g h) (MQ g h):=λ{Oo c t σ H x y dx dy r t' Q} f rx ry eq k=>by
 cases rx with
 | int i=>cases ry with
   | int j=>cases eq;exact .inl ⟨i,j,rfl,rfl,k _ H c f .refl (.bl _)⟩
   | _=>cases eq
 | str i=>cases ry with
   | str j=>cases eq;exact .inr ⟨i,j,rfl,rfl,k _ H c f .refl (.bl _)⟩
   | _=>cases eq
 | _=>cases eq
theorem WW:Bm K (Hm (λi j=>decide (i < j)) λi j=>decide (i < j)) ltA:=IU
theorem OM:Bm K (Hm (λi j=>decide (i<=j)) λi j=>!(decide (j < i))) leA:=IU
theorem WQ:Bm K (Hm (λi j=>decide (j < i)) λi j=>decide (j < i)) gtA:=IU
theorem WP:Bm K (Hm (λi j=>decide (j<=i)) λi j=>!(decide (i < j))) geA:=IU
end
variable {fa:Addr}{fd:FuncData}
theorem X9 {P:Program}{w:World}{mg:Str->Option Value}{base:Heap}{x qual:Str}{st:Stmt}{N ps:List Str}{k m:Nat}{g:M Out}(e1:ps.length=n)(e2:N.length=m)(F:Fun K x qual st fa fd)(S:FnScope N ps (Al st))
 (hb:∀(cdv:Value) (A:Around) (outer:List Env) (s:Shared) (H:Hp) (E:XK),Room k (A.deeper (PyProof.Rows.envOfC qual (Al st) s.heap.objs.size fa cdv))->
   PSs (DB CX0 P w K mg base N qual (Al st) fa cdv A outer s H E).nox (Be st) (RS K g)):FnOk P w K mg base CX0 (k + 1) fa fd ps (spF K (fnOf n m g)):=by
 subst e1 e2;exact ac F S hb
theorem Zj {P:Program}{w:World}{mg:Str->Option Value}{base:Heap}{ps:List Str}{k:Nat}{f g:Fn}(e:f=g)(h:FnOk P w K mg base CX0 k fa fd ps (spF K g)):FnOk P w K mg base CX0 k fa fd ps (spF K f):=by rw [e];exact h
theorem XB:bootBuiltins "len" = some (.builtin "len"):=by decide +kernel
theorem LU:bootBuiltins "isinstance" = some (.builtin "isinstance"):=by decide +kernel
theorem XC:bootBuiltins "ord" = some (.builtin "ord"):=by decide +kernel
theorem Qp:bootBuiltins "int" = some (.type "int"):=by decide +kernel
theorem XD:bootBuiltins "str" = some (.type "str"):=by decide +kernel
theorem Vl:bootBuiltins "bool" = some (.type "bool"):=by decide +kernel
theorem N5:bootBuiltins "list" = some (.type "list"):=by decide +kernel
theorem SQ:bootBuiltins "tuple" = some (.type "tuple"):=by decide +kernel
noncomputable def AY:Expr->Bool
 | .Starred _ _=>true
 | _=>false
theorem A8 {e:Expr}{env:Env}(h:AY e=false):starEach (e :: es) env=(false,eval e env) :: starEach es env:=by
 cases e <;> first | rfl | cases h
def A4 (es:List Expr):Bool:=es.all λe=>!AY e
theorem AZ:∀{es:List Expr} {env:Env} {p:Pos},A4 es=true->(backTo p (starEach es env)).any (·.1)=false/\(backTo p (starEach es env)).all (λx=>!x.1)=true
 | [],env,p,_=>⟨rfl,rfl⟩
 | e :: es,env,p,h=>by
   have h':AY e=false/\A4 es=true:=by
    rw [A4,ul2,uh5] at h;exact ⟨by simpa using h.1,h.2⟩
   obtain ⟨h1,h2⟩:=AZ (es:=es) (env:=env) (p:=p) h'.2;rw [A8 h'.1];refine ⟨?_,?_⟩
   ·show (false || (backTo p (starEach es env)).any (·.1))=false;rw [h1];rfl
   ·show (!false && (backTo p (starEach es env)).all (λx=>!x.1))=true;rw [h2];rfl
variable {f:M (List D)}{p:Pos}{id:String}{R:List V->Hp->VK->Prop}
section
variable {X:Cx}{e a b:Expr}{es:List Expr}{pos:Pos}
theorem SZ {f:M D}{g:M (List D)}(ha:PE X e (RE X.K f))(hr:PA X es (RA X.K g))(hs:AY e=false:=by rfl):PA X (e :: es) (RA X.K (Ab f g)):=Vq ha hr (A8 hs)
theorem Jq {k:Nat}{ps:List Str}{g:Fn}{x:Str}(F:FnOk X.prog X.w X.K X.mg X.base CX0 k fa fd ps (spF X.K g))(hr:Room k X.A)(hg:Gl X x)(hm:X.mg x=some (.ref fa))(hk:PySem.W.keepIn X.K (.ref fa)=true)(hb:Binds X.K fd ps [])
 (ha:PA X (e :: es) (RA X.K f)) (hdb:(x == ("__debug__" : Str))=false:=by decide) (h1:AY e=false:=by rfl) (h2:A4 es=true:=by rfl) :
 PE X (.Call (.Name x p) (e :: es) [] pos) (RE X.K (Ai g f)):=Vr F hr hg hm hk hb ha hdb (A8 h1) (AZ h2).1
theorem Pn {h:List D->M D}{x:Str}(hc:Dw X (.builtin id) R)(s:GV X.K R h)(hg:Gl X x)(hm:X.mg x=none)(hv:bootBuiltins x=some (.builtin id))(ha:PA X (e :: es) (RA X.K f))(hn:x≠"__name__":=by decide)(hdb:(x == ("__debug__" : Str))=false:=by decide)
 (h1:AY e=false:=by rfl) (h2:A4 es=true:=by rfl):PE X (.Call (.Name x p) (e :: es) [] pos) (RE X.K (fB f h)):=b4 hc s hg hm hv ha hn hdb (A8 h1) (AZ h2).1
theorem ZZ {h:List D->M D}{x:Str}(hc:Dw X (.type id) R)(s:GV X.K R h)(hg:Gl X x)(hm:X.mg x=none)(hv:bootBuiltins x=some (.type id))(ha:PA X (e :: es) (RA X.K f))(hn:x≠"__name__":=by decide)(hdb:(x == ("__debug__" : Str))=false:=by decide)
 (h1:AY e=false:=by rfl) (h2:A4 es=true:=by rfl):PE X (.Call (.Name x p) (e :: es) [] pos) (RE X.K (fB f h)):=b5 hc s hg hm hv ha hn hdb (A8 h1) (AZ h2).1
theorem Z5 {h:List D->M (List D)}{x:Str}(hc:Dw X (.type id) R)(s:L8 X.K R h)(hg:Gl X x)(hm:X.mg x=none)(hv:bootBuiltins x=some (.type id))(ha:PA X (e :: es) (RA X.K f))(hn:x≠"__name__":=by decide)(hdb:(x == ("__debug__" : Str))=false:=by decide)
 (h1:AY e=false:=by rfl) (h2:A4 es=true:=by rfl):PE X (.Call (.Name x p) (e :: es) [] pos) (RF X.K (fBF f h)):=b6 hc s hg hm hv ha hn hdb (A8 h1) (AZ h2).1
theorem Po (hg:Gl X "range")(hm:X.mg "range" = none)(ha:PA X [a] (RA X.K f))(h1:AY a=false:=by rfl):PI X tg (.Call (.Name "range" p) [a] [] pos) (RI X.K (CP f)):=QH hg hm ha (A8 h1)
theorem Pp (hg:Gl X "range")(hm:X.mg "range" = none)(ha:PA X [a,b] (RA X.K f))(h1:AY a=false:=by rfl)(h2:AY b=false:=by rfl):PI X tg (.Call (.Name "range" p) [a,b] [] pos) (RI X.K (G6 f)):=
 QI hg hm ha (by rw [A8 h1,A8 h2];rfl) (A8 h2)
theorem QF {cpos:Pos}(h1:AY e=false)(h2:A4 es=true)(h3:es.length < 20):((backTo cpos (starEach (e :: es) X.env)).all (λx=>!x.1) && (backToKw cpos (keywordEach [] X.env)).all (λx=>x.1.isSome) && decide ((e :: es).length + ([]:List Keyword).length + (if ([]:List Keyword).isEmpty then 0 else 1) < 30))=true:=by
 rw [(AZ (es:=e :: es) (env:=X.env) (p:=cpos) (by rw [A4,ul2,h1];exact h2)).2];show (true && true && decide (es.length + 1 + 0 + 0 < 30))=true;simp;lia
theorem Ps {μ:Cf->Hp->D->(V->Hp->Prop)->Prop}(i:Nat){x:Str}{g:M (List D)}{px apos cpos:Pos}(ha:PA X (e :: es) (RA X.K g))(hN:X.N[i]?=some x:=by rfl)(hv:Vis X.env.scope x:=by walk_at "h")(hd:(x == ("__debug__" : Str))=false:=by decide)
 (hcd:(x == ("__classdict__" : Str))=false:=by decide) (hline:(apos.endLine == cpos.line)=true:=by rfl) (h1:AY e=false:=by rfl) (h2:A4 es=true:=by rfl) (h3:es.length < 20:=by decide) :
 PS X (.Expr (.Call (.Attribute (.Name x px) "append" apos) (e :: es) [] cpos) pos) (RSg X.K μ (ownM i Dt g)):=QJ i ha hN hv hd hcd rfl (QF h1 h2 h3) hline (A8 h1) (AZ h2).1
theorem Pt {μ:Cf->Hp->D->(V->Hp->Prop)->Prop}(i:Nat){x:Str}{g:M (List D)}{px apos cpos:Pos}(ha:PA X (e :: es) (RA X.K g))(hN:X.N[i]?=some x:=by rfl)(hv:Vis X.env.scope x:=by walk_at "h")(hd:(x == ("__debug__" : Str))=false:=by decide)
 (hcd:(x == ("__classdict__" : Str))=false:=by decide) (hline:(apos.endLine == cpos.line)=true:=by rfl) (h1:AY e=false:=by rfl) (h2:A4 es=true:=by rfl) (h3:es.length < 20:=by decide) :
 PS X (.Expr (.Call (.Attribute (.Name x px) "extend" apos) (e :: es) [] cpos) pos) (RSg X.K μ (ownM i Ec g)):=QK i ha hN hv hd hcd rfl (QF h1 h2 h3) hline (A8 h1) (AZ h2).1
end
end F2
namespace HT
open PySem PySem.Spec L2 PyProof.Rows
section
variable {prog:Program}{w:World}{A:Around}{E:Value->Shared->Prop}{s:Shared}
end
end HT
namespace L2
open PySem PySem.Spec PyProof.Rows
section
variable {X:Cx}{e ek:Expr}{p2 pos:Pos}{te:TE}{tk:TO}
end
section
variable {X:Cx}
theorem HJ:∀{ys:List Str} {us:List Value},Vals (ys.map V.str) us->CarriedAll us (ys.map PyData.str)
 | [],_,r=>by cases r;exact .nil
 | _ :: _,_,r=>by
   cases r with
   | cons r1 r2=>obtain ⟨t,rfl⟩:=r1;exact .cons (.str _ _) (HJ r2)
def U4 (K:PySem.W.Frag):V->List V->Hp->VK->Prop:=λx xs H Q=>∃z a ys,x = .str z/\xs=[.ref a]/\SqL K H a (ys.map V.str)/\(∀y∈ys,y.length<=8)/\z.length<=8/\ys.length<=1048576/\Q (.str (Txt.join z ys)) H
theorem V4:MtR X "str.join" (U4 X.K):=by
 intro pins s σ H x xs v us Q I rx rs h;obtain ⟨z,a,ys,rfl,rfl,ha,h1,h2,h3,q⟩:=h;obtain ⟨t,rfl⟩:=rx;obtain ⟨u,rfl,ru⟩:=Hv rs
 cases ru
 obtain ⟨its,r,pl,_⟩:=I.list ha;refine join_madeW (l:=ys) (g:=id) 8 pl.isList (by rw [List.map_id];exact HJ r) h1 h3 (by lia) λt' k=>?_;rw [List.map_id];exact ⟨.str _,H,I.tok _,⟨_,rfl⟩,q⟩
end
section
variable {X:Cx}
end
section
variable {X:Cx}
end
end L2
namespace F2
open PySem L2 PySem.Spec
section
variable {X:Cx}{K:PySem.W.Frag}
noncomputable def F7:List D->Option (List Str)
 | []=>some []
 | .str x :: r=>if x.length<=8 then (F7 r).map (x :: ·) else none
 | _=>none
def joinM (f:M D)(g:M (List D)):M D:=bnd f λo=>bnd g λas=>match o,as with
 | .str z,[.lst ds]=>λt=>match F7 ds with
   | some ys=>if z.length<=8/\ys.length<=1048576 then some (.str (Txt.join z ys),t) else none
   | none=>none
 | _,_=>fail
theorem NG {c:Cf}{H:Hp}:∀{ds:List D} {vs:List V} {ys:List Str},Reps K c H vs ds->F7 ds=some ys->vs=ys.map V.str/\∀y∈ys,y.length<=8
 | [],_,ys,r,e=>by
   cases r
   cases e
   exact ⟨rfl,λ_ h=>nomatch h⟩
 | d :: ds,_,ys,r,e=>by
   cases r with
   | cons r1 r2=>
     cases r1 with
     | str x=>
       unfold F7 at e
       split at e
       ·next hx=>
        obtain ⟨zs,e1,rfl⟩:=uc6.mp e;obtain ⟨h1,h2⟩:=NG r2 e1;refine ⟨by rw [h1];rfl,λy hy=>?_⟩;rcases uk8.mp hy with rfl | hy
        ·exact hx
        ·exact h2 y hy
       ·cases e
     | _=>cases e
theorem RE.joinM {f:M D}{g:M (List D)}{σ:L2.St}{H:Hp}{Q:VK}(q:RE K (F2.joinM f g) σ H Q):tBM K "str" (U4 K) (RE K f) (RA K g) σ H Q:=by
 obtain ⟨Oo,c,t,fi,r,t',eq,k⟩:=q;obtain ⟨d,t1,e1,eq⟩:=Ae eq;obtain ⟨as,t2,e2,eq⟩:=Ae eq;refine ⟨Oo,c,t,fi,d,t1,e1,λv H1 c1 f1 s1 rv=>?_⟩
 split at eq
 ·next z ds=>
  cases rv
  refine ⟨rfl,Oo,c1,t1,f1,_,t2,e2,λus H2 c2 f2 s2 rus=>?_⟩;obtain ⟨w,rfl,rw'⟩:=E2 rus
  split at eq
  ·next ys ey=>
   split at eq
   ·next hz=>
    cases eq
    cases rw' with
    | @lst p vs ds h1 h2 h3=>
      obtain ⟨h4,h5⟩:=NG h3 ey;subst h4;exact ⟨_,p,ys,rfl,rfl,SqL.of h1,h5,hz.1,hz.2,k _ _ c2 f2 (s1.trans s2) (.str _)⟩
   ·cases eq
  ·cases eq
 ·cases eq
theorem Vu {o e:Expr}{es:List Expr}{f:M D}{g:M (List D)}{apos cpos:Pos}(ho:PE X o (RE X.K f))(ha:PA X (e :: es) (RA X.K g))
 (hbase:attributeBase o "join" X.env (eval o X.env)=eval o X.env:=by rfl)
 (hfew:((backTo cpos (starEach (e :: es) X.env)).all (λx=>!x.1) && (backToKw cpos (keywordEach [] X.env)).all (λx=>x.1.isSome) && decide ((e :: es).length + ([]:List Keyword).length + (if ([]:List Keyword).isEmpty then 0 else 1) < 30))=true:=by rfl)
 (hline:(apos.endLine == cpos.line)=true:=by rfl) (hs:starEach (e :: es) X.env=(false,eval e X.env) :: starEach es X.env:=by rfl) (hplain:(backTo cpos (starEach es X.env)).any (·.1)=false:=by rfl) :
 PE X (.Call (.Attribute o "join" apos) (e :: es) [] cpos) (RE X.K (joinM f g)):=
 AG (Kl PySem.F.plainAttrs_str PySem.F.slot_str_join PySem.F.type_str_join V4 ho ha hbase hfew hline hs hplain) λ_ _ _ q=>RE.joinM q
end
end F2
namespace L2
open PySem PySem.Spec PyProof.Rows
def RL:R2:=λx y H Q=>∃a kvs k v,x = .ref a/\y = .str k/\H a=some (.dK kvs)/\D1 kvs (Sum.inr k:Key)=some v/\Q v H
def Y7:V->V->V->Hp->(Hp->Prop)->Prop:=λo i v H Q=>∃a kvs k,o = .ref a/\i = .str k/\H a=some (.dK kvs)/\kvs.length < sizeLine/\Q (upd H a (.dK (D0 kvs (Sum.inr k:Key) v)))
section
variable {X:Cx}
theorem Yh:IxR X RL:=by
 intro value slice pins s σ H x y v u Q I rx ry h hs;obtain ⟨a,kvs,k,z,rfl,rfl,e,l,q⟩:=h
 cases rx
 obtain ⟨_,_,vs,rel,dd⟩:=Mb I.hok e;have g:DGet H a (kV (Sum.inr k:Key)) (some z):=by rw [<-l];exact DGet.k e
 have hT:=dd.typeIs;unfold subscriptTail;refine un2 ?_;rw [getitemInPython_of_ne hT.not_modules];refine un2 (wpAny_specialOf hT PySem.F.slot_dict_getitem.lookup ?_);have get:wpAny (model X.prog X.w) X.A (getItem (.ref a) u) (EP X pins σ Q) X.xe s:=by
  obtain ⟨w',hw,rw'⟩:=RelO.some_of (v:=z) (o:=valueAt vs (Sum.inr k:Key)) (by rw [<-l];exact rel.val _);exact wpAny_getItem_of (Kg (k:=(Sum.inr k:Key)) ry) dd.mapOf hw ⟨z,H,I.tok _,rw',q⟩
 have fin:wpAny (model X.prog X.w) X.A (subscripted slice false (.ref a) u) (λr s₃=>wpAny (model X.prog X.w) X.A (letTemporaryGo value (.ref a) r >>= λ_=>pure r) (EP X pins σ Q) X.xe s₃) X.xe s:=by
  rw [hs];exact wpAny_operating (un4 get (λr s₃ h₃=>un2 (wpAny_letTemporaryGo (un3 h₃))) λ_ _ x=>x)
 first
  | exact un3 (un2 fin)
  | exact un2 (un3 (un2 fin))
  | exact un2 fin
theorem W6:Xv X Y7:=by
 intro pins s σ H o i v ov iv u Q I ro ri rv h;obtain ⟨a,kvs,k,rfl,rfl,e,l,q⟩:=h
 cases ro
 obtain ⟨z,hd,vs,rel,dd⟩:=Mb I.hok e;have hz:vs.length<=sizeLine:=by rw [<-rel.length];exact z
 have hl:(D0 kvs (Sum.inr k:Key) v).length<=sizeLine:=by have:=Jb kvs (Sum.inr k:Key) v;lia
 refine wpAny_setItem_pairs (hsz:=hz) (Kg (k:=(Sum.inr k:Key)) ri) dd λh' dd' hs=>⟨_,?_,q⟩;have he:∃q,h'.get? a=some q:=let ⟨q,_,_,hq,_⟩:=dd';⟨q,hq⟩;exact N7 I (by rw [e];exact True.intro) hs he (MT hl hd (rel.put _ rv) dd')
end
end L2
namespace F2
open PySem L2 PySem.Spec
noncomputable def AU (kvs:List (Key×D))(k:Key):Option D:=(kvs.find? λkv=>decide (kv.1=k)).map (·.2)
noncomputable def Br (kvs:List (Key×D))(k:Key)(d:D):List (Key×D):=
 if (kvs.any λkv=>decide (kv.1=k))=true then kvs.map (λkv=>if kv.1=k then (kv.1,d) else kv) else kvs++[(k,d)]
def AL:D->D->M D
 | .obj n,.str x=>λt=>match t.S[n]? with
   | some (.dct kvs)=>(AU kvs (.inr x)).map λd=>(d,t)
   | _=>none
 | _,_=>fail
def GO:D->D->D->M Unit
 | .obj n,.str x,d=>λt=>match t.S[n]? with
   | some (.dct kvs)=>if kvs.length < LIM then some ((),{ t with S:=t.S.set n (.dct (Br kvs (.inr x) d)) }) else none
   | _=>none
 | _,_,_=>fail
def E3 (f g:M D)(d:D):M Unit:=bnd f λo=>bnd g λi=>GO o i d
def D4:List (Str×M D)->M (List (Key×D))
 | []=>ret []
 | (k,f) :: r=>bnd f λd=>bnd (D4 r) λps=>ret ((.inr k,d) :: ps)
def Bi (ps:List (Key×D)):List (Key×D):=ps.foldl (λacc kv=>Br acc kv.1 kv.2) []
def FB (n:Nat)(ps:List (Key×D)):M D:=λt=>match t.S[n]? with
 | some (.dct [])=>if ps.length<=15 then some (.obj n,{ t with S:=t.S.set n (.dct (Bi ps)) }) else none
 | _=>none
def Ey (l:List (Str×M D)):M D:=λt=>bnd (D4 l) (FB t.S.length) { t with S:=t.S++[.dct []] }
section
variable {K:PySem.W.Frag}{c:Cf}{H:Hp}
theorem KVR.get {us:List (Key×V)}{kvs:List (Key×D)}(r:KVR K c H us kvs)(k:Key){d:D}(e:AU kvs k=some d):∃v,D1 us k=some v/\Rep K c H v d:=by
 unfold KVR at r
 induction r with
 | nil=>simp [AU] at e
 | @cons p q ps qs h t ih=>
   by_cases hk:p.1=k
   ·have hq:q.1=k:=h.1.symm.trans hk;have:AU (q :: qs) k=some q.2:=by simp [AU,uj3,hq]
    rw [this] at e;cases e
    exact ⟨p.2,Hu hk,h.2⟩
   ·have hq:¬q.1=k:=λz=>hk (h.1.trans z);have:AU (q :: qs) k=AU qs k:=by simp [AU,uj3,hq]
    rw [this] at e;rw [Ht hk];exact ih e
theorem KVR.any {us:List (Key×V)}{kvs:List (Key×D)}(r:KVR K c H us kvs)(k:Key):(us.any λkv=>decide (kv.1=k))=(kvs.any λkv=>decide (kv.1=k)):=by
 unfold KVR at r
 induction r with
 | nil=>rfl
 | @cons p q ps qs h t ih=>rw [ul1,ul1,ih,h.1]
theorem KVR.put {us:List (Key×V)}{kvs:List (Key×D)}(r:KVR K c H us kvs)(k:Key){v:V}{d:D}(rv:Rep K c H v d):KVR K c H (D0 us k v) (Br kvs k d):=by
 unfold D0 Br;rw [r.any k]
 by_cases q:(kvs.any λkv=>decide (kv.1=k))=true
 ·rw [if_pos q,if_pos q];clear q;unfold KVR at r ⊢
  induction r with
  | nil=>exact .nil
  | @cons p q ps qs h t ih=>
    rw [uk9,uk9];refine .cons ?_ ih
    by_cases e:p.1=k
    ·rw [if_pos e,if_pos (h.1.symm.trans e)];exact ⟨h.1,rv⟩
    ·rw [if_neg e,if_neg (λz=>e (h.1.trans z))];exact h
 ·rw [if_neg q,if_neg q];exact Paired.snoc r ⟨rfl,rv⟩
theorem KVR.length {us:List (Key×V)}{kvs:List (Key×D)}(r:KVR K c H us kvs):us.length=kvs.length:=Paired.length r
theorem KVR.mono {c':Cf}{H':Hp}{us:List (Key×V)}{kvs:List (Key×D)}(e:Ext c H c' H')(r:KVR K c H us kvs):KVR K c' H' us kvs:=Paired.mapP r λ_ _ z=>⟨z.1,z.2.mono e⟩
theorem KVR.merge:∀{ps:List (Key×D)} {us:List (Key×V)} {acc:List (Key×D)} {ua:List (Key×V)},KVR K c H us ps->KVR K c H ua acc->KVR K c H (FX ua us) (ps.foldl (λacc kv=>Br acc kv.1 kv.2) acc):=by
 intro ps us acc ua r;unfold KVR at r
 induction r generalizing acc ua with
 | nil=>intro q;exact q
 | @cons p q ps qs h t ih=>
   intro r0;refine ih ?_;show KVR K c H (D0 ua p.1 p.2) (Br acc q.1 q.2);have:=KVR.put r0 p.1 h.2;rw [<-h.1];exact this
theorem R5:Bm K RL AL:=λ{Oo c t σ H x y dx dy r t' Q} f rx ry eq k=>by
 unfold AL at eq
 split at eq
 ·next n z=>
  cases ry
  cases rx with
  | @obj a kk hk=>
    split at eq
    ·next kvs es=>
     obtain ⟨d,e1,e2⟩:=uc6.mp eq
     cases e2
     obtain ⟨us,g1,g2⟩:=f.s.obs _ a _ hk es;obtain ⟨v,e3,e4⟩:=g2.get _ e1;exact ⟨a,us,z,v,rfl,rfl,g1,e3,k _ H c f .refl e4⟩
    ·cases eq
 ·cases eq
end
section
variable {X:Cx}{pos:Pos}{e:Expr}
theorem QG {o i:Expr}{f g:M D}(ho:PE X o (RE X.K f))(hi:PE X i (RE X.K g))
 (ha:∀v,assign (.Subscript o i pos) X.env v=(do
   let ov <-holding [v] (eval o X.env)
   let iv <-holding [v,ov] (eval i X.env)
   standAt pos
   holding [v,ov,iv] (setItem ov iv v)
   release [v,ov,iv] []):=by intro _;rfl):PG X (.Subscript o i pos) (RG X.K (E3 f g)):=
 Mq (YT ho hi W6 ha) λv σ H Q z9=>by
  obtain ⟨Oo,c,t,d,fi,rv,t',eq,k⟩:=z9;obtain ⟨d0,t1,e1,eq⟩:=Ae eq;obtain ⟨di,t2,e2,eq⟩:=Ae eq;refine ⟨Oo,c,t,fi,_,t1,e1,λx H1 c1 f1 s1 rx=>⟨Oo,c1,t1,f1,di,t2,e2,λy H2 c2 f2 s2 ry=>?_⟩⟩;unfold GO at eq
  split at eq
  ·next n z dd=>
   cases ry
   cases rx with
   | @obj a kk hk=>
     split at eq
     ·next kvs es=>
      split at eq
      ·next hl=>
       cases eq
       have hk2:=s2.ext.io _ _ hk;obtain ⟨us,g1,g2⟩:=f2.s.obs _ a _ hk2 es;refine ⟨a,us,z,rfl,rfl,g1,by rw [g2.length];exact Nat.lt_trans hl Xt,?_⟩;have rv2:=rv.mono (s1.trans s2).ext;obtain ⟨f3,s3⟩:=f2.wrObj (o:=.dct (Br kvs (.inr z) d)) (u:=.dK (D0 us (.inr z) v)) hk2 λc' H' ext hu=>⟨_,hu,(g2.put _ rv2).mono ext⟩;exact k σ _ c2 f3 ((s1.trans s2).trans s3)
      ·cases eq
     ·cases eq
  ·cases eq
def RP (K:PySem.W.Frag)(f:M (List (Key×D)))(σ:St)(H:Hp)(Q:List (V×V)->Hp->Prop):Prop:=
 ∃Oo c t,FInv K Oo c t σ H/\∃ps t',f t=some (ps,t')/\∀us H' c',FInv K Oo c' t' σ H'->Stp Oo c H c' H'->KVR K c' H' us ps->Q (us.map λkv=>(kV kv.1,kv.2)) H'
def PPf (X:Cx)(pos:Pos)(keys:List (Option Expr))(values:List Expr)(f:M (List (Key×D))):Prop:=
 ∃trs,PPs X pos keys values trs/\∀σ H Q,RP X.K f σ H Q->Kw trs σ H Q
theorem VL:PPf X pos [] [] (D4 []):=⟨[],WB,λσ H Q z9=>by
 obtain ⟨Oo,c,t,fi,ps,t',eq,k⟩:=z9
 cases eq
 exact k [] H c fi .refl .nil⟩
theorem Th {k:Str}{j:Nat}{kp:Pos}{v:Expr}{ks:List (Option Expr)}{vs:List Expr}{f:M D}{r:List (Str×M D)}(hv:PE X v (RE X.K f))(hr:PPf X pos ks vs (D4 r)) :
 PPf X pos (some (.Constant (.str k) j kp) :: ks) (v :: vs) (D4 ((k,f) :: r)):=by
 obtain ⟨trs,h1,h2⟩:=hr;refine ⟨_,Ud Ry hv h1,λσ H Q z9=>?_⟩;obtain ⟨Oo,c,t,fi,ps,t',eq,kk⟩:=z9;obtain ⟨d,t1,e1,eq⟩:=Ae eq;obtain ⟨qs,t2,e2,eq⟩:=Ae eq
 cases eq
 refine ⟨Oo,c,t,fi,d,t1,e1,λy H1 c1 f1 s1 ry=>?_⟩;refine h2 σ H1 _ ⟨Oo,c1,t1,f1,qs,_,e2,λus H2 c2 f2 s2 ru=>?_⟩;exact kk ((.inr k,y) :: us) H2 c2 f2 (s1.trans s2) (.cons ⟨rfl,ry.mono s2.ext⟩ ru)
theorem Vt {keys:List (Option Expr)}{values:List Expr}{l:List (Str×M D)}(h:PPf X pos keys values (D4 l))(hall:keys.all (·.isSome)=true:=by rfl)(hl:keys.length=values.length:=by rfl)(h0:keys≠[]:=by exact List.cons_ne_nil _ _)
 (h15:keys.length<=15:=by exact ud5 rfl):PE X (.Dict keys values pos) (RE X.K (Ey l)):=by
 obtain ⟨trs,h1,h2⟩:=h;refine AG (Wo h1 hall hl h0 h15) λσ H Q z9=>?_;obtain ⟨Oo,c,t,fi,r,t',eq,k⟩:=z9;intro p hp;obtain ⟨c1,f1,s1,e1⟩:=fi.newObj (o:=.dct []) (u:=.dK []) hp λc' H' ex hu=>⟨[],hu,.nil⟩;obtain ⟨ps,t2,e2,eq⟩:=Ae eq;refine h2 σ _ _ ⟨Oo,c1,_,f1,ps,t2,e2,λus H2 c2 f2 s2 ru=>?_⟩;unfold FB at eq
 split at eq
 ·next es=>
  split at eq
  ·next hl15=>
   cases eq
   have hk2:=s2.ext.io _ _ e1;obtain ⟨u0,g1,g2⟩:=f2.s.obs _ p _ hk2 es
   cases g2
   refine ⟨g1,us,rfl,by rw [ru.length];exact hl15,?_⟩;obtain ⟨f3,s3⟩:=f2.wrObj (o:=.dct (Bi ps)) (u:=.dK (FX [] us)) hk2 λc' H' ext hu=>⟨_,hu,(KVR.merge ru .nil).mono ext⟩;exact k _ _ c2 f3 (s1.trans (s2.trans s3)) (.obj hk2)
  ·cases eq
 ·cases eq
end
end F2
namespace L2
open PySem PySem.Spec PyProof.Rows
section
variable {X:Cx}
end
end L2
namespace F2
open PySem L2 PySem.Spec
section
variable {X:Cx}{pos:Pos}{e:Expr}{es:List Expr}
end
end F2
namespace L2
open PySem PySem.Spec PyProof.Rows
section
variable {prog:Program}{w:World}{A:Around}{I:Addr}{fp wr:List Addr}{G:Array GenState->Array GenState->Prop}{n:Nat}{P:Nat->Value->Prop}{St:Nat->Shared->Prop}
end
section
variable {X:Cx}
end
end L2
namespace F2
open PySem L2 PySem.Spec PyProof.Rows
section
variable {X:Cx}{pos:Pos}{e:Expr}
end
end F2
namespace F2
open PySem L2 PySem.Spec
noncomputable def Dp (f:M Bool)(b:M Out):Nat->M Out
 | 0=>λ_=>none
 | n + 1=>λt=>match f t with
   | none=>none
   | some (false,t1)=>some (.next,t1)
   | some (true,t1)=>match b t1 with
     | some (.next,t2)=>Dp f b n t2
     | some (.cont,t2)=>Dp f b n t2
     | some (.brk,t2)=>some (.next,t2)
     | some (.ret x,t2)=>some (.ret x,t2)
     | none=>none
def JN:Nat:=1000000
def Iy (f:M Bool)(b:M Out):M Out:=Dp f b JN
theorem RS.while {μ:Cf->Hp->D->(V->Hp->Prop)->Prop}{K:PySem.W.Frag}{f:M Bool}{b:M Out}{E:Ends}{σ:L2.St}{H:Hp}(q:RSg K μ (Iy f b) E σ H):Sf (RT K f) (RSg K μ b) E σ H:=by
 obtain ⟨Oo,c,t,fi,o,t',eq,k⟩:=q;refine ⟨λm σ' H'=>∃c' t2,FInv K Oo c' t2 σ' H'/\Stp Oo c H c' H'/\Dp f b m t2=some (o,t'),⟨JN,c,t,fi,.refl,eq⟩,?_⟩;rintro m σ' H' ⟨c',t2,f2,s2,e2⟩
 cases m with
 | zero=>cases e2
 | succ m=>
 rw [Dp] at e2;dsimp only at e2
 cases ef:f t2 with
 | none=>rw [ef] at e2;cases e2
 | some p=>
 obtain ⟨r,t3⟩:=p;rw [ef] at e2;refine ⟨Oo,c',t2,f2,r,t3,ef,λH3 c3 f3 s3=>?_⟩
 cases r with
 | false=>
   cases e2
   exact k σ' H3 c3 f3 (s2.trans s3)
 | true=>
   rw [if_pos rfl];dsimp only at e2;refine ⟨λσ4 H4=>∃c4 t4,FInv K Oo c4 t4 σ4 H4/\Stp Oo c H c4 H4/\Dp f b m t4=some (o,t'),λσ4 H4 h=>⟨m,uh2 m,h⟩,?_⟩
   cases eb:b t3 with
   | none=>rw [eb] at e2;cases e2
   | some p=>
   obtain ⟨ob,t4⟩:=p;rw [eb] at e2;refine ⟨Oo,c3,t3,f3,ob,t4,eb,λσ4 H4 c4 f4 s4=>?_⟩
   cases ob with
   | next=>exact ⟨c4,t4,f4,(s2.trans s3).trans s4,e2⟩
   | cont=>exact ⟨c4,t4,f4,(s2.trans s3).trans s4,e2⟩
   | brk=>
     cases e2
     exact k σ4 H4 c4 f4 ((s2.trans s3).trans s4)
   | ret x=>
     cases e2
     exact k σ4 H4 c4 f4 ((s2.trans s3).trans s4)
section
variable {X:Cx}{pos:Pos}
theorem M4 {μ:Cf->Hp->D->(V->Hp->Prop)->Prop}{e:Expr}{body:List Stmt}{f:M Bool}{b:M Out}(hp:PassesOwn (model X.prog X.w) X.A X.env X.xe)(hc:PT X e (RT X.K f))(hb:PSs X body (RSg X.K μ b)):PS X (.While e body [] pos) (RSg X.K μ (Iy f b)):=
 Bk (Uf hp hc hb) λ_ _ _ q=>RS.while q
end
end F2
namespace L2
open PySem PySem.Spec PyProof.Rows
end L2
namespace F2
open PySem L2 PySem.Spec
end F2
namespace L2
open PySem PySem.Spec PyProof.Rows
section
variable {X:Cx}{tg:Expr}
end
end L2
namespace F2
open PySem L2 PySem.Spec
section
variable {X:Cx}{pos:Pos}{e:Expr}{es:List Expr}
end
noncomputable def EW (H:Hp)(a:Addr):Hp:=λb=>if b=a then none else H b
theorem TW {H:Hp}{a:Addr}{o:HO}(h:H a=some o):upd (EW H a) a o=H:=by
 funext b
 by_cases e:b=a
 ·subst e;rw [Aj];exact h.symm
 ·rw [Ag e];unfold EW;rw [if_neg e]
section
variable {K:PySem.W.Frag}{Oo:Addr->Prop}{c:Cf}{t:T}{σ:L2.St}{H:Hp}
theorem FInv.out (f:FInv K Oo c t σ H){i:Nat}{ds:List D}(e:t.env[i]?=some (some (.own ds))){a:Addr}(ha:σ[i]?=some (some (.ref a))) :
 FInv K Oo ⟨c.ι,λb=>c.O b/\b≠a⟩ { t with env:=t.env.set i none } σ (EW H a)/\Stp Oo c H ⟨c.ι,λb=>c.O b/\b≠a⟩ (EW H a):=by
 obtain ⟨a',vs,g1,g2,g3,g4,g5⟩:=f.own i ds e;rw [ha] at g1;injection g1 with g1;injection g1 with g1;injection g1 with g1;subst g1
 have ni:a∉c.ι:=f.s.dis a g2;have ext:Ext c H ⟨c.ι,λb=>c.O b/\b≠a⟩ (EW H a):=by
  refine ⟨λb o hb hn=>?_,λb o hb z=>?_,λk b h=>h⟩
  ·unfold EW;rw [if_neg λz=>hn (by rw [z];exact .inr g2)];exact hb
  ·rcases z with z | z
   ·exact .inl z
   ·exact .inr z.1
 have stp:Stp Oo c H ⟨c.ι,λb=>c.O b/\b≠a⟩ (EW H a):=⟨ext,λb hb=>by unfold EW;rw [if_neg λz=>g3 (by rw [<-z];exact hb)]⟩;have old:∀{j:Nat} {x:Sl},(t.env.set i none)[j]?=some (some x)->j≠i/\t.env[j]?=some (some x):=λ{j x} q=>by
  by_cases h:j=i
  ·subst h;rw [ug6] at q
   split at q
   ·split at q <;> simp at q
   ·contradiction
  ·exact ⟨h,by rw [ud9 (Ne.symm h)] at q;exact q⟩
 refine ⟨⟨⟨f.s.len,f.s.nd,λk b o e1 e2=>?_,λb hb=>?_,λb hb=>f.s.dis b hb.1⟩,by simpa using f.len,λb hb=>⟨f.sub b hb,λz=>g3 (by rw [<-z];exact hb)⟩,λj d q=>?_,λj es q=>?_,λj k es fs b q1 q2 q3 q4=>?_⟩,stp⟩
 ·refine (f.s.obs k b o e1 e2).mono ext ?_;unfold EW;rw [if_neg λz=>ni (by rw [<-z];exact ue0 e1)]
 ·obtain ⟨o,ho⟩:=f.s.trk b hb.1;exact ⟨o,by unfold EW;rw [if_neg hb.2];exact ho⟩
 ·obtain ⟨v,h1,h2⟩:=f.val j d (old q).2;exact ⟨v,h1,h2.mono ext⟩
 ·obtain ⟨nj,q'⟩:=old q;obtain ⟨b,us,k1,k2,k3,k4,k5⟩:=f.own j es q';have nb:b≠a:=λz=>nj (f.inj j i es ds a q' e (by rw [k1,z]) ha);exact ⟨b,us,k1,⟨k2,nb⟩,k3,by unfold EW;rw [if_neg nb];exact k4,k5.mono ext⟩
 ·exact f.inj j k es fs b (old q1).2 (old q2).2 q3 q4
end
noncomputable def GL (i:Nat):M Out:=λt=>match t.env[i]? with
 | some (some (.own xs))=>some (.ret (.lst xs),{ t with env:=t.env.set i none })
 | _=>none
def Ho (f:M (List D)):M Out:=bnd f λds=>ret (.ret (.lst ds))
variable {g:Fn}{fa:Addr}{fd:FuncData}
section
variable {X:Cx}{pos:Pos}{e:Expr}{es:List Expr}
theorem Of {f:M (List D)}(h:PE X e (RF X.K f)):PS X (.Return (some e) pos) (RSg X.K (μF X.K) (Ho f)):=
 Bk (Ir h) λE σ H z9=>by
  obtain ⟨Oo,c,t,fi,o,t',eq,k⟩:=z9;obtain ⟨ds,t1,e1,eq⟩:=Ae eq
  cases eq
  exact ⟨Oo,c,t,fi,ds,_,e1,λp us H1 c1 f1 s1 ru hp=>k σ H1 c1 f1 s1 p us hp ru⟩
theorem QP (i:Nat){x:Str}{px:Pos}(hN:X.N[i]?=some x:=by rfl)(hv:Vis X.env.scope x:=by walk_at "h")(hd:(x == ("__debug__" : Str))=false:=by decide)
 (hcd:(x == ("__classdict__" : Str))=false:=by decide):PS X (.Return (some (.Name x px)) pos) (RSg X.K (μF X.K) (GL i)):=
 Bk (Ir (CB hN hv hd hcd)) λE σ H z9=>by
  obtain ⟨Oo,c,t,fi,o,t',eq,k⟩:=z9;unfold GL at eq
  split at eq
  ·next xs ex=>
   cases eq
   obtain ⟨a,vs,h1,h2,h3,h4,h5⟩:=fi.own i xs ex;refine ⟨.ref a,h1,?_⟩;obtain ⟨f2,s2⟩:=fi.out ex h1;have:=k σ (EW H a) _ f2 s2 a vs (by unfold EW;rw [if_pos rfl]) (h5.mono s2.ext);rw [TW h4] at this;exact this
  ·cases eq
inductive spFF (K:PySem.W.Frag)(f:Fn)(vs:List V)(H:Hp)(Q:VK)(E:XK):Prop where
 | mk (c:Cf) (ds:List D) (S:List Ob) (si:SInv K c S H) (rp:Reps K c H vs ds) (rs:List D) (S':List Ob) (e:f ds S=some (.lst rs,S')) (k:∀p us H' c',SInv K c' S' H'->Stp c.O c H c' H'->(∀b,c'.O b↔c.O b)->Reps K c' H' us rs->H' p=none->Q (.ref p) (upd H' p (.lst us))):spFF K f vs H Q E
def D3 (g:Fn)(f:M (List D)):M (List D):=bnd f λds t=>match g ds t.S with
 | some (.lst rs,S')=>some (rs,{ t with S:=S' })
 | _=>none
theorem Pf {ds:List D}{t:T}{rs:List D}{t':T}(h:(match g ds t.S with | some (.lst rs,S')=>some (rs,{ t with S:=S' }) | _=>none:Option (List D×T))=some (rs,t')):∃S',g ds t.S=some (.lst rs,S')/\t' = { t with S:=S' }:=by
 split at h
 ·next rs' S' e=>cases h;exact ⟨S',e,rfl⟩
 ·cases h
theorem Tc {k:Nat}{ps:List Str}{f:M (List D)}{x:Str}{p:Pos}(F:FnOk X.prog X.w X.K X.mg X.base CX0 k fa fd ps (spFF X.K g))(hr:Room k X.A)(hg:Gl X x)(hm:X.mg x=some (.ref fa))(hk:PySem.W.keepIn X.K (.ref fa)=true)(hb:Binds X.K fd ps [])
 (ha:PA X (e :: es) (RA X.K f)) (hdb:(x == ("__debug__" : Str))=false:=by decide) (h1:AY e=false:=by rfl) (h2:A4 es=true:=by rfl) :
 PE X (.Call (.Name x p) (e :: es) [] pos) (RF X.K (D3 g f)):=
 AG (Oz F hr hg hm hk hb .nil IS ha hdb (A8 h1) (AZ h2).1) λσ H Q z9=>by
  obtain ⟨Oo,c,t,fi,rs,t',eq,kk⟩:=z9;obtain ⟨ds,t1,e1,eq⟩:=Ae eq;obtain ⟨S',e2,rfl⟩:=Pf eq;refine ⟨Oo,c,t,fi,ds,t1,e1,λvs H1 c1 f1 s1 rvs=>?_⟩;show spFF X.K g (vs++[]) H1 Q E0;rw [ui8];refine ⟨c1,ds,t1.S,f1.s,rvs,rs,S',e2,λp us H' c' si st ho ru hp=>?_⟩;obtain ⟨f2,s2⟩:=f1.after si st ho;exact kk p us H' c' f2 (s1.trans s2) ru hp
end
theorem VG {P:Program}{w:World}{K:PySem.W.Frag}{mg:Str->Option Value}{base:Heap}{x qual:Str}{st:Stmt}{N ps:List Str}{k n m:Nat}{g:M Out}(e1:ps.length=n)(e2:N.length=m)(F:Fun K x qual st fa fd)(S:FnScope N ps (Al st))
 (hb:∀(cdv:Value) (A:Around) (outer:List Env) (s:Shared) (H:Hp) (E:XK),Room k (A.deeper (PyProof.Rows.envOfC qual (Al st) s.heap.objs.size fa cdv))->
   PSs (DB CX0 P w K mg base N qual (Al st) fa cdv A outer s H E).nox (Be st) (RSg K (μF K) g)):FnOk P w K mg base CX0 (k + 1) fa fd ps (spFF K (fnOf n m g)):=by
 subst e1 e2;have hlen:∀{ds:List D} {S:List Ob} {z:D×List Ob},fnOf ps.length N.length g ds S=some z->ds.length=ps.length:=λ{ds S z} h=>by
  unfold fnOf at h
  split at h
  ·next h1=>exact h1
  ·cases h
 refine F.ok S (λvs H Q E h=>?_) (λcdv A outer s H vs Q E hr h=>?_)
 ·obtain ⟨c,ds,S,si,rs,r,S',e,_⟩:=h;rw [rs.length];exact hlen e
 obtain ⟨c,ds,S0,si,rs,r,S',e,kk⟩:=h;refine ⟨RSg K (μF K) g,hb cdv A outer s H E hr,?_⟩;have hl:=hlen e;unfold fnOf at e;rw [if_pos hl] at e
 cases eg:g ⟨env0 N.length ds,S0⟩ with
 | none=>rw [eg] at e;cases e
 | some p=>
   obtain ⟨o,t⟩:=p;rw [eg] at e;refine ⟨c.O,c,_,G9 si rs,o,t,eg,λσ' H' c' f' s'=>?_⟩;obtain ⟨si',ext'⟩:=f'.leave;have st':Stp c.O c H ⟨c'.ι,c.O⟩ H':=⟨s'.ext.trans ext',s'.oo⟩
   cases o with
   | next=>cases e
   | ret d=>
     cases e
     exact λp us hp ru=>kk p us H' _ si' st' (λ_=>Iff.rfl) (ru.mono ext') hp
   | brk=>cases e
   | cont=>cases e
theorem WK {P:Program}{w:World}{K:PySem.W.Frag}{mg:Str->Option Value}{base:Heap}{ps:List Str}{k:Nat}{f:Fn}(e:f=g)(h:FnOk P w K mg base CX0 k fa fd ps (spFF K g)):FnOk P w K mg base CX0 k fa fd ps (spFF K f):=by rw [e];exact h
end F2
namespace L2
open PySem PySem.Spec PyProof.Rows
section
variable {X:Cx}
theorem Wl {o:Expr}{to:TE}{apos cpos:Pos}(ho:PE X o to)(hbase:attributeBase o "bit_length" X.env (eval o X.env)=eval o X.env:=by rfl)(hline:(apos.endLine == cpos.line)=true:=by rfl) :
 PE X (.Call (.Attribute o "bit_length" apos) [] [] cpos) (λσ H Q=>to σ H λv H1=>∃i,v = .int i/\Q (.int (Builtin.Int.intBits i:Nat)) H1):=by
 intro pins s σ H Q I h;refine Call_method0 hbase hline (thn (ho pins s σ H _ I h) λu s1 z9=>?_);obtain ⟨v,H1,I1,rv,i,ex,q⟩:=z9;subst ex;obtain ⟨t,rfl⟩:=rv;exact ⟨"int", "int.bit_length",PySem.F.plainAttrs_int,ua3,PySem.F.type_int_bit_length,typeIs_int _ _ _,(λ_ e=>nomatch e),
  method0_gives ua3 PySem.F.entry_int_bit_length (typeIs_int _ _ _) (PySem.F.args_int_bit_length_1 _) (PySem.AutoIntG2.int_bit_length_int_0 i t) ⟨.int (Builtin.Int.intBits i:Nat),H1,I1.tok _,⟨_,rfl⟩,q⟩⟩
end
end L2
namespace F2
open PySem L2 PySem.Spec
def JR:D->M D
 | .int i=>ret (.int (Builtin.Int.intBits i:Nat))
 | _=>fail
section
variable {X:Cx}{pos:Pos}{e:Expr}{es:List Expr}
theorem QB {o:Expr}{f:M D}{apos cpos:Pos}(ho:PE X o (RE X.K f))(hbase:attributeBase o "bit_length" X.env (eval o X.env)=eval o X.env:=by rfl)(hline:(apos.endLine == cpos.line)=true:=by rfl) :
 PE X (.Call (.Attribute o "bit_length" apos) [] [] cpos) (RE X.K (fUn f JR)):=
 AG (Wl ho hbase hline) λσ H Q z9=>by
  obtain ⟨Oo,c,t,fi,r,t',eq,k⟩:=z9;obtain ⟨d,t1,e1,eq⟩:=Ae eq;refine ⟨Oo,c,t,fi,d,t1,e1,λx H1 c1 f1 s1 rx=>?_⟩;unfold JR at eq
  split at eq
  ·next i=>
   cases eq
   cases rx
   exact ⟨i,rfl,k _ H1 c1 f1 s1 (.int _)⟩
  ·cases eq
end
section
variable {X:Cx}{b elt:Expr}{pos:Pos}
end
end F2
namespace L2
open PySem PySem.Spec PyProof.Rows
theorem Inv.turnedL {X:Cx}{pins:List (Addr×Obj)}{σ:St}{H:Hp}{s:Shared}{h':Heap}{t':Nat}(fp:List Addr)(I:Inv X pins σ H s)(hf:∀b∈fp,FpOk X pins H b)(k:∀b o,b∉fp->s.heap.get? b=some o->h'.get? b=some o):Inv X pins σ H { s with heap:=h',toks:=t' }:=by
 have nit:∀b u,H b=some u->b∉fp:=λb u e z=>by rw [(hf b z).1] at e;cases e
 refine I.step (g':=s.gens) (d':=s.drawn) (ch:=fp) (λb hb=>?_) (λb o _ _ hc e _=>k b o hc e) (λb o _ _ hc e _=>⟨o.slots,k b o hc e⟩) (λ_ _ _ _ n=>n)
  (λb o hc e=>⟨o,k b o hc e⟩) (λ_ _ e=>e) (λ_ _ _ e=>e) (λb ps e=>⟨#[],by rw [e];simp⟩) (λm hm=>?_) (λb u e=>?_) I.bare
 ·obtain ⟨_,h1,_,h3,h4,h5⟩:=hf b hb;exact ⟨h3,h1,h4,h5⟩
 ·obtain ⟨o,es,ep,ho,r⟩:=hm;exact ⟨o,es,ep,k _ o (λz=>(hf _ z).2.1 rfl) ho,r⟩
 ·refine (I.hok b u e).stay (λc v hc q=>k c v ?_ q) (λ_ q=>q) λ_ _ q=>q;rcases hc with z | z
  ·rw [z];exact nit b u e
  ·exact nit c _ z
def Ite (K:PySem.W.Frag)(a:Addr):It:=
 ⟨λi H=>∃xs x,SqL K H a xs/\xs[i]?=some x,λi H x H'=>∃p v,x = .ref p/\H p=none/\(∀xs,SqL K H a xs->xs[i]?=some v)/\H'=upd H p (.tup [.int i,v]),λi H=>∃xs,SqL K H a xs/\xs.length<=i⟩
theorem Sk {P:Program}{w:World}{K:PySem.W.Frag}{elts:List Expr}{n:Nat}{pos:Pos}(a e it:Addr)(hne:e≠it):Turn P w K (.Tuple elts n pos) (Ite K a) [e,it] e (λi h=>(∃old,IsEnum h e it i old)/\h.IsListIter it a i) where
 mem:=by simp
 obj:=λi h st b hb=>by
  obtain ⟨⟨old,h1⟩,o,e1,c,d⟩:=st;simp only [uk8,ui0,or_false] at hb;rcases hb with rfl | rfl
  ·exact ⟨_,h1,λv z=>by have z':Data.fields _=Data.cell v:=z;cases z'⟩
  ·exact ⟨o,e1,λv z=>by rw [d] at z;cases z⟩
 keep:=λi h h' st k=>⟨by obtain ⟨⟨old,h1⟩,_⟩:=st;exact ⟨old,k e (by simp) _ h1⟩,st.2.at λo e=>k it (by simp) o e⟩
 item:=by
  intro X hP hw hK hc i pins s σ H E I hf st hg;subst hP hw hK;obtain ⟨xs,x,hq,hx⟩:=hg;obtain ⟨its,rv,p,hz⟩:=I.list hq;obtain ⟨u,hu,ru⟩:=rv.get hx;obtain ⟨⟨old,st1⟩,st2⟩:=st;refine wpAny_pyNext_enum_item st1 st2 p.isList (x:=u) (by simpa using hu) hne λh' so st2' hT hsz kk=>?_;refine ⟨_,rfl,?_⟩;refine wpAny_letOwnedTupleGo_enum so λh2 st1' sb=>?_;have fe:=hf e (by simp);have fi:=hf it (by simp);have le:e < s.heap.objs.size:=ul8 st1;have li:it < s.heap.objs.size:=by obtain ⟨o,e1,_,_⟩:=st2;exact ul8 e1
  have hfr:H s.heap.objs.size=none:=I.hok.fresh (um8 _);have h2T:h2.get? s.heap.objs.size=some { cls:=.type "tuple",data:=.seq #[.int (i:Nat) s.toks,u] }:=(sb.2 _ (um1 le)).trans hT;have I1:Inv X pins σ (upd H s.heap.objs.size (.tup [.int (i:Nat),x])) { s with heap:=s.heap.push { cls:=.type "tuple",data:=.seq #[.int (i:Nat) s.toks,u] },toks:=s.toks }:=
   I.laid (t':=s.toks) (λb u e=>uc2 _ e) (um8 _) ⟨by show 2<=sizeLine;decide,[.int (i:Nat) s.toks,u],.cons ⟨_,rfl⟩ (.cons ru .nil),⟨_,ue3 _ rfl,rfl,_,rfl⟩⟩
  have hup:∀b,b≠s.heap.objs.size->upd H s.heap.objs.size (.tup [.int (i:Nat),x]) b=H b:=λb hb=>Ag hb;have fp':∀b∈[e,it],FpOk X pins (upd H s.heap.objs.size (.tup [.int (i:Nat),x])) b:=λb hb=>by
   obtain ⟨g0,g1⟩:=hf b hb;refine ⟨?_,g1⟩;rw [hup b ?_];exact g0;simp only [uk8,ui0,or_false] at hb;rcases hb with rfl | rfl
   ·exact ul9 le
   ·exact ul9 li
  refine ⟨.ref s.heap.objs.size,upd H s.heap.objs.size (.tup [.int (i:Nat),x]),?_,rfl,⟨_,x,rfl,hfr,λys hy=>by rw [I.list_inj hy hq];exact hx,rfl⟩,⟨⟨_,by simpa using st1'⟩,?_⟩,λb hb=>(fp' b hb).1⟩
  ·have I2:=Inv.turnedL (h':=h2) (t':=s.toks + 1) [e,it] I1 fp' λb o hb eb=>(by
    simp only [uk8,ui0,or_false,not_or] at hb;rcases Heap.get?_push_cases eb with ⟨rfl,rfl⟩ | eb'
    ·exact h2T
    ·exact (sb.2 b hb.1).trans (kk b o hb.1 hb.2 eb'))
   exact I2
  ·exact st2'.at λo e1=>(sb.2 it (Ne.symm hne)).trans e1
 done:=by
  intro X hP hw hK hc i pins s σ H E I hf st hg;subst hP hw hK;obtain ⟨xs,hq,hx⟩:=hg;obtain ⟨its,rv,p,hz⟩:=I.list hq;obtain ⟨⟨old,st1⟩,st2⟩:=st;have hl:=rv.length;refine wpAny_pyNext_enum_end (I.ok.hd hc) st1 st2 p.isList (by simp;lia) λh' eb=>⟨rfl,?_⟩;exact Inv.turnedL [e,it] (t':=s.toks) I hf λb o hb e1=>eb b o (λz=>hb (by simp [z])) e1
 self:=λ_ _ _ _ _ st h=>by obtain ⟨⟨old,h1⟩,_⟩:=st;exact wpAny_pyIter_enum h1 h
def ai (K:PySem.W.Frag)(ta:TA):TI:=λσ H R=>ta σ H λvs H1=>∃a xs,vs=[.ref a]/\SqL K H1 a xs/\R (Ite K a) H1
theorem Wu {X:Cx}{e:Expr}{ta:TA}{elts:List Expr}{n:Nat}{tpos p pos:Pos}(hg:Gl X "enumerate")(hm:X.mg "enumerate" = none)(ha:PA X [e] ta)(hs:starEach [e] X.env=[(false,eval e X.env)]:=by rfl) :
 PI X (.Tuple elts n tpos) (.Call (.Name "enumerate" p) [e] [] pos) (ai X.K ta):=by
 intro pins s σ H R I h;refine Call_ (GD I hg hm boot_enumerate (ua2 (thn (ha pos pins s σ H _ I h) λus s1 z9=>?_) hs rfl));obtain ⟨vs,H1,I1,r1,q1⟩:=z9;obtain ⟨a,xs,ev,hq,q⟩:=q1;subst ev
 cases r1 with
 | cons r rr=>
   cases rr
   cases r
   obtain ⟨its,rv,pl,hz⟩:=I1.list hq;refine call_enumerate_list pl.isList λh' e1 e2 e3 kk=>?_;refine wpAny_pyIter_enum e1 ?_;have hfp:∀b∈[s1.heap.objs.size + 1,s1.heap.objs.size],FpOk X pins H1 b:=λb hb=>by
    have hb':s1.heap.objs.size<=b:=by
     simp only [uk8,ui0,or_false] at hb;lia
    exact I1.fpOk hb' (I1.hok.fresh hb')
   exact ⟨s1.heap.objs.size + 1,[s1.heap.objs.size + 1,s1.heap.objs.size],_,_,H1,rfl,I1.kept (t':=s1.toks) kk,Sk a (s1.heap.objs.size + 1) s1.heap.objs.size (Nat.succ_ne_self _),⟨⟨_,e1⟩,e2⟩,hfp,q⟩
end L2
namespace F2
open PySem L2 PySem.Spec
structure ItOk2 (K:PySem.W.Frag)(J:It)(c:Cf)(H:Hp)(ds:List D):Prop where
 go:∀c' H' (i:Nat),Ext c H c' H'->i < ds.length->J.go i H'
 yld:∀c' H' (i:Nat) x H'' d,Ext c H c' H'->ds[i]?=some d->J.yld i H' x H''->∃p vs es,x = .ref p/\H' p=none/\H''=upd H' p (.tup vs)/\d = .tup es/\Reps K c' H' vs es
 stop:∀c' H',Ext c H c' H'->J.stop ds.length H'
inductive RI2 (K:PySem.W.Frag)(f:M (List D))(σ:L2.St)(H:Hp)(R:It->Hp->Prop):Prop where
 | mk (Oo:Addr->Prop) (c:Cf) (t:T) (fi:FInv K Oo c t σ H) (ds:List D) (t':T) (e:f t=some (ds,t')) (k:∀J H' c',FInv K Oo c' t' σ H'->Stp Oo c H c' H'->ItOk2 K J c' H' ds->R J H'):RI2 K f σ H R
def D7:Nat->List D->List D
 | _,[]=>[]
 | i,d :: r=>.tup [.int (i:Nat),d] :: D7 (i + 1) r
theorem HL:∀(ds:List D) (i:Nat),(D7 i ds).length=ds.length
 | [],_=>rfl
 | d :: r,i=>by rw [D7,uh1,uh1,HL r]
theorem LB:∀(ds:List D) (i j:Nat),(D7 i ds)[j]?=(ds[j]?).map λd=>.tup [.int ((i + j:Nat):Int),d]
 | [],_,_=>by simp [D7]
 | d :: r,i,0=>rfl
 | d :: r,i,j + 1=>by
   rw [D7,ub9,ub9,LB r (i + 1) j]
   congr 1
   funext d
   rw [show i + 1 + j=i + (j + 1) by lia]
def UU:List D->M (List D)
 | [.lst ds]=>ret (D7 0 ds)
 | _=>fail
def Pj (f:M (List D)):M (List D):=bnd f UU
theorem ItOk2.enum {K:PySem.W.Frag}{c:Cf}{H:Hp}{p:Addr}{ds:List D}(r:∀c' H',Ext c H c' H'->∃vs,SqL K H' p vs/\Reps K c' H' vs ds):ItOk2 K (Ite K p) c H (D7 0 ds):=by
 refine ⟨λc' H' i ex hi=>?_,λc' H' i x H'' d ex hd hy=>?_,λc' H' ex=>?_⟩
 ·obtain ⟨vs,h1,h2⟩:=r c' H' ex;rw [HL] at hi;obtain ⟨v,e,_⟩:=h2.at (ub3 hi);exact ⟨vs,v,h1,e⟩
 ·obtain ⟨vs,h1,h2⟩:=r c' H' ex;obtain ⟨q,v,rfl,hq,hs,rfl⟩:=hy;have hv:=hs vs h1;rw [LB] at hd;obtain ⟨d',e1,rfl⟩:=uc6.mp hd;obtain ⟨v',e2,rv⟩:=h2.at e1;rw [hv] at e2
  cases e2
  rw [Nat.zero_add];exact ⟨q,_,_,rfl,hq,rfl,rfl,.cons (.int _) (.cons rv .nil)⟩
 ·obtain ⟨vs,h1,h2⟩:=r c' H' ex;exact ⟨vs,h1,by rw [HL,h2.length];exact um8 _⟩
section
variable {X:Cx}{pos:Pos}{e:Expr}
theorem VA {f:M (List D)}{elts:List Expr}{n:Nat}{tpos p:Pos}(hg:Gl X "enumerate")(hm:X.mg "enumerate" = none)(ha:PA X [e] (RA X.K f))(h1:AY e=false:=by rfl):PI X (.Tuple elts n tpos) (.Call (.Name "enumerate" p) [e] [] pos) (RI2 X.K (Pj f)):=
 HD (Wu hg hm ha (A8 h1)) λσ H R z9=>by
  obtain ⟨Oo,c,t,fi,ds,t',eq,k⟩:=z9;obtain ⟨xs,t1,e1,eq⟩:=Ae eq;refine ⟨Oo,c,t,fi,xs,t1,e1,λvs H1 c1 f1 s1 rv=>?_⟩;unfold UU at eq
  split at eq
  ·next es=>
   cases eq
   cases rv with
   | cons r rs=>
     cases rs
     cases r with
     | @lst a ws _ g1 g2 g3=>exact ⟨a,ws,rfl,SqL.of g1,k _ H1 c1 f1 s1 (ItOk2.enum λc' H' ex=>⟨ws,SqL.of (ex.keep _ _ g1 g2),g3.mono ex⟩)⟩
  ·cases eq
end
end F2
namespace L2
open PySem PySem.Spec PyProof.Rows
section
variable {X:Cx}
end
end L2
namespace F2
open PySem L2 PySem.Spec
section
variable {X:Cx}{pos:Pos}{e:Expr}{es:List Expr}
end
end F2
namespace L2
open PySem PySem.Spec PyProof.Rows
section
variable {X:Cx}{e ek:Expr}{p2 pos:Pos}{te:TE}{tk:TO}
end
end L2
namespace F2
open PySem L2 PySem.Spec
section
variable {X:Cx}
end
end F2
namespace L2
open PySem PySem.Spec PyProof.Rows
section
variable {X:Cx}
end
end L2
namespace F2
open PySem L2 PySem.Spec
section
variable {X:Cx}{pos:Pos}
end
end F2
namespace L2
open PySem PySem.Spec PyProof.Rows
section
variable {X:Cx}
end
end L2
namespace F2
open PySem L2 PySem.Spec
end F2
namespace L2
open PySem PySem.Spec PyProof.Rows
section
variable {X:Cx}
end
section
variable {X:Cx}
end
section
variable {X:Cx}
end
end L2
namespace F2
open PySem L2 PySem.Spec
section
variable {X:Cx}{pos:Pos}{e:Expr}{es:List Expr}
end
end F2
namespace L2
open PySem PySem.Spec PyProof.Rows
section
variable {X:Cx}
end
end L2
namespace F2
open PySem L2 PySem.Spec
def IH:List (Int×M D)->M (List (Key×D))
 | []=>ret []
 | (k,f) :: r=>bnd f λd=>bnd (IH r) λps=>ret ((.inl k,d) :: ps)
def E8 (l:List (Int×M D)):M D:=λt=>bnd (IH l) (FB t.S.length) { t with S:=t.S++[.dct []] }
noncomputable def Px:List (Key×D)->Option (List Int)
 | []=>some []
 | (.inl k,_) :: r=>(Px r).map (k :: ·)
 | _=>none
section
variable {K:PySem.W.Frag}{c:Cf}{H:Hp}
theorem KVR.has {us:List (Key×V)}{kvs:List (Key×D)}(r:KVR K c H us kvs)(k:Key):(D1 us k).isSome=(AU kvs k).isSome:=by
 unfold KVR at r
 induction r with
 | nil=>rfl
 | @cons p q ps qs h t ih=>
   by_cases hk:p.1=k
   ·have hq:q.1=k:=h.1.symm.trans hk;rw [Hu hk];simp [AU,uj3,hq]
   ·have hq:¬q.1=k:=λz=>hk (h.1.trans z);have:AU (q :: qs) k=AU qs k:=by simp [AU,uj3,hq]
    rw [this,Ht hk];exact ih
end
section
variable {X:Cx}{pos:Pos}{e b:Expr}
theorem QC:PE X (.Dict [] [] pos) (RE X.K (E8 [])):=
 AG T6 λσ H Q z9=>by
  obtain ⟨Oo,c,t,fi,r,t',eq,k⟩:=z9;intro p hp;obtain ⟨c1,f1,s1,e1⟩:=fi.newObj (o:=.dct []) (u:=.dK []) hp λc' H' ex hu=>⟨[],hu,.nil⟩;have e2:E8 [] t=some (.obj t.S.length,{ t with S:=t.S++[.dct []] }):=by
   simp [E8,IH,bnd,F2.ret,FB,Bi]
  rw [e2] at eq
  cases eq
  exact k _ _ c1 f1 s1 (.obj e1)
end
end F2
namespace L2
open PySem PySem.Spec PyProof.Rows
noncomputable def tb (led:Bool)(pl:List Nat):SetTable:={ mask:=7,place:=pl.toArray,dummies:=#[],finger:=0,led:=led,moves:=0,plain:=true }
noncomputable def pls:Nat->List (List Nat)
 | 0=>[[]]
 | k + 1=>(pls k).flatMap λl=>(List.range 8).filterMap λj=>if l.all (· < j) then some (l++[j]) else none
section
variable {P:Program}{w:World}{A:Around}{E:Value->Shared->Prop}{s:Shared}
end
section
variable {P:Program}{w:World}{A:Around}{I:Addr}{fp wr:List Addr}{G:Array GenState->Array GenState->Prop}{n:Nat}{Pr:Nat->Value->Prop}{St:Nat->Shared->Prop}
end
section
variable {P:Program}{w:World}{A:Around}{E:Value->Shared->Prop}{s:Shared}
end
section
variable {prog:Program}{w:World}{A:Around}
end
section
variable {X:Cx}
end
end L2
namespace F2
open PySem L2 PySem.Spec PyProof.Rows
section
variable {X:Cx}{pos:Pos}{e:Expr}
end
end F2
namespace L2
open PySem PySem.Spec PyProof.Rows
section
variable {P:Program}{w:World}{A:Around}{E:Value->Shared->Prop}{s:Shared}
structure ZT (h:Heap)(z TI TO i1 i2 t1 t2:Addr)(n:Nat):Prop where
 zz:IsZip h z TI TO .none
 ti:IsPair h TI (.ref i1) (.ref i2)
 ot:∃a b,IsPair h TO a b
 p1:h.IsTupleIter i1 t1 n
 p2:h.IsTupleIter i2 t2 n
end
section
variable {P:Program}{w:World}{A:Around}{E:Value->Shared->Prop}{s:Shared}
end
def Itz (K:PySem.W.Frag)(a b:Addr):It:=
 ⟨λi H=>∃xs ys x y,SqT K H a xs/\SqT K H b ys/\xs[i]?=some x/\ys[i]?=some y,λi H v H'=>∃p x y,v = .ref p/\H p=none/\(∀xs,SqT K H a xs->xs[i]?=some x)/\(∀ys,SqT K H b ys->ys[i]?=some y)/\H'=upd H p (.tup [x,y]),λi H=>∃xs ys,SqT K H a xs/\SqT K H b ys/\(xs.length<=i\/ys.length<=i)⟩
end L2
namespace F2
open PySem L2 PySem.Spec
noncomputable def dW:List D->List D->List D
 | x :: xs,y :: ys=>.tup [x,y] :: dW xs ys
 | _,_=>[]
theorem RF.comp2 {K:PySem.W.Frag}{n:Nat}{fr:List Nat}{f:M (List D)}{st:D->M Unit}{tst:M Bool}{elt:M D}{σ:L2.St}{H:Hp}{Q:VK}(q:RF K (B6 n fr f st tst elt) σ H Q):Mh (RI2 K f) (RG K st) (RT K tst) (RE K elt) (Ff n fr) σ H Q:=by
 obtain ⟨Oo,c,t,fi,xs,t',eq,k⟩:=q;obtain ⟨ds,t1,e1,eq⟩:=Ae eq;refine ⟨Oo,c,t,fi,ds,t1,e1,λJ H1 c1 f1 s1 it=>?_⟩
 cases e3:B5 st tst elt ds ⟨cenv n fr t1.env,t1.S⟩ with
 | none=>rw [e3] at eq;cases eq
 | some p=>
   obtain ⟨ys,t3⟩:=p;rw [e3] at eq;dsimp only at eq
   split at eq
   case isFalse=>cases eq
   next hl=>
   cases eq
   refine ⟨λi m acc σ' H'=>m=ds.length - i/\i<=ds.length/\∃c' t2 zs rest,FInv K c1.O c' t2 σ' H'/\Stp c1.O c1 H1 c' H'/\Reps K c' H' acc zs/\B5 st tst elt (ds.drop i) t2=some (rest,t3)/\xs=zs++rest,
    ⟨_,rfl,um9 _,c1,_,[],xs,G8 f1,.refl,.nil,by rw [uk5];exact e3,rfl⟩,?_⟩
   rintro i m acc σ' H' ⟨rfl,hi,c',t2,zs,rest,f2,s2,ra,e2,ez⟩;have hacc:acc.length<=sizeLine:=by
    have:zs.length<=xs.length:=by rw [ez,uf4];exact uh8 _ _
    rw [ra.length];exact um0 this (um0 hl BU)
   refine ⟨hacc,?_⟩
   by_cases hlt:i < ds.length
   ·refine .inr ⟨it.go c' H' i s2.ext hlt,λx H'' hy=>?_⟩;obtain ⟨p,vs,es,rfl,hp,rfl,ed,rx⟩:=it.yld c' H' i x H'' _ s2.ext (ub3 hlt) hy;rw [ub0 hlt,ed] at e2;unfold B5 at e2;obtain ⟨u,t4,e4,e2⟩:=Ae e2;obtain ⟨kb,t5,e5,e2⟩:=Ae e2;have sL:=f2.stp_laid (o:=.tup vs) hp;have s2':=s2.trans sL;have ra':=ra.mono sL.ext;refine ⟨c1.O,c',t2,_,f2.laid hp,.tup Aj (f2.s.free hp) (rx.mono (Ext.laid f2.s hp)),t4,e4,λσ3 H3 c3 f3 s3=>⟨c1.O,c3,t4,f3,kb,t5,e5,λH4 c4 f4 s4=>?_⟩⟩
    cases kb with
    | false=>
      rw [if_neg uf1] at e2 ⊢;exact ⟨ds.length - (i + 1),by lia,rfl,hlt,c4,t5,zs,rest,f4,(s2'.trans s3).trans s4,ra'.mono (s3.trans s4).ext,e2,ez⟩
    | true=>
      rw [if_pos rfl] at e2 ⊢;obtain ⟨x6,t6,e6,e2⟩:=Ae e2;obtain ⟨r7,t7,e7,e2⟩:=Ae e2
      cases e2
      refine ⟨c1.O,c4,t5,f4,x6,t6,e6,λv H5 c5 f5 s5 rv=>?_⟩;exact ⟨ds.length - (i + 1),by lia,rfl,hlt,c5,t6,zs++[x6],r7,f5,((s2'.trans s3).trans s4).trans s5,(ra'.mono ((s3.trans s4).trans s5).ext).append (.cons rv .nil),e7,by rw [ez,ug4];rfl⟩
   ·have hi':i=ds.length:=by lia
    subst hi';rw [uh7] at e2
    cases e2
    refine .inl ⟨it.stop c' H' s2.ext,λp hp _=>?_⟩;obtain ⟨si,ext⟩:=f2.leave;obtain ⟨f6,s6⟩:=f1.after si ⟨s2.ext.trans ext,s2.oo⟩ (λ_=>Iff.rfl);rw [ui8] at ez;subst ez;exact k p acc H' _ f6 (s1.trans s6) (ra.mono ext) hp
section
variable {X:Cx}{e a b tg iter elt:Expr}{ifs:List Expr}{pos:Pos}{scope:Scope}{N':List Str}{n:Nat}{fr:List Nat}{f:M (List D)}{st:D->M Unit}{tst:M Bool}{el:M D}
theorem Td (O:CmpOk X scope N' (Ff n fr))(hc:X.calm=true)(hi:PI X tg iter (RI2 X.K f))
 (hg:∀cl C s2 H2 fp,PG (Co X N' scope cl C s2 H2 fp) tg (RG X.K st)) (ht:∀cl C s2 H2 fp,PIf (Co X N' scope cl C s2 H2 fp) ifs (RT X.K tst)) (he:∀cl C s2 H2 fp,PE (Co X N' scope cl C s2 H2 fp) elt (RE X.K el))
 (hs:∀x,foldedSetIterable iter X.env x=pure x:=by intro _;rfl):PE X (.ListComp elt [⟨tg,iter,ifs,0⟩] scope pos) (RF X.K (B6 n fr f st tst el)):=
 AG (Lf O hc hi hg ht he hs) λ_ _ _ q=>RF.comp2 q
end
section
variable {X:Cx}{elt:Expr}{pos:Pos}{e:Expr}{es:List Expr}
theorem QD {o:Expr}{f:M D}{g:M (List D)}{apos cpos:Pos}(ho:PE X o (RE X.K f))(ha:PA X (e :: es) (RA X.K g))
 (hbase:attributeBase o "extend" X.env (eval o X.env)=eval o X.env:=by rfl)
 (hfew:((backTo cpos (starEach (e :: es) X.env)).all (λx=>!x.1) && (backToKw cpos (keywordEach [] X.env)).all (λx=>x.1.isSome) && decide ((e :: es).length + ([]:List Keyword).length + (if ([]:List Keyword).isEmpty then 0 else 1) < 30))=true:=by rfl)
 (hline:(apos.endLine == cpos.line)=true:=by rfl) (hs:starEach (e :: es) X.env=(false,eval e X.env) :: starEach es X.env:=by rfl) (hplain:(backTo cpos (starEach es X.env)).any (·.1)=false:=by rfl) :
 PE X (.Call (.Attribute o "extend" apos) (e :: es) [] cpos) (RE X.K (objM Ec f g)):=
 AG (Kl ub8 PySem.F.slot_list_extend PySem.F.type_list_extend On ho ha hbase hfew hline hs hplain) λ_ _ _ q=>RE.objM OL q
end
end F2
namespace L2
open PySem PySem.Spec PyProof.Rows
section
variable {X:Cx}{pins:List (Addr×Obj)}{σ:St}{H:Hp}{s:Shared}{a:Addr}{kvs:List (Key×V)}{o:Obj}
end
section
variable {X:Cx}
end
section
variable {X:Cx}
end
end L2
namespace F2
open PySem L2 PySem.Spec SeqAt
def Qi (K:PySem.W.Frag)(H:Hp)(v w:V):Prop:=∃c dv dw,Rep K c H v dv/\Rep K c H w dw/\eqN EQD dv dw=some true
def Xq (K:PySem.W.Frag)(H:Hp)(v w:V):Prop:=Qi K H v w\/∃a b us ts,v = .ref a/\w = .ref b/\H a=some (.dK us)/\H b=some (.dK ts)/\us.length=ts.length/\(∀kv∈us,∃n:Int,kv.1=Sum.inl n)/\(∀kv∈ts,∃n:Int,kv.1=Sum.inl n)/\∀kv∈us,∃z,D1 ts kv.1=some z/\Qi K H kv.2 z
def eK (K:PySem.W.Frag)(b:Bool):R2:=λx y H Q=>∃p q vs ws,x = .ref p/\y = .ref q/\H p=some (.lst vs)/\H q=some (.lst ws)/\vs.length=ws.length/\(∀(j:Nat) v w,vs[j]?=some v->ws[j]?=some w->Xq K H v w)/\Q (.bl b) H
def MA (S:List Ob)(x y:D):Bool:=Bw (F3 S x) && Bw (F3 S y) && decide (eqN EQD (F3 S x) (F3 S y)=some true)
def d7 (S:List Ob)(x y:D):Bool:=match x,y with
 | .obj m,.obj n=>match S[m]?,S[n]? with
   | some (.dct kvs),some (.dct lvs)=>kvs.length == lvs.length && (Px kvs).isSome && (Px lvs).isSome && kvs.all (λkv=>match AU lvs kv.1 with | some e=>MA S kv.2 e | none=>false)
   | _,_=>MA S x y
 | _,_=>MA S x y
end F2
namespace F2
open PySem L2 PySem.Spec
section
variable {X:Cx}{pos:Pos}
end
end F2
namespace L2
open PySem PySem.Spec PyProof.Rows
structure ZL (h:Heap)(z TI TO i1 i2 t1 t2:Addr)(n:Nat):Prop where
 zz:IsZip h z TI TO .none
 ti:IsPair h TI (.ref i1) (.ref i2)
 ot:∃a b,IsPair h TO a b
 p1:h.IsListIter i1 t1 n
 p2:h.IsListIter i2 t2 n
end L2
namespace F2
open PySem L2 PySem.Spec
section
variable {X:Cx}{a b:Expr}{pos:Pos}
end
end F2
namespace L2
open PySem PySem.Spec PyProof.Rows PySem.W
section
variable {prog:Program}{w:World}{A:Around}{h:Heap}{g:Array GenState}{d:Drawn}{t:Nat}{os:OsState}{R:Result->Shared->Prop}
variable {nm q:Str}{C N fI:Addr}{bs bm bmB:List Value}{hdct:Bool}{sn:List Str}{sub:List Value}{ab:Bool}{col:Option Bool}{dd:Option Addr}{k0 k1 k2 k3 k5:Option Value}{B newId initId:String}{mN:Str->Option Value}
abbrev excObj (C tp:Addr):Obj:={ cls:=.ref C,data:=.fields #[.ref tp,.none,.none,.none,.bool false,.none] }
abbrev DV (h:Heap)(C:Addr)(us:List Value):Heap:=(h.push { cls:=.type "tuple",data:=.seq us.toArray }).push (excObj C h.objs.size)
theorem Jv (F:ExcBaseFacts B newId initId bmB)(T:OwnTail h bmB bm){us:List Value}(hC:h.get? C=some (excClassObj nm q C N bs bm hdct sn sub ab col dd k0 k1 k2 k3 k5 newId))(hn:h.Ns N mN)(hni:mN "__init__" = some (.ref fI))
 (hb:Looks (model prog w) h (bindSpecial (.ref fI) (.ref (h.objs.size + 1))) (.ref fI,[.ref (h.objs.size + 1)])) (hus:us.length<=sizeLine)
 (hq:codeAny (model prog w) (A.under (.builtin "type.__call__" ⟨.ref C :: us,[]⟩)) (.call (.ref fI) ⟨.ref (h.objs.size + 1) :: us,[]⟩) (InitBack (h.objs.size + 1) R) ⟨DV h C us,g,d,t,os⟩) :
 codeAny (model prog w) A (.call (.ref C) ⟨us,[]⟩) R ⟨h,g,d,t,os⟩:=by
 have c1:=tc_lookup;have c2:=tc_bind (.ref C);have ty:(⟨h,g,d,t,os⟩:Shared).TypeIs (.ref C) "type":=⟨_,hC,rfl⟩;refine codeAny_of_tree ?_;show wpAny _ _ (callAny (.ref C) _) _ _ _
 repeat (any_goals (first
  | assumption
  | with_reducible refine wpAny_loadPart_at hC ?_
  | wp_step))
 refine ⟨rfl,codeAny_call_builtin_at (Code.quiet_builtin _ (by decide +kernel)) entry_typeCall (wpAny_check_type_call_sub hC ?_)⟩
 repeat (first
  | with_reducible refine wpAny_loadPart_at hC ?_
  | with_reducible refine wpAny_madeBy_exc hC ?_
  | wp_step)
 refine codeAny_call_builtin_code (Code.quiet_builtin _ F.quiet) (wpAny_check_new_subT F T hC (codeAny_exc_new_subT F T hC ?_ hus))
 change wpAny _ _ _ _ _ (Shared.mk (DV h C us) g d t os)
 have kp:∀b o,h.get? b=some o->(DV h C us).get? b=some o:=λb o e=>uc2 _ (uc2 _ e);have he:(DV h C us).get? (h.objs.size + 1)=some { cls:=.ref C,data:=.fields #[.ref h.objs.size,.none,.none,.none,.bool false,.none] }:=by heap_get
 have n1:(DV h C us).Ns N mN:=hn.keeps kp;have cC:(Value.ref C :: bm).contains (.ref C)=true:=by simp
 unfold isInstance
 repeat (first
  | with_reducible refine wpAny_loadPart_at he ?_
  | (with_reducible refine wpAny_isSubtype_exc (kp _ _ hC) ?_;rw [cC])
  | wp_step)
 show wpAny _ _ (typeLookup (.ref C) _) _ _ _;refine wpAny_typeLookup_tail (kp _ _ hC) n1 (T.keeps kp) F.mroIs F.init.lookup ?_;rw [hni];refine ul7 (un2 ((hb.keeps kp).at ?_));refine un2 (wpAny_call (codeAny_mono hq λr s' z=>?_))
 cases r with
 | error e=>exact z
 | ok f=>
   cases f with
   | ret v=>
     obtain ⟨rfl,z⟩:=z;exact un3 (un3 z)
   | _=>exact z.elim
end
end L2
namespace L2
open PySem PySem.Spec PyProof.Rows PySem.W PySem.Builtin PySem.Builtin.ObjectAttr
theorem RQ (self:Value):refuseLoop self "__setattr__" [.type "ValueError",.type "Exception",.type "BaseException",.type "object"]=pure ():=by
 kernel_rfl
abbrev Gb (C P:Addr):List Value:=[.ref C,.ref P,.type "ValueError",.type "Exception",.type "BaseException",.type "object"]
theorem Ko (self:Value)(C P:Addr):refuseLoop self "__setattr__" (Gb C P)=pure ():=by
 rw [Gb,refuseLoop_ref,refuseLoop_ref];exact RQ self
section
variable {prog:Program}{w:World}{A:Around}{s:Shared}{K:PySem.W.Frag}{x C P tp:Addr}{R:Result->Shared->Prop}{name:Str}{v:Value}{tk:Tok}{cd:ClassData}
theorem Wi (X:K.In s.heap)(hx:s.heap.get? x=some (excObj C tp))(hc:clsIn K C=some cd)(hmr:cd.mro=Gb C P)(ha:findIn K (.ref C) name=some none)
 (h:wpAny (model prog w) A.in1 (storeInOwnDict (.ref x) (.ref C) (.str name tk) name v false) (λfin s'=>match fin with | .done f=>R (.ok f) s' | .again c'=>c'.quiet=true/\codeAny (model prog w) A c' R s') (λe s'=>R (.error e) s') s) :
 codeAny (model prog w) A (.call (.builtin "object.__setattr__") ⟨[.ref x,.str name tk,v],[]⟩) R s:=by
 have SF:=PySem.F.store_object;have I:InstAt s.heap x (excObj C tp) C none:=⟨hx,rfl,rfl,trivial⟩;have ob:Looks (model prog w) s.heap (isInstance (.ref x) (.type "object")) true:=I.type.andThen (looks_mroIn X (by unfold mroIn;rw [hc,Option.bind_some,hmr];rfl));refine codeAny_call_builtin SF.slot.plain SF.entry (@check_slot (model prog w) _ _ s "object.__setattr__" "object" "__setattr__" (.ref x) [.str name tk,v] [] _ SF.kind SF.split ob (SF.args (.ref x) (.str name tk) v) ?_);have mr:Looks (model prog w) s.heap (mroOf (.ref C)) (Gb C P):=by rw [<-hmr];exact (looks_clsIn X hc).andThen .now
 rw [osa_eq,refuse_eq];refine un2 (un2 (I.type.here (un2 (mr.here ?_))));rw [Ko];refine un3 (un2 (I.type.here (un2 ((looks_findIn X ha).here ?_))));exact un2 (un3 h)
theorem W7 {E:Value->Shared->Prop}{Q:Unit->Shared->Prop}(X:K.In s.heap)(hx:s.heap.get? x=some (excObj C tp))(hs:findIn K (.ref C) "__setattr__" = some (some (.builtin "object.__setattr__")))(hc:clsIn K C=some cd)(hmr:cd.mro=Gb C P)(hd:cd.hasDict=true)(ha:findIn K (.ref C) name=some none)
 (h:∀h',(∀b o,b≠x->s.heap.get? b=some o->h'.get? b=some o)->h'.get? x=some { excObj C tp with dict:=some s.heap.objs.size }->h'.Ns1 s.heap.objs.size (λy=>if y=name then some v else none)->Q () { s with heap:=h',toks:=s.toks + 2 }) :
 wpAny (model prog w) A (setAttr (.ref x) name v) Q E s:=by
 have I:InstAt s.heap x (excObj C tp) C none:=⟨hx,rfl,rfl,trivial⟩;refine set_plain X I hs (Wi (s:={ s with toks:=s.toks + 1 }) X hx hc hmr ha ?_);refine un2 (un3 (un2 (un2 (wpAny_loadPart (s:={ s with toks:=s.toks + 1 }) hx (un2 (Looks.here (s:={ s with toks:=s.toks + 1 }) (looks_clsIn X hc) ?_))))));rw [hd,if_neg (by decide)];show wpAny _ _ (alloc _ >>= λdx=>update x _ >>= λ_=>pure (some dx)) _ _ _;have hx1:(s.heap.push emptyDict).get? x=some (excObj C tp):=uc2 _ hx;have hne:s.heap.objs.size≠x:=um1 (ul8 hx);refine un2 (wpAny_alloc (s:={ s with toks:=s.toks + 1 }) (un2 (wpAny_update hx1 (un3 ?_))));have hx2:((s.heap.push emptyDict).update x λo=>{ o with dict:=some s.heap.objs.size }).get? x=some { excObj C tp with dict:=some s.heap.objs.size }:=ud6 _ hx1 rfl;have hk:∀b o,b≠x->s.heap.get? b=some o->((s.heap.push emptyDict).update x λo=>{ o with dict:=some s.heap.objs.size }).get? b=some o:=λb o hb e=>(uc5 _ _ (Ne.symm hb)).trans (uc2 _ e);have hdx:((s.heap.push emptyDict).update x λo=>{ o with dict:=some s.heap.objs.size }).get? s.heap.objs.size=some emptyDict:=(uc5 _ _ (Ne.symm hne)).trans (ue3 _ rfl);have n1:((s.heap.push emptyDict).update x λo=>{ o with dict:=some s.heap.objs.size }).Ns1 s.heap.objs.size λ_=>none:=⟨_,#[],_,hdx,rfl,(λe he=>by simp at he),(by simp [UniqKeys]),λ_=>rfl⟩;refine un2 (un3 (un2 ?_));refine wpAny_nsSet1 n1 λh' n2 sb=>?_;obtain ⟨oD,esD,epD,hoD,hdD,hcD⟩:=n2.count (PySem.Within.cons name v (ns:=[]) (λy u=>absurd rfl u));refine un2 (wpAny_lookBehind hoD (by rw [hdD];exact pastItsLine_dict (um0 hcD (by show 1<=_;decide))) ?_);exact un3 (h h' (λb o hb e=>by
  by_cases hb2:b=s.heap.objs.size
  ·subst hb2;exact absurd (ul8 e) (uk7 _)
  ·exact (sb.2 b hb2).trans (hk b o hb e)) ((sb.2 x (Ne.symm hne)).trans hx2) n2)
end
end L2
namespace L2
open PySem PySem.Spec PyProof.Rows PySem.W
variable {qx:Bool}
def XRec (qx:Bool)(h:Heap)(x C:Addr)(dx:Option Addr)(tb:Value):Prop:=∃(o:Obj) (vs:Array Value),h.get? x=some o/\o.cls = .ref C/\o.dict=dx/\o.data = .fields vs/\vs[1]?=some tb/\(qx=true->vs[2]?=some .none/\4 < vs.size)
theorem XL {qx:Bool}{vs:Array Value}{v:Value}(h:qx=true->vs[2]?=some .none/\4 < vs.size):qx=true->(vs.setIfInBounds 1 v)[2]?=some .none/\4 < (vs.setIfInBounds 1 v).size:=λz=>by
 rw [ua1 (by decide),ub4];exact h z
theorem XRec.to {qx:Bool}{h:Heap}{x C:Addr}{dx:Option Addr}{tb:Value}(r:XRec true h x C dx tb):XRec qx h x C dx tb:=by
 obtain ⟨o,vs,h1,h2,h3,h4,h5,h6⟩:=r;exact ⟨o,vs,h1,h2,h3,h4,h5,λ_=>h6 rfl⟩
def XTb (h:Heap)(T:Addr):Prop:=∃(o:Obj) (ts:Array Value),h.get? T=some o/\o.data = .fields ts/\ts[3]?=some .none
structure XKeep (fs ch:List Addr)(h h':Heap):Prop where
 keep:∀b o,b∉ch->b∉fs->h.get? b=some o->h'.get? b=some o
 slot:∀b o,b∉ch->h.get? b=some o->∃sl,h'.get? b=some { o with slots:=sl }
section
variable {M:Model}{A:Around}{E:Value->Shared->Prop}{s:Shared}{env:Env}{outer:List Env}{base:Heap}{L x C:Addr}{dx:Option Addr}{tb:Value}{Q:Unit->Shared->Prop}
theorem FW {o:Obj}{vs:Array Value}(hd:o.data = .fields vs)(f:Array Value->Array Value):(o.mapFields f).data = .fields (f vs)/\(o.mapFields f).cls=o.cls/\(o.mapFields f).dict=o.dict:=by
 obtain ⟨c,d,dt,sl⟩:=o
 cases hd
 exact ⟨rfl,rfl,rfl⟩
end
end L2
namespace L2
open PySem PySem.Spec PyProof.Rows PySem.W
variable {qx:Bool}
abbrev VE:List Value:=[.type "ValueError",.type "Exception",.type "BaseException",.type "object"]
structure XCl (K:PySem.W.Frag)(C:Addr)(bm:List Value):Prop where
 ex:∃cd dd k0 k1 k2 k3 k5,K.lookup C=some { cls:=.type "type",dict:=dd,data:=.cls cd,slots:=#[k0,k1,k2,k3,some (.builtin "ValueError.__new__"),k5] }/\cd.mro = .ref C :: bm/\cd.hasDel=false/\cd.hasDict=true/\nsOkIn K cd.ns=true
 tl:tailIn K VE bm=true
noncomputable def Ml (K:PySem.W.Frag)(C:Addr)(bm:List Value):Bool:=tailIn K VE bm && match K.lookup C with
 | some ⟨.type "type",_,.cls cd,sl⟩=>(match sl.toList with
   | [_,_,_,_,some (.builtin n),_]=>n == "ValueError.__new__" && cd.mro == .ref C :: bm && !cd.hasDel && cd.hasDict && nsOkIn K cd.ns
   | _=>false)
 | _=>false
variable {K:PySem.W.Frag}{C:Addr}{bm:List Value}
theorem XCl.of_in (q:Ml K C bm=true):XCl K C bm:=by
 unfold Ml at q;rw [uh5] at q;refine ⟨?_,q.1⟩;have q:=q.2
 split at q
 ·rename_i dd cd sl ho
  split at q
  ·rename_i k0 k1 k2 k3 n k5 hs;simp only [uh5,beq_iff_eq,Bool.not_eq_true'] at q;obtain ⟨⟨⟨⟨rfl,h1⟩,h2⟩,h3⟩,h4⟩:=q;have hsl:sl=#[k0,k1,k2,k3,some (.builtin "ValueError.__new__"),k5]:=by
    cases sl
    exact congrArg Array.mk hs
   exact ⟨cd,dd,k0,k1,k2,k3,k5,by rw [ho,hsl],h1,h2,h3,h4⟩
  ·cases q
 ·cases q
theorem XCl.obj {K:PySem.W.Frag}{C:Addr}{bm:List Value}{h:Heap}(c:XCl K C bm)(X:K.In h):∃nm q N bs sn sub ab col dd k0 k1 k2 k3 k5,h.get? C=some (excClassObj nm q C N bs bm true sn sub ab col dd k0 k1 k2 k3 k5 "ValueError.__new__")/\h.Ns N (h.nsMap N):=by
 obtain ⟨⟨nm,bs,mro,ns,qn,hd,sn,sub,ab,col,del⟩,dd,k0,k1,k2,k3,k5,h1,h2,h3,h4,h5⟩:=c.ex;dsimp only at h2 h3 h4 h5;subst h2 h3 h4;exact ⟨nm,qn,ns,bs,sn,sub,ab,col,dd,k0,k1,k2,k3,k5,X _ _ h1,.of_isNs (isNs_of_in X h5)⟩
variable {h:Heap}
theorem XCl.tail (c:XCl K C bm)(X:K.In h):OwnTail h VE bm:=tail_of_in X c.tl
theorem XCl.has (c:XCl K C bm)(X:K.In h):(Value.ref C :: bm).contains (.type "BaseException")=true:=by
 rw [List.contains_cons,(c.tail X).hasType (b:=true) (by decide +kernel),Bool.or_true]
section
variable {M:Model}{A:Around}{E:Value->Shared->Prop}{env:Env}{K:PySem.W.Frag}{C:Addr}{bm:List Value}{s:Shared}
theorem Uj {t:Sem Value}{Q:Flow->Shared->Prop}(c:XCl K C bm)(hh:A.handled=none)
 (h:wpAny M A t (λv s1=>∃x dx,v = .ref x/\K.In s1.heap/\XRec qx s1.heap x C dx .none/\E v s1) E s):wpAny M A (raiseStmt env (some t) none) Q E s:=by
 unfold raiseStmt;refine un2 (un4 h (λv s1 q=>?_) λ_ _ z=>z);obtain ⟨x,dx,rfl,X,⟨o,vs,hx,hc,hd,hdt,h1,_⟩,hE⟩:=q;obtain ⟨nm,q,N,bs,sn,sub,ab,col,dd,k0,k1,k2,k3,k5,hC,_⟩:=c.obj X;have hb:=c.has X;obtain ⟨hp,g,d,tk,os⟩:=s1
 repeat (first
  | (with_reducible refine wpAny_loadPart_at hx ?_;rw [hc])
  | with_reducible refine wpAny_loadPart_at hC ?_
  | (with_reducible refine wpAny_isSubtype_exc hC ?_;rw [hb])
  | with_reducible refine un1 hx hdt h1 ?_
  | wp_step)
 exact wpAny_raiseNew_none hh hE
end
def CX1 (qx:Bool)(P:Program)(w:World):CXT:=λouter H s E e s'=>∃(x C:Addr) (dx:Option Addr) (T:Addr) (H':Hp),e = .ref x/\s'.os=s.os/\AllBare s'.gens/\Un (frs outer) [] H H' s.heap s'.heap/\HOk P w H' s'.heap/\
 H' x=some (.ext (F2.XIs qx x C dx))/\s.heap.objs.size<=x/\s.heap.objs.size<=T/\T≠x/\H' T=none/\XRec qx s'.heap x C dx (.ref T)/\XTb s'.heap T/\E (.ref x) dx H'
variable {dx:Option Addr}
theorem XRec.is {x:Addr}{tb:Value}(r:XRec qx h x C dx tb):F2.XIs qx x C dx h:=by
 obtain ⟨o,vs,h1,h2,h3,h4,_,h5⟩:=r;exact ⟨o,vs,h1,h2,h3,h4,h5⟩
theorem XIs.stay {x:Addr}{h1 h2:Heap}(r:F2.XIs qx x C dx h1)(k:∀o,h1.get? x=some o->h2.get? x=some o):F2.XIs qx x C dx h2:=by
 obtain ⟨o,vs,e,q⟩:=r;exact ⟨o,vs,k o e,q⟩
theorem HR {P:Program}{w:World}{H:Hp}{x:Addr}(r:F2.XIs qx x C dx h):ObjOk P w H h x (.ext (F2.XIs qx x C dx)):=
 ⟨r,let ⟨o,_,e,_⟩:=r;⟨o,e⟩,λ_ _ q k=>XIs.stay q k⟩
section
variable {X:Cx}{pins:List (Addr×Obj)}{σ:St}{H H':Hp}{s s':Shared}{h':Heap}{x C T:Addr}{dx:Option Addr}{ch:List Addr}
theorem UG (k:XKeep (frs X.stack) ch s.heap h')(hT:∀b∈ch,b=x\/b=T):Un (frs X.stack) (x :: T :: []) H H s.heap h':=by
 have nch:∀b:Addr,b∉(x :: T :: [])->b∉ch:=λb hb z=>hb (by rcases hT b z with rfl | rfl <;> simp);refine ⟨λb o e n hb hx=>k.keep b o (nch b hx) hb e,λb o e n hb hx=>k.slot b o (nch b hx) e,λb o e n _=>n,λb o e hx=>?_,λ_ _ e=>e,λ_ _ _ e=>e,λb ps e=>⟨#[],by rw [e];simp⟩⟩;obtain ⟨sl,q⟩:=k.slot b o (nch b hx) e;exact ⟨_,q⟩
theorem Inv.left (I:Inv X pins σ H s)(hx:H x=some (.ext (F2.XIs qx x C dx)))(hT:H T=none)(nx:X.s₀.heap.objs.size<=x)(nT:X.s₀.heap.objs.size<=T)(k:XKeep (frs X.stack) ch s.heap h')(hc:∀b∈ch,b=x\/b=T)(r:F2.XIs qx x C dx h')
 (oT:∀y c,X.env.cells.lookup y=some c->c≠T) (lT:T≠X.env.locals) (pT:∀p∈X.pn++pins,p.1≠T):Inv X pins σ H { s with heap:=h' }:=by
 have nfr:∀b u,H b=some u->b∉frs X.stack:=λb u e z=>by rw [I.stkFree b z] at e;cases e
 refine I.call (g':=s.gens) (t':=s.toks) (d':=s.drawn) (ch:=[x,T]) (UG k hc) (λb u e=>?_) I.bare λb hb=>?_
 ·by_cases hb:b=x
  ·subst hb;rw [hx] at e;cases e;exact HR r
  ·refine (I.hok b u e).stay (λc v hcc q=>k.keep c v ?_ ?_ q) (λ_ q=>q) λ_ _ q=>q
   ·intro z;rcases hcc with rfl | hcc
    ·rcases hc c z with q | q
     ·exact hb q
     ·rw [q,hT] at e;cases e
    ·rcases hc c z with q | q
     ·rw [q,hx] at hcc;cases hcc
     ·rw [q,hT] at hcc;cases hcc
   ·rcases hcc with rfl | hcc
    ·exact nfr _ _ e
    ·exact nfr _ _ hcc
 ·have q:b=x\/b=T:=by simpa using hb
  rcases q with rfl | rfl
  ·exact ⟨.inr nx,(λz=>by rw [z,I.free] at hx;cases hx),(λy c e z=>by subst z;rw [I.freeC y c e] at hx;cases hx),λp hp z=>by rw [<-z,(I.pin p hp).2.1] at hx;cases hx⟩
  ·exact ⟨.inr nT,lT,oT,pT⟩
theorem Inv.raised (I:Inv X pins σ H s){E:XK}{e:Value}(q:CX1 qx X.prog X.w X.stack H s E e s'):∃(x C:Addr) (dx:Option Addr) (T:Addr) (H':Hp),e = .ref x/\Inv X pins σ H' s'/\H' x=some (.ext (F2.XIs qx x C dx))/\s.heap.objs.size<=x/\s.heap.objs.size<=T/\T≠x/\H' T=none/\XRec qx s'.heap x C dx (.ref T)/\XTb s'.heap T/\E (.ref x) dx H':=by
 obtain ⟨x,C,dx,T,H',he,os,bare,un,hok,hx,nx,nT,ne,hT,r,tb,q⟩:=q;obtain ⟨hh,g,d,t,os'⟩:=s';obtain rfl:os'=s.os:=os;exact ⟨x,C,dx,T,H',he,I.call (h':=hh) (g':=g) (d':=d) (t':=t) (ch:=[]) un hok bare (λb z=>absurd z (by simp)),hx,nx,nT,ne,hT,r,tb,q⟩
theorem Inv.newT (I:Inv X pins σ H s)(h:s.heap.objs.size<=T):T≠X.env.locals/\(∀y c,X.env.cells.lookup y=some c->c≠T)/\∀p∈X.pn++pins,p.1≠T:=by
 have far:∀b o,s.heap.get? b=some o->b≠T:=λb o e z=>absurd (ue9 (ul8 e) h) (by rw [z];exact uk7 _);refine ⟨λz=>absurd I.lt (by rw [<-z];exact Nat.not_lt.mpr h),λy c e=>?_,λp hp=>far _ _ (I.pin p hp).1⟩;obtain ⟨v,o,ho,_⟩:=I.cell y c e;exact far c o ho
end
section
variable {P:Program}{w:World}{K:PySem.W.Frag}{mg:Str->Option Value}{base:Heap}{N:List Str}{qual:Str}{scope:Scope}{f:Addr}{cd:Value}{A:Around}{outer:List Env}{s₀:Shared}{H₀:Hp}{E:XK}
end
end L2
namespace L2
open PySem PySem.Spec PyProof.Rows PySem.W
noncomputable def exO (x C tp:Addr):HO:=.ext λh=>h.get? x=some (excObj C tp)
noncomputable def Fg (x C tp dx:Addr):HO:=.ext λh=>h.get? x=some { excObj C tp with dict:=some dx }
theorem MU {P:Program}{w:World}{H:Hp}{h:Heap}{x C tp:Addr}(e:h.get? x=some (excObj C tp)):ObjOk P w H h x (exO x C tp):=⟨e,⟨_,e⟩,λ_ _ p k=>k _ p⟩
theorem Vp {P:Program}{w:World}{H:Hp}{h:Heap}{x C tp dx:Addr}(e:h.get? x=some { excObj C tp with dict:=some dx }):ObjOk P w H h x (Fg x C tp dx):=⟨e,⟨_,e⟩,λ_ _ p k=>k _ p⟩
structure XAt (K:PySem.W.Frag)(C P:Addr)(f:Str):Prop where
 cl:XCl K C (.ref P :: VE)
 set:findIn K (.ref C) "__setattr__" = some (some (.builtin "object.__setattr__"))
 no:findIn K (.ref C) f=some none
theorem XCl.cls {K:PySem.W.Frag}{C:Addr}{bm:List Value}(c:XCl K C bm):∃cd,clsIn K C=some cd/\cd.mro = .ref C :: bm/\cd.hasDict=true:=by
 obtain ⟨cd,dd,k0,k1,k2,k3,k5,h1,h2,_,h4,_⟩:=c.ex;exact ⟨cd,by unfold clsIn;rw [h1],h2,h4⟩
def sXF (K:PySem.W.Frag)(P:Addr)(ta tv:TE)(f:Str):TS:=λD σ H=>tv σ H λy H1=>ta σ H1 λx H2=>∃a C tp,x = .ref a/\H2 a=some (exO a C tp)/\XAt K C P f/\
 ∀dx,H2 dx=none->dx≠a->D.nx σ (upd (upd H2 dx (.xd [(f,y)])) a (Fg a C tp dx))
theorem PR {X:Cx}{P:Addr}{o value:Expr}{ta tv:TE}{f:Str}{pos' pos:Pos}(ha:PE X o ta)(hv:PE X value tv)(hs:swapsWith value (some (.Attribute o f pos')) pos.line X.env=pure false):PS X (.Assign [.Attribute o f pos'] value pos) (sXF X.K P ta tv f):=by
 intro pins s σ H D I h;refine plainObj_wpAny_Assign_Attribute (thn (hv pins s σ H _ I h) λu s1 ⟨y,H1,I1,ry,q⟩=>thn (ha pins s1 σ H1 _ I1 q) λov s2 z9=>?_) hs;obtain ⟨x,H2,I2,rx,a,C,tp,ex,ea,c,q2⟩:=z9;subst ex;obtain rfl:ov=Value.ref a:=rx;obtain ⟨cd,c1,c2,c3⟩:=c.cl.cls;have hx:s2.heap.get? a=some (excObj C tp):=(I2.hok a _ ea).1;refine W7 I2.kIn hx c.set c1 c2 c3 c.no λh' k e n=>?_;have fr:=I2.hok.fresh (um8 s2.heap.objs.size);have ne:s2.heap.objs.size≠a:=(λz=>by rw [z,ea] at fr;cases fr)
 have nn:∀b u,H2 b=some u->b≠s2.heap.objs.size:=λb u z=>AJ z fr;have na:∀b u,s2.heap.get? b=some u->H2 b=none->b≠a:=λb u _ z w'=>by rw [w',ea] at z;cases z
 refine ⟨σ,_,I2.un (h':=h') (t':=s2.toks + 2) ⟨λb u e1 e2 _ _=>k b u (na b u e1 e2) e1,λb u e1 e2 _ _=>⟨u.slots,k b u (na b u e1 e2) e1⟩,λb u e1 e2 _=>?_,λb u e1 _=>?_,λb xs e1=>?_,λb o' u e1=>?_,λb ps e1=>⟨#[],?_⟩⟩ λb u e1=>?_,q2 s2.heap.objs.size fr ne⟩
 ·rw [Ag (na b u e1 e2),Ag (ul9 (ul8 e1))];exact e2
 ·by_cases hb:b=a
  ·subst hb;exact ⟨_,e⟩
  ·exact ⟨_,k b u hb e1⟩
 ·rw [Ag (λz=>by rw [z,ea] at e1;cases e1),Ag (nn _ _ e1)];exact e1
 ·rw [Ag (λz=>by rw [z,ea] at e1;cases e1),Ag (nn _ _ e1)];exact e1
 ·rw [Ag (λz=>by rw [z,ea] at e1;cases e1),Ag (nn _ _ e1),e1];simp
 ·by_cases hb:b=a
  ·subst hb;rw [Aj] at e1;cases e1;exact Vp e
  ·rw [Ag hb] at e1
   by_cases hb2:b=s2.heap.objs.size
   ·subst hb2;rw [Aj] at e1;cases e1
    refine ⟨_,n,λg=>?_⟩
    by_cases hg:g=f
    ·subst hg;simp only [List.lookup,ui3,if_true];exact ry
    ·have hgb:(g == f)=false:=beq_eq_false_iff_ne.mpr hg;simp only [List.lookup,hgb,if_neg hg];trivial
   ·rw [Ag hb2] at e1;refine (I2.hok b u e1).stay (λz v hz q=>k z v ?_ q) (λz q=>?_) λz xs q=>?_
    ·rcases hz with rfl | hz
     ·exact hb
     ·intro w';rw [w',ea] at hz;cases hz
    ·rw [Ag (λz=>by rw [z,ea] at q;cases q),Ag (nn _ _ q)];exact q
    ·rw [Ag (λz=>by rw [z,ea] at q;cases q),Ag (nn _ _ q)];exact q
variable {qx:Bool}
theorem Hi {K:PySem.W.Frag}{h:Heap}{N:Addr}{m:Str->Option Value}{n:Str}{v:Value}(X:K.In h)(G:h.Ns N m)(e:nsIn K N n=some (some v)):m n=some v:=by
 obtain ⟨o,es,ep,ho,hd,_,hf⟩:=G;unfold nsIn at e
 split at e
 ·next c d es' n' sl q=>
  have z:=X _ _ q;rw [ho] at z
  cases z
  cases hd
  split at e
  ·next en he=>
   rw [<-hf];unfold nsFind findBy;rw [<-uf2,he];simpa using e
  ·split at e <;> cases e
 ·cases e
structure XMk (K:PySem.W.Frag)(C P f:Addr):Prop where
 cl:XCl K C (.ref P :: VE)
 init:∃cd,clsIn K C=some cd/\nsIn K cd.ns "__init__" = some (some (.ref f))
 fn:isFn K (.ref f)=true
 kp:keepIn K (.ref C)=true
def spI (K:PySem.W.Frag)(P:Addr)(a:Str):Sp:=λvs H Q _=>∃x C tp v,vs=[.ref x,v]/\H x=some (exO x C tp)/\XAt K C P a/\∀dx,H dx=none->dx≠x->Q .non (upd (upd H dx (.xd [(a,v)])) x (Fg x C tp dx))
section
variable {X:Cx}{k:Nat}{f C P:Addr}{fd:FuncData}{pins:List (Addr×Obj)}{σ:St}{H:Hp}{s:Shared}{Q:Value->Shared->Prop}{us:List Value}{vs:List V}{a:Str}{ps:List Str}{v:V}{u:Value}
theorem RZ (M:XMk X.K C P f)(ha:XAt X.K C P a)(F:FnOk X.prog X.w X.K X.mg X.base CX0 k f fd ps (spI X.K P a))(hr:Room (k + 1) X.A)(hb:Binds X.K fd ps [])(I:Inv X pins σ H s)(r:RelV v u)
 (h:∀s' x dx,Inv X pins σ (upd (upd H dx (.xd [(a,v)])) x (.ext (F2.XIs qx x C (some dx)))) s'->H x=none->H dx=none->dx≠x->s.heap.objs.size<=x->XRec true s'.heap x C (some dx) .none->Q (.ref x) s'):wpAny (model X.prog X.w) X.A (call (.ref C) [u]) Q X.xe s:=by
 obtain ⟨nm,q,N,bs,sn,sub,ab,col,dd,k0,k1,k2,k3,k5,hC,hN⟩:=M.cl.obj I.kIn;have hni:s.heap.nsMap N "__init__" = some (.ref f):=by
  obtain ⟨cd,c1,c2⟩:=M.init;refine Hi I.kIn hN ?_;unfold clsIn at c1
  split at c1
  ·next l=>
   cases c1
   have z:=I.kIn _ _ l;rw [hC] at z
   cases z
   exact c2
  ·cases c1
 have I1:Inv X pins σ (upd H (s.heap.objs.size + 1) (exO (s.heap.objs.size + 1) C s.heap.objs.size)) { s with heap:=DV s.heap C [u] }:=by
  refine I.laid (t':=s.toks) (λb o e=>uc2 _ (uc2 _ e)) (un0 _) (MU ?_);show ((s.heap.push _).push _).get? _=_
  heap_get
 have hx0:=I.hok.fresh (un0 s.heap.objs.size);have r2:Vals [V.ref (s.heap.objs.size + 1),v] [Value.ref (s.heap.objs.size + 1),u]:=.cons rfl (.cons r .nil);have hsp:spI X.K P a [V.ref (s.heap.objs.size + 1),v] (upd H (s.heap.objs.size + 1) (exO (s.heap.objs.size + 1) C s.heap.objs.size))
  (λw' H'=>w' = .non/\∃dx,H dx=none/\dx≠s.heap.objs.size + 1/\H'=upd (upd H dx (.xd [(a,v)])) (s.heap.objs.size + 1) (Fg (s.heap.objs.size + 1) C s.heap.objs.size dx)) E0:=by
  refine ⟨_,C,s.heap.objs.size,v,rfl,Aj,ha,λdx h1 h2=>⟨rfl,dx,by rw [Ag h2] at h1;exact h1,h2,?_⟩⟩
  funext b
  by_cases e1:b=s.heap.objs.size + 1
  ·subst e1;rw [Aj,Aj]
  ·by_cases e2:b=dx
   ·subst e2;rw [Ag e1,Ag e1,Aj,Aj]
   ·rw [Ag e1,Ag e1,Ag e2,Ag e2,Ag e1]
 have hl:([Value.ref (s.heap.objs.size + 1),u]++[]).length=ps.length:=by
  have e:=F.len _ _ _ _ hsp;simpa using e
 obtain ⟨hh,g,d,t,os⟩:=s;refine wpAny_call (Jv ua5 (M.cl.tail I.kIn) hC hN hni ((bind_fn I.kIn _ (beq_iff_eq.mp M.fn))) (by show 1<=sizeLine;decide) ?_);refine codeAny_mono (F.run _ X.stack _ _ ⟨[Value.ref (hh.objs.size + 1),u],[]⟩ [Value.ref (hh.objs.size + 1),u] _ _ E0 (hr.make C [u] []) (I1.env0.make C [u] []) (by have:=hb _ [Value.ref (hh.objs.size + 1),u] I1.kIn hl;simpa using this) r2 hsp) λr s' hq'=>?_
 cases r with
 | error e=>exact hq'.elim
 | ok fl=>
   cases fl with
   | ret w'=>
     obtain ⟨v',H',I3,rv,rfl,dx,d1,d2,rfl⟩:=I1.after hq';refine ⟨rv,?_⟩;have hx:=(I3.hok (hh.objs.size + 1) _ Aj).1;have hx:s'.heap.get? (hh.objs.size + 1)=some { excObj C hh.objs.size with dict:=some dx }:=hx;have xr:XRec true s'.heap (hh.objs.size + 1) C (some dx) .none:=⟨_,_,hx,rfl,rfl,rfl,rfl,λ_=>⟨rfl,by show 4 < 6;decide⟩⟩;have I4:=I3.write (x:=hh.objs.size + 1) (e:=hh.objs.size + 1) (o:=.ext (F2.XIs qx (hh.objs.size + 1) C (some dx))) (h':=s'.heap) (t':=s'.toks) (by rw [Aj];trivial) (.inl rfl) (λ_ _ _ z=>z) ⟨_,hx⟩ (HR xr.to.is);rw [Lq] at I4;exact h s' (hh.objs.size + 1) dx I4 hx0 d1 d2 (un0 _) xr
   | next=>exact False.elim hq'
   | brk=>exact False.elim hq'
   | cont=>exact False.elim hq'
end
end L2
namespace L2
open PySem PySem.Spec PyProof.Rows PySem.W
variable {qx:Bool}
section
variable {M:Model}{A:Around}{E:Value->Shared->Prop}{K:PySem.W.Frag}{s:Shared}{x C C':Addr}{bm bm':List Value}{dx:Option Addr}{tb:Value}
theorem Jw {Q:Bool->Shared->Prop}(c:XCl K C bm)(c':XCl K C' bm')(X:K.In s.heap)(hx:XRec qx s.heap x C dx tb)(h:Q ((Value.ref C :: bm).contains (.ref C')) s):wpAny M A (excMatches (.ref x) (.ref C')) Q E s:=by
 obtain ⟨nm,q,N,bs,sn,sub,ab,col,dd,k0,k1,k2,k3,k5,hC,_⟩:=c.obj X;obtain ⟨nm',q',N',bs',sn',sub',ab',col',dd',k0',k1',k2',k3',k5',hC',_⟩:=c'.obj X;have hb:=c'.has X;obtain ⟨o,vs,ho,hc,hd,hdt,h1⟩:=hx;obtain ⟨hp,g,d,tk,os⟩:=s;have ty:(⟨hp,g,d,tk,os⟩:Shared).TypeIs (.ref C') "type":=⟨_,hC',rfl⟩;have nt:=tc_notTuple
 cases hbb:(Value.ref C :: bm).contains (.ref C') <;> (
  rw [hbb] at h;unfold excMatches
  repeat (first
   | (with_reducible refine wpAny_loadPart_at ho ?_;rw [hc])
   | with_reducible refine wpAny_loadPart_at hC' ?_
   | (with_reducible refine wpAny_isSubtype_exc hC' ?_;rw [hb])
   | (with_reducible refine wpAny_isSubtype_exc hC ?_;rw [hbb])
   | wp_step)
  exact h)
end
end L2
namespace L2
open PySem PySem.Spec PyProof.Rows PySem.W
variable {qx:Bool}
def SJ (h:Heap)(T:Addr)(fl:Value):Prop:=∃(o:Obj) (ts:Array Value),h.get? T=some o/\o.data = .fields ts/\ts[3]?=some fl
section
variable {M:Model}{A:Around}{E:Value->Shared->Prop}{s:Shared}{env:Env}{outer:List Env}{base:Heap}{L x C:Addr}{dx:Option Addr}{tb:Value}{Q:Unit->Shared->Prop}
theorem LA {hadNext:Bool}{hd:Value}(hfr:A.frames=some (env :: outer))(hl:s.heap.FunFrames base (env :: outer))(hf:env.frame=some L)(hx:XRec qx s.heap x C dx tb)
 (h:∀h' T,s.heap.objs.size<=T->T≠x->XRec qx h' x C dx (.ref T)->SJ h' T (rawInt L)->XKeep (frs (env :: outer)) [x] s.heap h'->Q () { s with heap:=h' }) :
 wpAny M A (do let fo <-frameOf env;let at' <-entryPlaceOf L hadNext;let en <-EntryCells.newEntry hd fo .none (rawInt L) .none at';setField (.ref x) 1 en) Q E s:=by
 obtain ⟨ox,vs,gx,cx,dxe,dtx,tbx,xc⟩:=hx;have v1:1 < vs.size:=(ua6.mp tbx).1;have nfr:x∉frs (env :: outer):=λz=>by
  obtain ⟨_,o2,g2,n2⟩:=hl.mem z;rw [gx] at g2;cases g2
  exact n2 vs dtx
 refine un2 (wpAny_frameOf_fun hfr hl hf λh1 so=>?_);refine un2 (wpAny_entryPlaceOf λat' ip=>?_);unfold EntryCells.newEntry newFields;refine un2 (wpAny_newObj_type ?_ (ip.sizeOk5 _ _ _ _ _));generalize hne:(Obj.mk (Value.type "traceback") none (Data.fields ([hd,Value.ref L,Value.none,rawInt L,Value.none]++if at'.isEmpty=true then List.replicate 6 Value.none else at').toArray) #[])=nob;have dn:nob.data = .fields ([hd,Value.ref L,Value.none,rawInt L,Value.none]++if at'.isEmpty=true then List.replicate 6 Value.none else at').toArray:=by rw [<-hne]
 have gx1:h1.get? x=some ox:=(so.2.1 x nfr).trans gx;have gx2:(h1.push nob).get? x=some ox:=uc2 _ gx1;have nex:h1.objs.size≠x:=um1 (ul8 gx1);refine wpAny_setField gx2 dtx v1 ?_;obtain ⟨m1,m2,m3⟩:=FW dtx (·.setIfInBounds 1 (Value.ref h1.objs.size));have gx3:=ud6 (Obj.mapFields (·.setIfInBounds 1 (Value.ref h1.objs.size))) gx2 (Obj.isFreed_of_fields m1);have gT2:(h1.push nob).get? h1.objs.size=some nob:=ue3 h1 (Obj.isFreed_of_fields dn);have gT3:=(uc5 (h1.push nob) (Obj.mapFields (·.setIfInBounds 1 (Value.ref h1.objs.size))) (Ne.symm nex)).trans gT2;have vx:(vs.setIfInBounds 1 (Value.ref h1.objs.size))[1]?=some (.ref h1.objs.size):=by simp [v1]
 have old:∀b o,b≠x->h1.get? b=some o->((h1.push nob).update x (Obj.mapFields (·.setIfInBounds 1 (Value.ref h1.objs.size)))).get? b=some o:=λb o hb e=>by
  rw [uc5 _ _ (Ne.symm hb)];exact uc2 _ e
 refine h _ h1.objs.size (Nat.le_of_eq so.1.symm) nex ⟨_,_,gx3,m2.trans cx,m3.trans dxe,m1,vx,XL xc⟩ ⟨_,_,gT3,dn,?_⟩ ⟨λb o hb hbf e=>old b o (λz=>hb (by simp [z])) ((so.2.1 b hbf).trans e),λb o hb e=>?_⟩
 ·rw [List.getElem?_toArray];rfl
 ·obtain ⟨sl,e1⟩:=so.2.2 b o e;exact ⟨sl,old b _ (λz=>hb (by simp [z])) e1⟩
end
structure XOn (qx:Bool)(X:Cx)(pins:List (Addr×Obj))(H:Hp)(s:Shared)(x C:Addr)(dx:Option Addr)(T:Option Addr)(fl:Value):Prop where
 hx:H x=some (.ext (F2.XIs qx x C dx))
 nx:X.s₀.heap.objs.size<=x
 rc:XRec qx s.heap x C dx (match T with | some a=>.ref a | none=>.none)
 tb:∀a,T=some a->a≠x/\H a=none/\X.s₀.heap.objs.size<=a/\(a≠X.env.locals/\(∀y c,X.env.cells.lookup y=some c->c≠a)/\∀p∈X.pn++pins,p.1≠a)/\SJ s.heap a fl
 fo:fl = .none\/fl=rawInt X.env.locals
section
variable {M:Model}{A:Around}{Er:Value->Shared->Prop}{X:Cx}{pins:List (Addr×Obj)}{σ:St}{H:Hp}{s:Shared}{x C:Addr}{dx T:Option Addr}{fl:Value}{Q:Unit->Shared->Prop}
theorem Ep (fr:Option Addr)(I:Inv X pins σ H s){a:Addr}(o:XOn qx X pins H s x C dx (some a) fl)(hfr:fr=none\/fr=some X.env.locals)
 (k:∀h',Inv X pins σ H { s with heap:=h' }->XOn qx X pins H { s with heap:=h' } x C dx (some a) (fr.elim Value.none λf=>rawInt f)->Q () { s with heap:=h' }):wpAny M A (setFlight (.ref x) fr) Q Er s:=by
 obtain ⟨ox,vs,gx,cx,dxe,dtx,tbx,xc⟩:=id o.rc;obtain ⟨ne,hT,nT,oT,ot,ts,gT,dT,t3⟩:=o.tb a rfl;unfold setFlight;refine un2 (un1 gx dtx tbx ?_);rw [if_pos (show (Value.ref a != Value.none)=true from rfl)];refine wpAny_setField gT dT (ua6.mp t3).1 ?_;obtain ⟨m1,m2,m3⟩:=FW dT (·.setIfInBounds 3 (fr.elim Value.none λf=>rawInt f));have gT2:=ud6 (Obj.mapFields (·.setIfInBounds 3 (fr.elim Value.none λf=>rawInt f))) gT (Obj.isFreed_of_fields m1);have oth:∀b,b≠a->(s.heap.update a (Obj.mapFields (·.setIfInBounds 3 (fr.elim Value.none λf=>rawInt f)))).get? b=s.heap.get? b:=λb z=>uc5 _ _ (Ne.symm z);have rc':XRec qx (s.heap.update a (Obj.mapFields (·.setIfInBounds 3 (fr.elim Value.none λf=>rawInt f)))) x C dx (.ref a):=⟨ox,vs,(oth x (Ne.symm ne)).trans gx,cx,dxe,dtx,tbx,xc⟩;refine k _ (I.left o.hx hT o.nx nT (ch:=[a]) ⟨λb u hb _ e=>(oth b (by simpa using hb)).trans e,λb u hb e=>⟨u.slots,(oth b (by simpa using hb)).trans e⟩⟩ (λb hb=>.inr (by simpa using hb)) rc'.is oT.2.1 oT.1 oT.2.2) ⟨o.hx,o.nx,rc',λa' e=>?_,?_⟩
 ·cases e
  exact ⟨ne,hT,nT,oT,_,_,gT2,m1,by rw [Array.getElem?_setIfInBounds_self,if_pos (ua6.mp t3).1]⟩
 ·rcases hfr with rfl | rfl
  ·exact .inl rfl
  ·exact .inr rfl
theorem FY (hA:A.frames=some X.stack)(I:Inv X pins σ H s)(hs:X.stack=X.env :: X.outer)(hf:X.env.frame=some X.env.locals)(o:XOn qx X pins H s x C dx T fl)
 (k:∀h' a,Inv X pins σ H { s with heap:=h' }->XOn qx X pins H { s with heap:=h' } x C dx (some a) (rawInt X.env.locals)->Q () { s with heap:=h' }):wpAny M A (noteFrame (.ref x) X.env) Q Er s:=by
 obtain ⟨ox,vs,gx,cx,dxe,dtx,tbx,xc⟩:=id o.rc;have fin:∀(s1:Shared) (hh:∃h1,s1 = { s with heap:=h1 }) (ch:List Addr) (h':Heap) (a:Addr),Inv X pins σ H s1->s1.heap.objs.size<=a->a≠x->XRec qx h' x C dx (.ref a)->SJ h' a (rawInt X.env.locals)->XKeep (frs (X.env :: X.outer)) [x] s1.heap h'->Q () { s1 with heap:=h' }:=by
  rintro s1 ⟨h1,rfl⟩ ch h' a I1 l1 l2 l3 l4 l5;obtain ⟨o1,o2,o3⟩:=I1.newT l1;have J:=I1.left o.hx (I1.hok.fresh l1) o.nx (um0 I1.sz l1) (ch:=[x]) (hs ▸ l5) (λb hb=>.inl (by simpa using hb)) l3.is o2 o1 o3;exact k h' a J ⟨o.hx,o.nx,l3,λa' e=>by cases e;exact ⟨l2,I1.hok.fresh l1,um0 I1.sz l1,⟨o1,o2,o3⟩,l4⟩,.inr rfl⟩
 unfold noteFrame;simp only [hf];refine un2 (un1 gx dtx tbx ?_)
 cases T with
 | none=>
   rw [if_neg (by decide)];exact LA (hA.trans (congrArg some hs)) (hs ▸ I.stack) hf o.rc λh' a l1 l2 l3 l4 l5=>fin s ⟨s.heap,rfl⟩ [] h' a I l1 l2 l3 l4 l5
 | some T₀=>
   obtain ⟨ne,hT,nT,oT,ot,ts,gT,dT,t3⟩:=o.tb T₀ rfl;rw [if_pos (show (Value.ref T₀ != Value.none)=true from rfl)];refine un2 (un1 gT dT t3 ?_);rcases o.fo with rfl | rfl
   ·rw [if_neg (show ¬((Value.none == rawInt X.env.locals)=true) from by simp [rawInt])];refine un2 (wpAny_setField gT dT (ua6.mp t3).1 ?_);have oth:∀b,b≠T₀->(s.heap.update T₀ (Obj.mapFields (·.setIfInBounds 3 Value.none))).get? b=s.heap.get? b:=λb z=>uc5 _ _ (Ne.symm z);have rc':XRec qx (s.heap.update T₀ (Obj.mapFields (·.setIfInBounds 3 Value.none))) x C dx (.ref T₀):=⟨ox,vs,(oth x (Ne.symm ne)).trans gx,cx,dxe,dtx,tbx,xc⟩;have J:=I.left o.hx hT o.nx nT (ch:=[T₀]) ⟨λb u hb _ e=>(oth b (by simpa using hb)).trans e,λb u hb e=>⟨u.slots,(oth b (by simpa using hb)).trans e⟩⟩ (λb hb=>.inr (by simpa using hb)) rc'.is oT.2.1 oT.1 oT.2.2;exact LA (s:={ s with heap:=s.heap.update T₀ (Obj.mapFields (·.setIfInBounds 3 Value.none)) }) (hA.trans (congrArg some hs)) (hs ▸ J.stack) hf rc' λh' a l1 l2 l3 l4 l5=>fin _ ⟨_,rfl⟩ [] h' a J l1 l2 l3 l4 l5
   ·rw [if_pos (show (rawInt X.env.locals == rawInt X.env.locals)=true from by first | (simp;done) | exact ui3 _)];exact un3 (k s.heap T₀ I ⟨o.hx,o.nx,o.rc,o.tb,.inr rfl⟩)
end
def XE (qx:Bool)(X:Cx)(E:St->XK):Value->Shared->Prop:=λe s=>∃pins σ H x C dx T fl,e = .ref x/\Inv X pins σ H s/\XOn qx X pins H s x C dx T fl/\E σ (.ref x) dx H
def Cr (CX:CXT)(X:Cx)(E:St->XK):Prop:=∀(pins:List (Addr×Obj)) (σ:St) (H:Hp) (s:Shared) (e:Value) (s':Shared),Inv X pins σ H s->CX X.stack H s (E σ) e s'->X.xe e s'
section
variable {M:Model}{X:Cx}{E:St->XK}
theorem XE.own (hs:X.stack=X.env :: X.outer)(hf:X.env.frame=some X.env.locals):PassesOwn M X.A X.env (XE qx X E):=by
 rintro e s ⟨pins,σ,H,x,C,dx,T,fl,rfl,I,o,q⟩;refine FY I.ok.frames I hs hf o λh' a I' o'=>?_;obtain ⟨ox,vs,gx,cx,dxe,dtx,tbx,xc⟩:=id o'.rc;unfold cameBackBy;refine un2 (un1 gx dtx tbx ?_);rw [if_neg (show ¬((Value.ref a == Value.none)=true) from by intro z;cases z)]
 rw [hf];exact Ep _ I' o' (.inr rfl) λh'' I'' o''=>⟨pins,σ,H,x,C,dx,some a,_,rfl,I'',o'',q⟩
theorem XE.pass:Cr (CX1 qx X.prog X.w) (X.wish (XE qx X E)) E:=by
 intro pins σ H s e s' I q;obtain ⟨x,C,dx,T,H',rfl,J,hx,nx,nT,ne,hT,r,tb,q⟩:=I.unwish.raised q;exact ⟨pins,σ,H',x,C,dx,some T,.none,rfl,J,⟨hx,um0 I.sz nx,r,λa e=>by cases e;exact ⟨ne,hT,um0 I.sz nT,I.unwish.newT nT,tb⟩,.inl rfl⟩,q⟩
end
section
variable {P:Program}{w:World}{K:PySem.W.Frag}{mg:Str->Option Value}{base:Heap}
abbrev cxX (qx:Bool)(P:Program)(w:World)(K:PySem.W.Frag)(mg:Str->Option Value)(base:Heap)(N:List Str)(qual:Str)(scope:Scope)(f:Addr)(cd:Value)(A:Around)(outer:List Env)(s:Shared)(H:Hp)(E:XK):Cx:=
 (DB (CX1 qx P w) P w K mg base N qual scope f cd A outer s H E).wish (XE qx (DB (CX1 qx P w) P w K mg base N qual scope f cd A outer s H E) λ_=>E)
theorem XE.leaves {N:List Str}{qual:Str}{scope:Scope}{f:Addr}{cd:Value}{A:Around}{outer:List Env}{s₀:Shared}{H₀:Hp}{E:XK}{e:Value}{s:Shared}
 (h:XE qx (DB (CX1 qx P w) P w K mg base N qual scope f cd A outer s₀ H₀ E) (λ_=>E) e s):(DB (CX1 qx P w) P w K mg base N qual scope f cd A outer s₀ H₀ E).xe e s:=by
 obtain ⟨pins,σ,H,x,C,dx,T,fl,rfl,I,o,q⟩:=h;refine un2 (FY I.ok.frames I rfl rfl o λh' a I' o'=>?_);refine Ep none I' o' (.inl rfl) λh'' I'' o''=>?_;obtain ⟨ne,hT,nT,oT,tb⟩:=o''.tb a rfl;exact ⟨x,C,dx,a,H,rfl,I''.os,I''.bare,I''.base,I''.hok,o''.hx,o''.nx,nT,ne,hT,o''.rc,tb,q⟩
theorem Fun.okX {x qual:Str}{st:Stmt}{f:Addr}{fd:FuncData}{N ps:List Str}{k:Nat}{sp:Sp}(F:Fun K x qual st f fd)(S:FnScope N ps (Al st))(len:∀vs H Q E,sp vs H Q E->vs.length=ps.length)
 (hbody:∀(cdv:Value) (A:Around) (outer:List Env) (s:Shared) (H:Hp) (vs:List V) (Q:VK) (E:XK),Room k (A.deeper (envOfC qual (Al st) s.heap.objs.size f cdv))->sp vs H Q E->
   ∃t,PSs (cxX qx P w K mg base N qual (Al st) f cdv A outer s H E) (Be st) t/\t { nx:=λ_ H'=>Q .non H',rt:=Q } (CQ N vs) H):FnOk P w K mg base (CX1 qx P w) (k + 1) f fd ps sp:=by
 obtain ⟨oc,od,kV,doc,pm,an,cdv,ct,osl,rfl,lk,hcd⟩:=F.ex;refine UW lk hcd S len λA outer s H vs Q E hr hsp=>?_;obtain ⟨t,h,q⟩:=hbody cdv A outer s H vs Q E hr hsp;exact ⟨t,λpins s1 σ H1 D I hw=>un4 (h pins s1 σ H1 D (I.wish _) hw) (λ_ _ q=>q.unwish) λ_ _ z=>z.leaves,q⟩
theorem FnOk.calm {k:Nat}{f:Addr}{fd:FuncData}{ps:List Str}{sp sp':Sp}(F:FnOk P w K mg base (CX1 qx P w) k f fd ps sp)(h:∀vs H Q E,sp' vs H Q E->sp vs H Q E0):FnOk P w K mg base CX0 k f fd ps sp':=by
 refine ⟨λvs H Q E q=>F.len vs H Q E0 (h _ _ _ _ q),λA outer s H args us vs Q E hr he hb hv hs=>codeAny_mono (F.run A outer s H args us vs Q E0 hr he hb hv (h _ _ _ _ hs)) λr s' q=>?_⟩
 cases r with
 | error e=>obtain ⟨_,_,_,_,_,_,_,_,_,_,_,_,_,_,_,_,_,z⟩:=q;exact z.elim
 | ok fl=>cases fl <;> exact q
end
section
variable {X:Cx}{CX:CXT}{k:Nat}{f:Addr}{fd:FuncData}{ps:List Str}{sp:Sp}{E:St->XK}{x:Str}{p pos:Pos}{e:Expr}{es:List Expr}{t:TA}
def Sd (sp:Sp)(E:St->XK)(t:TA):TE:=λσ H Q=>t σ H λvs H1=>sp vs H1 Q (E σ)
theorem TZ (F:FnOk X.prog X.w X.K X.mg X.base CX k f fd ps sp)(hr:Room k X.A)(hg:Gl X x)(hm:X.mg x=some (.ref f))(hk:PySem.W.keepIn X.K (.ref f)=true)(hb:Binds X.K fd ps [])(hx:Cr CX X E)
 (ha:PA X (e :: es) t) (hdb:(x == ("__debug__" : Str))=false:=by decide) (he:starEach (e :: es) X.env=(false,eval e X.env) :: starEach es X.env:=by rfl) (hpl:(backTo pos (starEach es X.env)).any (·.1)=false:=by rfl) :
 PE X (.Call (.Name x p) (e :: es) [] pos) (Sd sp E t):=by
 intro pins s σ H Q I h;refine wpAny_Call_Name_kw (Cu I hg hm ?_ hdb);refine uf3 (h₀:=X.base) I.ok.mod.kin hk (thn (ha pos pins s σ H _ I h) λus s1 z9=>?_) he hpl;obtain ⟨vs,H1,I1,r,q⟩:=z9;refine ⟨I1.kIn,?_⟩;have hl:(us++[]).length=ps.length:=by rw [ui8,<-r.length];exact F.len _ _ _ _ q
 refine wpAny_call (codeAny_mono (F.run X.A X.stack s1 H1 ⟨us,[]⟩ us vs Q (E σ) hr I1.env0 (by have:=hb s1 us I1.kIn hl;rwa [ui8] at this) r q) λr s' hq=>?_)
 cases r with
 | error e=>exact hx pins σ H1 s1 e s' I1 hq
 | ok fl=>
   cases fl with
   | ret u=>exact I1.after hq
   | next=>exact False.elim hq
   | brk=>exact False.elim hq
   | cont=>exact False.elim hq
end
end L2
namespace L2
open PySem PySem.Spec PyProof.Rows PySem.W
variable {qx:Bool}
def PM (qx:Bool)(X:Cx)(e:Expr)(C:Addr)(t:St->Hp->(Addr->Option Addr->Hp->Prop)->Prop):Prop:=
 ∀(pins:List (Addr×Obj)) (s:Shared) (σ:St) (H:Hp) (Q:Addr->Option Addr->Hp->Prop),Inv X pins σ H s->t σ H Q->
  wpAny (model X.prog X.w) X.A (eval e X.env) (λv s1=>∃x dx H1,v = .ref x/\Inv X pins σ H1 s1/\H1 x=some (.ext (F2.XIs qx x C dx))/\X.s₀.heap.objs.size<=x/\XRec true s1.heap x C dx .none/\Q x dx H1) X.xe s
def FE (qx:Bool)(X:Cx)(E:St->XK):Prop:=∀(pins:List (Addr×Obj)) (σ:St) (H:Hp) (s:Shared) (x C:Addr) (dx:Option Addr),Inv X pins σ H s->XOn qx X pins H s x C dx none .none->E σ (.ref x) dx H->X.xe (.ref x) s
theorem XE.raises {X:Cx}{E:St->XK}:FE qx (X.wish (XE qx X E)) E:=λpins σ H s x C dx I o q=>⟨pins,σ,H,x,C,dx,none,.none,rfl,I.unwish,⟨o.hx,o.nx,o.rc,o.tb,o.fo⟩,q⟩
theorem JD {X:Cx}{e:Expr}{C:Addr}{bm:List Value}{t:St->Hp->(Addr->Option Addr->Hp->Prop)->Prop}{E:St->XK}{pos:Pos}(hc:X.calm=true)(c:XCl X.K C bm)(hx:FE qx X E)(h:PM qx X e C t)
 (ho:evalOpt (some e) X.env=some (eval e X.env):=by rfl):PS X (.Raise (some e) none pos) (λ_ σ H=>t σ H λx dx H1=>E σ (.ref x) dx H1):=by
 intro pins s σ H D I q;rw [arm_exec_Raise,ho];refine un2 (wpAny_standAt ?_);refine Uj (qx:=true) c (I.ok.hd hc) ?_;refine un2 (un4 (h pins s σ H _ I q) (λv s1 z9=>?_) λ_ _ z=>z);obtain ⟨x,dx,H1,e1,I1,hx1,nx,r,q1⟩:=z9;subst e1;refine un2 (wpAny_standAt (un3 ⟨x,dx,rfl,I1.kIn,r,hx pins σ H1 s1 x C dx I1 ⟨hx1,nx,r.to,(λa e=>by cases e),.inl rfl⟩ q1⟩))
theorem PK {K:PySem.W.Frag}{h:Heap}{N:Addr}{m:Str->Option Value}{n:Str}(X:K.In h)(G:h.Ns N m)(e:nsIn K N n=some none):m n=none:=by
 obtain ⟨o,es,ep,ho,hd,_,hf⟩:=G;unfold nsIn at e
 split at e
 ·next c d es' n' sl q=>
  have z:=X _ _ q;rw [ho] at z
  cases z
  cases hd
  split at e
  ·cases e
  ·next he=>rw [<-hf];unfold nsFind findBy;rw [<-uf2,he];rfl
 ·cases e
section
variable {prog:Program}{w:World}{A:Around}{E:Value->Shared->Prop}{h:Heap}{g:Array GenState}{d:Drawn}{t:Nat}{os:OsState}{Q:Value->Shared->Prop}
variable {nm q:Str}{C N:Addr}{bs bm bmB:List Value}{hdct:Bool}{sn:List Str}{sub:List Value}{ab:Bool}{col:Option Bool}{dd:Option Addr}{k0 k1 k2 k3 k5:Option Value}{B newId initId:String}{mN:Str->Option Value}
theorem Rg (F:ExcBaseFacts B newId initId bmB)(T:OwnTail h bmB bm){us:List Value}(hC:h.get? C=some (excClassObj nm q C N bs bm hdct sn sub ab col dd k0 k1 k2 k3 k5 newId))(hn:h.Ns N mN)(hni:mN "__init__" = none)(hus:us.length<=sizeLine)
 (hq:∀h' tp,(∀b o,h.get? b=some o->h'.get? b=some o)->h'.get? (h.objs.size + 1)=some (excObj C tp)->Q (.ref (h.objs.size + 1)) ⟨h',g,d,t,os⟩) :
 wpAny (model prog w) A (call (.ref C) us) Q E ⟨h,g,d,t,os⟩:=by
 have c1:=tc_lookup;have c2:=tc_bind (.ref C);have ty:(⟨h,g,d,t,os⟩:Shared).TypeIs (.ref C) "type":=⟨_,hC,rfl⟩;refine wpAny_call (codeAny_of_tree ?_);show wpAny _ _ (callAny (.ref C) _) _ _ _
 repeat (any_goals (first
  | assumption
  | with_reducible refine wpAny_loadPart_at hC ?_
  | wp_step))
 refine ⟨rfl,codeAny_call_builtin_at (Code.quiet_builtin _ (by decide +kernel)) entry_typeCall (wpAny_check_type_call_sub hC ?_)⟩
 repeat (first
  | with_reducible refine wpAny_loadPart_at hC ?_
  | with_reducible refine wpAny_madeBy_exc hC ?_
  | wp_step)
 refine codeAny_call_builtin_code (Code.quiet_builtin _ F.quiet) (wpAny_check_new_subT F T hC (codeAny_exc_new_subT F T hC ?_ hus))
 change wpAny _ _ _ _ _ (Shared.mk (DV h C us) g d t os)
 have kp:∀b o,h.get? b=some o->(DV h C us).get? b=some o:=λb o e=>uc2 _ (uc2 _ e);have he:(DV h C us).get? (h.objs.size + 1)=some { cls:=.ref C,data:=.fields #[.ref h.objs.size,.none,.none,.none,.bool false,.none] }:=by heap_get
 have n1:(DV h C us).Ns N mN:=hn.keeps kp;have cC:(Value.ref C :: bm).contains (.ref C)=true:=by simp
 unfold isInstance
 repeat (first
  | with_reducible refine wpAny_loadPart_at he ?_
  | (with_reducible refine wpAny_isSubtype_exc (kp _ _ hC) ?_;rw [cC])
  | wp_step)
 show wpAny _ _ (typeLookup (.ref C) _) _ _ _;refine wpAny_typeLookup_tail (kp _ _ hC) n1 (T.keeps kp) F.mroIs F.init.lookup ?_;rw [hni];refine ul7 (un2 (wpAny_of_eq (F.init.bind _) (un2 (wpAny_call (codeAny_call_builtin F.init.plain F.initEntry (wpAny_check_init_subT F (T.keeps kp) (kp _ _ hC) he rfl ?_))))))
 wp_walk
 refine hq _ ((DV h C us).objs.size) (λb o hb=>?_) ?_
 ·rw [uc5 _ _ (um1 (Nat.lt_succ_of_lt (ul8 hb)))];exact uc2 _ (kp b o hb)
 ·rw [ud6 _ (uc2 _ he) rfl];rfl
end
section
variable {X:Cx}{k:Nat}{f C P:Addr}{fd:FuncData}{a:Str}{ps:List Str}{n:Str}{p pos:Pos}{e:Expr}{es:List Expr}
theorem YV {t:TA}(M:XMk X.K C P f)(ha:XAt X.K C P a)(F:FnOk X.prog X.w X.K X.mg X.base CX0 k f fd ps (spI X.K P a))(hr:Room (k + 1) X.A)(hb:Binds X.K fd ps [])(hg:Gl X n)(hm:X.mg n=some (.ref C))(hA:PA X [e] t)
 (hdb:(n == ("__debug__" : Str))=false:=by decide) (h1:starEach [e] X.env=[(false,eval e X.env)]:=by rfl) :
 PM qx X (.Call (.Name n p) [e] [] pos) C (λσ H Q=>t σ H λvs H1=>∃v,vs=[v]/\∀x dx,H1 x=none->H1 dx=none->dx≠x->Q x (some dx) (upd (upd H1 dx (.xd [(a,v)])) x (.ext (F2.XIs qx x C (some dx))))):=by
 intro pins s σ H Q I h;refine wpAny_Call_Name_kw (Cu I hg hm ?_ hdb);refine uf3 (h₀:=X.base) I.ok.mod.kin M.kp (thn (hA pos pins s σ H _ I h) λus s1 z9=>?_) h1 rfl;obtain ⟨vs,H1,I1,r,v,ev,q⟩:=z9;refine ⟨I1.kIn,?_⟩;subst ev
 cases r with
 | cons r0 rs=>
   cases rs
   exact RZ M ha F hr hb I1 r0 λs' x dx I' hx hdx ne nx rc=>⟨x,some dx,_,rfl,I',Aj,um0 I1.sz nx,rc,q x dx hx hdx ne⟩
theorem Wx {t:TA}{bm:List Value}{cd:ClassData}(c:XCl X.K C bm)(hk:keepIn X.K (.ref C)=true)(hcd:clsIn X.K C=some cd)(hni:nsIn X.K cd.ns "__init__" = some none)(hg:Gl X n)(hm:X.mg n=some (.ref C))(ha:PA X (e :: es) t)
 (hdb:(n == ("__debug__" : Str))=false:=by decide) (h1:starEach (e :: es) X.env=(false,eval e X.env) :: starEach es X.env:=by rfl) (hpl:(backTo pos (starEach es X.env)).any (·.1)=false:=by rfl) :
 PM qx X (.Call (.Name n p) (e :: es) [] pos) C (λσ H Q=>t σ H λvs H1=>vs.length<=1000/\∀x,H1 x=none->Q x none (upd H1 x (.ext (F2.XIs qx x C none)))):=by
 intro pins s σ H Q I h;refine wpAny_Call_Name_kw (Cu I hg hm ?_ hdb);refine uf3 (h₀:=X.base) I.ok.mod.kin hk (thn (ha pos pins s σ H _ I h) λus s1 z9=>?_) h1 hpl;obtain ⟨vs,H1,I1,r,hl,q⟩:=z9;refine ⟨I1.kIn,?_⟩;obtain ⟨nm,q',N,bs,sn,sub,ab,col,dd,k0,k1,k2,k3,k5,hC,hN⟩:=c.obj I1.kIn;have hni':s1.heap.nsMap N "__init__" = none:=by
  unfold clsIn at hcd
  split at hcd
  ·next l=>
   cases hcd
   have z:=I1.kIn _ _ l;rw [hC] at z
   cases z
   exact PK I1.kIn hN hni
  ·cases hcd
 obtain ⟨hh,g,d,tk,os⟩:=s1;refine Rg ua5 (c.tail I1.kIn) hC hN hni' (by show us.length<=sizeLine;rw [<-r.length];exact um0 hl (by decide)) λh' tp kp ht=>?_;have xr:XRec true h' (hh.objs.size + 1) C none .none:=⟨_,_,ht,rfl,rfl,rfl,rfl,λ_=>⟨rfl,by show 4 < 6;decide⟩⟩;exact ⟨_,none,_,rfl,I1.laid (h':=h') (t':=tk) kp (un0 _) (HR xr.to.is),Aj,um0 I1.sz (un0 _),xr,q _ (I1.hok.fresh (un0 _))⟩
end
end L2
namespace L2
open PySem PySem.Spec PyProof.Rows PySem.W
variable {qx:Bool}
abbrev Cx.mark (X:Cx)(x:Addr):Cx:={ X with A:=X.A.mark (some (.ref x)),calm:=false,xe:=λ_ _=>False }
section
variable {X:Cx}{pins:List (Addr×Obj)}{σ:St}{H:Hp}{s:Shared}{D:Ends}
theorem Inv.mark (I:Inv X pins σ H s)(x:Addr):Inv (X.mark x) pins σ H s:=
 ⟨⟨I.ok.mod,I.ok.kind,I.ok.glob,I.ok.blt,I.ok.above,I.ok.inj,I.ok.has,I.ok.cab,(λz=>by cases z),I.ok.frames,I.ok.stk,I.ok.exf,I.ok.bs,I.ok.bsz,I.ok.noex,I.ok.exfs,I.ok.funs,I.ok.frf⟩,I.os,I.bare,I.base,I.loc,I.cell,I.free,I.freeC,I.pin,I.hok,I.len⟩
theorem Inv.unmark {x:Addr}(J:X.Ok)(I:Inv (X.mark x) pins σ H s):Inv X pins σ H s:=⟨J,I.os,I.bare,I.base,I.loc,I.cell,I.free,I.freeC,I.pin,I.hok,I.len⟩
theorem Inv.repin {pn' pins':List (Addr×Obj)}{xe:Value->Shared->Prop}(I:Inv X pins σ H s)(h:∀p∈pn'++pins',p∈X.pn++pins):Inv { X with pn:=pn',xe:=xe } pins' σ H s:=
 ⟨⟨I.ok.mod,I.ok.kind,I.ok.glob,I.ok.blt,I.ok.above,I.ok.inj,I.ok.has,I.ok.cab,I.ok.hd,I.ok.frames,I.ok.stk,I.ok.exf,I.ok.bs,I.ok.bsz,I.ok.noex,I.ok.exfs,I.ok.funs,I.ok.frf⟩,I.os,I.bare,I.base,I.loc,I.cell,I.free,I.freeC,λp hp=>I.pin p (h p hp),I.hok,I.len⟩
theorem SP.unmark {x:Addr}(J:X.Ok){f:Flow}(h:SP (X.mark x) pins D f s):SP X pins D f s:=by
 cases f with
 | next=>obtain ⟨σ',H',I,q⟩:=h;exact ⟨σ',H',I.unmark J,q⟩
 | brk=>obtain ⟨σ',H',I,q⟩:=h;exact ⟨σ',H',I.unmark J,q⟩
 | cont=>obtain ⟨σ',H',I,q⟩:=h;exact ⟨σ',H',I.unmark J,q⟩
 | ret u=>obtain ⟨v,σ',H',I,r,q⟩:=h;exact ⟨v,σ',H',I.unmark J,r,q⟩
theorem Hs {M:Model}{A:Around}{E:Value->Shared->Prop}{i:Nat}{n:Str}{pos:Pos}{Q:Unit->Shared->Prop}(I:Inv X pins σ H s)(hN:X.N.Nodup)(hi:X.N[i]?=some n)(hk:X.env.scope.names.lookup n=some .local)
 (h:∀s',Inv X pins (σ.set i none) H s'->Q () s'):wpAny M A (do bindName X.env n .none;unbindBehindTheSuite X.env n pos) Q E s:=by
 refine un2 (wpAny_bindName (F6 (v:=.non) I hN hi (.inl hk) rfl (λs1 I1=>?_) (.inr hk)));unfold unbindBehindTheSuite;have hiσ:i < σ.length:=by rw [I.len];exact (ua8.mp hi).1
 obtain ⟨m,hn,hl⟩:=id I1.loc;have hcls:(X.env.scope.kind == .class || (X.env.scope.kind == .module && X.env.locals != X.env.globals))=false:=by rw [I.ok.kind];rfl
 obtain ⟨u0,_,lk⟩:=hl i n .non hi (by rw [uc1 hiσ]) (.inl hk);have hv:m n=some u0:=by
  rcases lk with ⟨_,e⟩ | ⟨k,_⟩
  ·exact e
  ·have k:X.env.scope.names.lookup n=some .cell\/X.env.scope.names.lookup n=some .free:=k;rw [hk] at k;rcases k with k | k <;> cases k
 refine wpAny_onRaise (wpAny_unbindName_local hk hn hv hcls λh' u hn' hs=>?_);have cne:=I1.cne;have tracked:HOk X.prog X.w H h':=λb ob e=>by
  refine (I1.hok b ob e).stay (λc w' hc q=>(hs.2 c ?_).trans q) (λ_ q=>q) λ_ _ q=>q;rintro rfl;rcases hc with rfl | hc
  ·rw [I1.free] at e;cases e
  ·rw [I1.free] at hc;cases hc
 have far:∀b o,X.s₀.heap.get? b=some o->b≠X.env.locals:=λb o e=>ul9 (ue9 (ul8 e) I1.ok.above);refine h _ ⟨I1.ok,I1.os,I1.bare,⟨λb o e n hb hx=>?_,λb o e n hb hx=>?_,I1.base.free,λb o e hx=>?_,I1.base.tups,I1.base.frzs,I1.base.tbls⟩,⟨_,hn',λj y v' e1 e2 e3=>?_⟩,λy c e=>?_,I1.free,I1.freeC,λp hp=>?_,tracked,by simpa using I.len⟩
 ·exact (hs.2 b (far b o e)).trans (I1.base.keep b o e n hb hx)
 ·obtain ⟨sl,e1⟩:=I1.base.slot b o e n hb hx;exact ⟨sl,(hs.2 b (far b o e)).trans e1⟩
 ·obtain ⟨o',e1⟩:=I1.base.there b o e hx;exact ⟨o',(hs.2 b (far b o e)).trans e1⟩
 ·by_cases hj:j=i
  ·subst hj;rw [uc1 hiσ] at e2
   cases e2
  ·rw [ud9 (Ne.symm hj)] at e2;obtain ⟨u',r',q⟩:=hl j y v' e1 (by rw [ud9 (Ne.symm hj)];exact e2) e3;refine ⟨u',r',?_⟩;rcases q with ⟨k,e⟩ | ⟨k,c,e,z⟩
   ·refine .inl ⟨k,?_⟩;have:y≠n:=λe=>hj (Hh hN e1 (e ▸ hi));simp [this,e]
   ·exact .inr ⟨k,c,e,z.sameBut hs (cne y c e)⟩
 ·obtain ⟨w',z⟩:=I1.cell y c e;exact ⟨w',z.sameBut hs (cne y c e)⟩
 ·obtain ⟨e,n,ne,nf,d⟩:=I1.pin p hp;exact ⟨(hs.2 p.1 ne).trans e,n,ne,nf,d⟩
end
def PH (qx:Bool)(X:Cx)(hs:List ExceptHandler)(th:Addr->Addr->Option Addr->TS):Prop:=∀(pins:List (Addr×Obj)) (s:Shared) (σ:St) (H:Hp) (x C:Addr) (dx:Option Addr) (T:Addr) (D:Ends),Inv X pins σ H s->XOn qx X pins H s x C dx (some T) .none->th x C dx D σ H->
 wpAny (model X.prog X.w) X.A (handleBy (.ref x) X.env hs) (SP X pins D) X.xe s
noncomputable def Ends.unset (D:Ends)(i:Nat):Ends:={ nx:=λσ H=>D.nx (σ.set i none) H,rt:=D.rt,bk:=λσ H=>D.bk (σ.set i none) H,ct:=λσ H=>D.ct (σ.set i none) H }
section
variable {X:Cx}{n v:Str}{C':Addr}{bm':List Value}{p pos:Pos}{b₀:Stmt}{suite:List Stmt}{rest:List ExceptHandler}{ts:Addr->TS}{tr:Addr->Addr->Option Addr->TS}{i:Nat}
def cI (K:PySem.W.Frag)(C':Addr)(i:Nat)(ts:Addr->TS)(tr:Addr->Addr->Option Addr->TS):Addr->Addr->Option Addr->TS:=λx C dx D σ H=>∃bm,XCl K C bm/\
 if (Value.ref C :: bm).contains (.ref C')=true then ts x (D.unset i) (σ.set i (some (.ref x))) H else tr x C dx D σ H
theorem ay (hg:Gl X n)(hm:X.mg n=some (.ref C'))(c':XCl X.K C' bm')(hN:X.N.Nodup)(hi:X.N[i]?=some v)(hl:X.env.scope.names.lookup v=some .local)(hb:∀x,PSs (X.mark x) (b₀ :: suite) (ts x))(hr:PH qx X rest tr)
 (hdb:(n == ("__debug__" : Str))=false:=by decide):PH qx X (.ExceptHandler (some (.Name n p)) (some v) (b₀ :: suite) pos :: rest) (cI X.K C' i ts tr):=by
 intro pins s σ H x C dx T D I o ⟨bm,c,q⟩;have Im:=I.mark x;refine wpAny_handleBy_cons (codeAny_handlers_test (Cu Im hg hm ?_ hdb)) (by intro z;cases z)
 refine Jw c c' I.kIn o.rc ?_
 cases hc:(Value.ref C :: bm).contains (.ref C') with
 | false=>
   rw [hc,if_neg (by decide)] at q;exact hr pins s σ H x C dx T D I o q
 | true=>
   rw [hc,if_pos rfl] at q;refine codeAny_handlers_suite_as ?_;refine Ep none I o (.inl rfl) λh1 I1 o1=>?_;refine F6 (v:=.ref x) I1 hN hi (.inl hl) rfl (λs2 I2=>?_) (.inr hl);refine un4 (hb x pins s2 _ H _ (I2.mark x) q) (λf s3 z=>?_) λ_ _ z=>z.elim;show wpAny _ _ _ _ _ _;have J:=I.ok
   cases f with
   | next=>obtain ⟨σ',H',I',q'⟩:=z;exact Hs (I'.unmark J) hN hi hl λs4 I4=>⟨_,H',I4,q'⟩
   | brk=>obtain ⟨σ',H',I',q'⟩:=z;exact Hs (I'.unmark J) hN hi hl λs4 I4=>⟨_,H',I4,q'⟩
   | cont=>obtain ⟨σ',H',I',q'⟩:=z;exact Hs (I'.unmark J) hN hi hl λs4 I4=>⟨_,H',I4,q'⟩
   | ret u=>obtain ⟨w,σ',H',I',r,q'⟩:=z;exact Hs (I'.unmark J) hN hi hl λs4 I4=>⟨w,_,H',I4,r,q'⟩
def cJ (K:PySem.W.Frag)(C':Addr)(ts:TS)(tr:Addr->Addr->Option Addr->TS):Addr->Addr->Option Addr->TS:=λx C dx D σ H=>∃bm,XCl K C bm/\
 if (Value.ref C :: bm).contains (.ref C')=true then ts D σ H else tr x C dx D σ H
theorem az {ts:TS}(hg:Gl X n)(hm:X.mg n=some (.ref C'))(c':XCl X.K C' bm')(hb:∀x,PSs (X.mark x) (b₀ :: suite) ts)(hr:PH qx X rest tr)
 (hdb:(n == ("__debug__" : Str))=false:=by decide):PH qx X (.ExceptHandler (some (.Name n p)) none (b₀ :: suite) pos :: rest) (cJ X.K C' ts tr):=by
 intro pins s σ H x C dx T D I o ⟨bm,c,q⟩;have Im:=I.mark x;refine wpAny_handleBy_cons (codeAny_handlers_test (Cu Im hg hm ?_ hdb)) (by intro z;cases z)
 refine Jw c c' I.kIn o.rc ?_
 cases hc:(Value.ref C :: bm).contains (.ref C') with
 | false=>
   rw [hc,if_neg (by decide)] at q;exact hr pins s σ H x C dx T D I o q
 | true=>
   rw [hc,if_pos rfl] at q;refine codeAny_handlers_suite ?_;refine Ep none I o (.inl rfl) λh1 I1 o1=>?_;exact un4 (hb x pins _ _ H _ (I1.mark x) q) (λf s3 z=>z.unmark I.ok) λ_ _ z=>z.elim
theorem YZ {body:List Stmt}{h₀:ExceptHandler}{hs:List ExceptHandler}{tb:(St->XK)->TS}{th:Addr->Addr->Option Addr->TS}(h1:X.stack=X.env :: X.outer)(h2:X.env.frame=some X.env.locals)
 (hb:∀(pn:List (Addr×Obj)) (E:St->XK),PSs { X with pn:=pn,xe:=XE qx { X with pn:=pn } E } body (tb E)) (hh:PH qx X (h₀ :: hs) th) :
 PS X (.Try body (h₀ :: hs) [] [] pos) (λD σ H=>tb (λσ' v dx H'=>∀x C,v = .ref x->H' x=some (.ext (F2.XIs qx x C dx))->(∃h,F2.XIs qx x C dx h)->th x C dx D σ' H') D σ H):=by
 intro pins s σ H D I q;refine wpAny_Try_except ?_;refine un4 (hb (X.pn++pins) _ [] s σ H D (I.repin λp hp=>by simpa using hp) q) (λf s1 z=>?_) λe s1 z=>?_
 ·have back:∀{σ':St} {H':Hp},Inv { X with pn:=X.pn++pins,xe:=XE qx { X with pn:=X.pn++pins } (λσ' v dx H'=>∀x C,v = .ref x->H' x=some (.ext (F2.XIs qx x C dx))->(∃h,F2.XIs qx x C dx h)->th x C dx D σ' H') } [] σ' H' s1->Inv X pins σ' H' s1:=λJ=>J.repin (X:={ X with pn:=X.pn++pins,xe:=_ }) (pn':=X.pn) (pins':=pins) (xe:=X.xe) λp hp=>by simpa using hp
  cases f with
  | next=>obtain ⟨σ',H',J,q'⟩:=z;exact wpAny_execs_nil ⟨σ',H',back J,q'⟩
  | brk=>obtain ⟨σ',H',J,q'⟩:=z;exact ⟨σ',H',back J,q'⟩
  | cont=>obtain ⟨σ',H',J,q'⟩:=z;exact ⟨σ',H',back J,q'⟩
  | ret u=>obtain ⟨w,σ',H',J,r,q'⟩:=z;exact ⟨w,σ',H',back J,r,q'⟩
 ·obtain ⟨pins',σ',H',x,C,dx,T,fl,rfl,J,o,q'⟩:=z;have J1:Inv X pins σ' H' s1:=J.repin (X:={ X with pn:=X.pn++pins }) (pn':=X.pn) (pins':=pins) (xe:=X.xe) λp hp=>by
   simp only [ui4] at hp ⊢;exact .inl hp
  have o1:XOn qx X pins H' s1 x C dx T fl:=⟨o.hx,o.nx,o.rc,λa e=>by
   obtain ⟨z1,z2,z3,⟨y1,y2,y3⟩,z5⟩:=o.tb a e;exact ⟨z1,z2,z3,⟨y1,y2,λp hp=>y3 p (by simp only [ui4] at hp ⊢;exact .inl hp)⟩,z5⟩,o.fo⟩
  refine FY J1.ok.frames J1 h1 h2 o1 λh' a I' o'=>Ep none I' o' (.inl rfl) λh'' I'' o''=>?_;exact hh pins _ σ' H' x C dx a D I'' o'' (q' x C rfl o.hx ⟨_,o.rc.is⟩)
end
end L2
namespace F2
open PySem L2 PySem.Spec
variable {qx:Bool}
noncomputable def Bf:D->Bool
 | .exc _ _=>true
 | _=>false
def exE (E:XK)(v:V)(H:Hp):Prop:=∀x dx,v = .ref x->E (.ref x) dx H
section
variable (K:PySem.W.Frag)
inductive RX (E:L2.St->XK)(f:M D)(σ:L2.St)(H:Hp)(Q:VK):Prop where
 | mk (Oo:Addr->Prop) (c:Cf) (t:T) (fi:FInv K Oo c t σ H) (r:D) (t':T) (e:f t=some (r,t')) (k:∀v H' c',FInv K Oo c' t' σ H'->Stp Oo c H c' H'->Rep K c' H' v r->if Bf r=true then exE (E σ) v H' else Q v H'):RX E f σ H Q
def μX (E:XK):Cf->Hp->D->(V->Hp->Prop)->Prop:=λc H r rt=>∀v,Rep K c H v r->if Bf r=true then exE E v H else rt v H
inductive RSX (E:L2.St->XK)(f:M Out)(D:Ends)(σ:L2.St)(H:Hp):Prop where
 | mk (Oo:Addr->Prop) (c:Cf) (t:T) (fi:FInv K Oo c t σ H) (o:Out) (t':T) (e:f t=some (o,t')) (k:∀σ' H' c',FInv K Oo c' t' σ' H'->Stp Oo c H c' H'->
 match (generalizing:=false) o with
 | .next=>D.nx σ' H'
 | .brk=>D.bk σ' H'
 | .cont=>D.ct σ' H'
 | .ret r=>∀v,Rep K c' H' v r->if Bf r=true then exE (E σ') v H' else D.rt v H'):RSX E f D σ H
inductive spX (f:Fn)(vs:List V)(H:Hp)(Q:VK)(E:XK):Prop where
 | mk (c:Cf) (ds:List D) (S:List Ob) (si:SInv K c S H) (rs:Reps K c H vs ds) (r:D) (S':List Ob) (e:f ds S=some (r,S')) (k:∀v H' c',SInv K c' S' H'->Stp c.O c H c' H'->(∀b,c'.O b↔c.O b)->Rep K c' H' v r->if Bf r=true then exE E v H' else Q v H'):spX f vs H Q E
end
def Dg (g:Fn):Fn:=λds S=>match g ds S with
 | some (r,S')=>if Bf r=true then none else some (r,S')
 | none=>none
variable {g:Fn}{r:D}
theorem Rr {ds:List D}{S S':List Ob}(h:Dg g ds S=some (r,S')):g ds S=some (r,S')/\Bf r=false:=by
 unfold Dg at h
 split at h
 ·next r' S1 e=>
  by_cases hx:Bf r'=true
  ·rw [if_pos hx] at h;cases h
  ·rw [if_neg hx] at h;cases h;exact ⟨e,by simpa using hx⟩
 ·cases h
variable {fa:Addr}{fd:FuncData}
section
variable {P:Program}{w:World}{K:PySem.W.Frag}{mg:Str->Option Value}{base:Heap}
theorem JY {k:Nat}{ps:List Str}(F:FnOk P w K mg base (CX1 qx P w) k fa fd ps (spX K g)):FnOk P w K mg base CX0 k fa fd ps (spF K (Dg g)):=
 F.calm λvs H Q E z9=>by
  obtain ⟨c,ds,S,si,rs,r,S',e,kk⟩:=z9;obtain ⟨e1,e2⟩:=Rr e;exact ⟨c,ds,S,si,rs,r,S',e1,λv H' c' a1 a2 a3 a4=>by rw [if_neg (by rw [e2];decide)];exact kk v H' c' a1 a2 a3 a4⟩
theorem Oc {x qual:Str}{st:Stmt}{N ps:List Str}{k n m:Nat}{g:M Out}(e1:ps.length=n)(e2:N.length=m)(F:Fun K x qual st fa fd)(S:FnScope N ps (Al st))
 (hb:∀(cdv:Value) (A:Around) (outer:List Env) (s:Shared) (H:Hp) (E:XK),Room k (A.deeper (PyProof.Rows.envOfC qual (Al st) s.heap.objs.size fa cdv))->
   Cr (CX1 qx P w) (cxX qx P w K mg base N qual (Al st) fa cdv A outer s H E) (λ_=>E)->FE qx (cxX qx P w K mg base N qual (Al st) fa cdv A outer s H E) (λ_=>E)->
   PassesOwn (model P w) (cxX qx P w K mg base N qual (Al st) fa cdv A outer s H E).A (cxX qx P w K mg base N qual (Al st) fa cdv A outer s H E).env (cxX qx P w K mg base N qual (Al st) fa cdv A outer s H E).xe->
   PSs (cxX qx P w K mg base N qual (Al st) fa cdv A outer s H E) (Be st) (RSg K (μX K E) g)):FnOk P w K mg base (CX1 qx P w) (k + 1) fa fd ps (spX K (fnOf n m g)):=by
 subst e1 e2;have hlen:∀{ds:List D} {S:List Ob} {z:D×List Ob},fnOf ps.length N.length g ds S=some z->ds.length=ps.length:=λ{ds S z} h=>by
  unfold fnOf at h
  split at h
  ·next h1=>exact h1
  ·cases h
 refine F.okX S (λvs H Q E h=>?_) (λcdv A outer s H vs Q E hr h=>?_)
 ·obtain ⟨c,ds,S,si,rs,r,S',e,_⟩:=h;rw [rs.length];exact hlen e
 obtain ⟨c,ds,S0,si,rs,r,S',e,kk⟩:=h;refine ⟨RSg K (μX K E) g,hb cdv A outer s H E hr XE.pass XE.raises (XE.own rfl rfl),?_⟩;have hl:=hlen e;unfold fnOf at e;rw [if_pos hl] at e
 cases eg:g ⟨env0 N.length ds,S0⟩ with
 | none=>rw [eg] at e;cases e
 | some p=>
   obtain ⟨o,t⟩:=p;rw [eg] at e;refine ⟨c.O,c,_,G9 si rs,o,t,eg,λσ' H' c' f' s'=>?_⟩;obtain ⟨si',ext'⟩:=f'.leave;have st':Stp c.O c H ⟨c'.ι,c.O⟩ H':=⟨s'.ext.trans ext',s'.oo⟩
   cases o with
   | next=>cases e;exact kk .non H' _ si' st' (λ_=>Iff.rfl) .non
   | ret d=>cases e;exact λv rv=>kk v H' _ si' st' (λ_=>Iff.rfl) (rv.mono ext')
   | brk=>cases e
   | cont=>cases e
theorem OI {ps:List Str}{k:Nat}{f:Fn}(e:f=g)(h:FnOk P w K mg base (CX1 qx P w) k fa fd ps (spX K g)):FnOk P w K mg base (CX1 qx P w) k fa fd ps (spX K f):=by rw [e];exact h
end
variable {f:M D}{h:D->D->M D}{R:R2}
section
variable {X:Cx}{e a b:Expr}{es:List Expr}{pos:Pos}{E:L2.St->XK}{st:Stmt}
theorem Hq {E:XK}{f:M Out}(h:PS X st (RSX X.K (λ_=>E) f)):PS X st (RSg X.K (μX X.K E) f):=Bk h λD σ H z9=>by
 obtain ⟨Oo,c,t,fi,o,t',eq,k⟩:=z9;refine ⟨Oo,c,t,fi,o,t',eq,λσ' H' c' f' s'=>?_⟩;have q:=k σ' H' c' f' s'
 cases o <;> exact q
theorem Ol {k:Nat}{ps:List Str}{f:M (List D)}{x:Str}{p:Pos}(F:FnOk X.prog X.w X.K X.mg X.base (CX1 qx X.prog X.w) k fa fd ps (spX X.K g))(hr:Room k X.A)(hg:Gl X x)(hm:X.mg x=some (.ref fa))(hk:PySem.W.keepIn X.K (.ref fa)=true)(hb:Binds X.K fd ps [])
 (hx:Cr (CX1 qx X.prog X.w) X E) (ha:PA X (e :: es) (RA X.K f)) (hdb:(x == ("__debug__" : Str))=false:=by decide) (h1:AY e=false:=by rfl) (h2:A4 es=true:=by rfl) :
 PE X (.Call (.Name x p) (e :: es) [] pos) (RX X.K E (Ai g f)):=
 AG (TZ F hr hg hm hk hb hx ha hdb (A8 h1) (AZ h2).1) λσ H Q z9=>by
  obtain ⟨Oo,c,t,fi,r,t',eq,kk⟩:=z9;obtain ⟨ds,t1,e1,eq⟩:=Ae eq;obtain ⟨S',e2,rfl⟩:=Ga eq;refine ⟨Oo,c,t,fi,ds,t1,e1,λvs H1 c1 f1 s1 rvs=>?_⟩;refine ⟨c1,ds,t1.S,f1.s,rvs,r,S',e2,λv H' c' si st ho rv=>?_⟩;obtain ⟨f2,s2⟩:=f1.after si st ho;exact kk v H' c' f2 (s1.trans s2) rv
def nxD (f:M D):M D:=bnd f λd=>if Bf d=true then fail else ret d
theorem Nj {t t':T}(h:nxD f t=some (r,t')):f t=some (r,t')/\Bf r=false:=by
 obtain ⟨d,t1,e1,h⟩:=Ae h
 by_cases hx:Bf d=true
 ·rw [if_pos hx] at h;cases h
 ·rw [if_neg hx] at h;cases h;exact ⟨e1,by simpa using hx⟩
theorem QY {A B:Prop}(h:Bf r=false)(q:if Bf r=true then A else B):B:=by rw [if_neg (by rw [h];decide)] at q;exact q
def KN (g:M D)(h:D->M D):M D:=bnd g λy=>if Bf y=true then ret y else nxD (h y)
theorem RX.bind {K:PySem.W.Frag}{g:M D}{h:D->M D}{σ:L2.St}{H:Hp}{Q:VK}{Oo:Addr->Prop}{c:Cf}{t t':T}(fi:FInv K Oo c t σ H)(eq:KN g h t=some (r,t'))
 (k:∀v H' c',FInv K Oo c' t' σ H'->Stp Oo c H c' H'->Rep K c' H' v r->if Bf r=true then exE (E σ) v H' else Q v H') {R:V->Hp->Prop}
 (s:∀y dy t1 H1 c1,FInv K Oo c1 t1 σ H1->Stp Oo c H c1 H1->Rep K c1 H1 y dy->h dy t1=some (r,t')->(∀v H' c',FInv K Oo c' t' σ H'->Stp Oo c1 H1 c' H'->Rep K c' H' v r->Q v H')->R y H1):RX K E g σ H R:=by
 obtain ⟨dy,t1,e1,eq⟩:=Ae eq;refine ⟨Oo,c,t,fi,dy,t1,e1,λy H1 c1 f1 s1 ry=>?_⟩
 by_cases hx:Bf dy=true
 ·rw [if_pos hx] at eq ⊢
  cases eq
  have:=k y H1 c1 f1 s1 ry;rw [if_pos hx] at this;exact this
 ·rw [if_neg hx] at eq ⊢;obtain ⟨e2,e3⟩:=Nj eq;exact s y dy t1 H1 c1 f1 s1 ry e2 λv H' c' f' s' rv=>QY e3 (k v H' c' f' (s1.trans s') rv)
def Fv (f g:M D)(h:D->D->M D):M D:=bnd f λx=>KN g λy=>h x y
theorem RX.two {K:PySem.W.Frag}{g:M D}(s:Bm K R h){σ:L2.St}{H:Hp}{Q:VK}(q:RX K E (Fv f g h) σ H Q):tOp R (RE K f) (RX K E g) σ H Q:=by
 obtain ⟨Oo,c,t,fi,r,t',eq,k⟩:=q;obtain ⟨dx,t1,e1,eq⟩:=Ae eq;refine ⟨Oo,c,t,fi,dx,t1,e1,λx H1 c1 f1 s1 rx=>?_⟩;exact RX.bind f1 eq (λv H' c' f' s' rv=>k v H' c' f' (s1.trans s') rv) λy dy t2 H2 c2 f2 s2 ry e2 kk=>s f2 (rx.mono s2.ext) ry e2 kk
theorem ah {op:Operator}{g:M D}(ho:OpR X (binaryOp op) R)(s:Bm X.K R h)(ha:PE X a (RE X.K f))(hb:PE X b (RX X.K E g)):PE X (.BinOp a op b pos) (RX X.K E (Fv f g h)):=
 AG (PN ho ha hb) λ_ _ _ q=>RX.two s q
theorem ag {g:M D}(hr:IxR X R)(s:Bm X.K R h)(ha:PE X a (RE X.K f))(hb:PE X b (RX X.K E g))(hs:KH b):PE X (.Subscript a b pos) (RX X.K E (Fv f g h)):=
 AG (UZ hr ha hb hs) λ_ _ _ q=>RX.two s q
def eD (f g:M D)(h:D->D->M D):M D:=KN f λx=>bnd g λy=>h x y
def d8 (g:Fn)(f:M D):M D:=KN f λd t=>match g [d] t.S with
 | some (r,S')=>some (r,{ t with S:=S' })
 | none=>none
theorem Oh (h:PE X e (RX X.K E f)):PS X (.Return (some e) pos) (RSX X.K E (Ao f)):=
 Bk (Ir h) λD σ H z9=>by
  obtain ⟨Oo,c,t,fi,o,t',eq,k⟩:=z9;obtain ⟨d,t1,e1,eq⟩:=Ae eq
  cases eq
  exact ⟨Oo,c,t,fi,d,_,e1,λv H1 c1 f1 s1 rv=>k σ H1 c1 f1 s1 v rv⟩
def B9 (i:Nat)(f:M D):M Out:=bnd f λd=>if Bf d=true then ret (.ret d) else bnd (AB i d) λ_=>ret .next
theorem Oi {i:Nat}{x:Str}{pos':Pos}(hN:X.N.Nodup)(hi:X.N[i]?=some x)(hx:Loc X.env.scope x)(he:PE X e (RX X.K E f))(hs:swapsWith e (some (.Name x pos')) pos.line X.env=pure false:=by rfl)(hf:X.fn x=true\/X.env.scope.names.lookup x=some .local:=by walk_at "h") :
 PS X (.Assign [.Name x pos'] e pos) (RSX X.K E (B9 i f)):=Bk (Np hN hi hx he hs hf) λD σ H z9=>by
 obtain ⟨Oo,c,t,fi,o,t',eq,k⟩:=z9;obtain ⟨d,t1,e1,eq⟩:=Ae eq;refine ⟨Oo,c,t,fi,d,t1,e1,λv H1 c1 f1 s1 rv=>?_⟩
 by_cases hx:Bf d=true
 ·rw [if_pos hx] at eq ⊢
  cases eq
  have:=k σ H1 c1 f1 s1 v rv;rw [if_pos hx] at this;exact this
 ·rw [if_neg hx] at eq ⊢
  cases eq
  exact k _ H1 c1 (f1.set rv) s1
def eC (f:M D):M Out:=bnd f λd=>if Bf d=true then ret (.ret d) else ret .next
def eI (f:M D)(g:D->M Unit):M Out:=bnd f λd=>if Bf d=true then ret (.ret d) else bnd (g d) λ_=>ret .next
theorem Tk {f:M Out}(h:PS X st (RSX X.K E f)):PSs X [st] (RSX X.K E f):=GI h
end
end F2
namespace L2
open PySem PySem.Spec PyProof.Rows PySem.W PySem.Builtin PySem.Builtin.ObjectAttr
structure XGet (K:PySem.W.Frag)(C:Addr):Prop where
 ga:findIn K (.ref C) "__getattribute__" = some (some (.builtin "BaseException.__getattribute__"))
 gt:findIn K (.ref C) "__getattr__" = some none
 mb:mroIn K C (.type "BaseException")=some true
 mo:mroIn K C (.type "object")=some true
 hd:hasDictIn K C=true
section
variable {prog:Program}{w:World}{A:Around}{E:Value->Shared->Prop}{s:Shared}{K:PySem.W.Frag}{x C:Addr}{ox:Obj}{od:Option Obj}{name:Str}{tk:Tok}{Q:Value->Shared->Prop}{R:Result->Shared->Prop}
theorem Qz {fill expr:Bool}(X:K.In s.heap)(I:InstAt s.heap x ox C od)(g:XGet K C)
 (h:codeAny (model prog w) A (.call (.builtin "BaseException.__getattribute__") ⟨[.ref x,.str name tk],[]⟩) (λr s'=>match r with | .ok (.ret v)=>wpAny (model prog w) A (handedOut v) Q E s' | _=>False) s) :
 wpAny (model prog w) A (getAttrBy (.ref x) (.str name tk) fill expr) Q E s:=by
 have L0:=I.type (M:=model prog w);have L1:=looks_findIn (M:=model prog w) X g.ga;have L2:=looks_findIn (M:=model prog w) X g.gt;have ne:(onTheHeap (Value.ref C) && Value.builtin "BaseException.__getattribute__" == Value.builtin "object.__getattribute__")=false:=by
  rw [show (Value.builtin "BaseException.__getattribute__" == Value.builtin "object.__getattribute__")=false from by decide +kernel];rfl
 unfold getAttrBy;refine ul7 (un2 (L0.here (un2 (L1.here ?_))));show wpAny _ _ (if (onTheHeap (Value.ref C) && Value.builtin "BaseException.__getattribute__" == Value.builtin "object.__getattribute__")=true then _ else _) _ _ _;rw [if_neg (by rw [ne];decide)];unfold getAttrByItsOwn hookBefore;rw [if_pos (show onTheHeap (Value.ref C)=true from rfl)];refine un2 (L2.here (un2 (wpAny_attempt (ul7 ?_))));unfold callGetattribute;rw [if_neg (show ¬((expr && onTheHeap (Value.builtin "BaseException.__getattribute__"))=true) from by cases expr <;> decide)];unfold boundAndCalled;refine un2 (wpAny_of_eq (PySem.F.excAttr_ValueError.ga.bind _) (wpAny_call (codeAny_mono h λr s' z=>?_)))
 cases r with
 | error e=>exact z.elim
 | ok f=>cases f <;> first | exact z | exact z.elim
theorem Tl (X:K.In s.heap)(I:InstAt s.heap x ox C od)(g:XGet K C)
 (h:wpAny (model prog w) A.in1 («object.__getattribute__» ⟨[.ref x,.str name tk],[]⟩) (λfin s'=>match fin with | .done f=>R (.ok f) s' | .again c'=>c'.quiet=true/\codeAny (model prog w) A c' R s') (λe s'=>R (.error e) s') s) :
 codeAny (model prog w) A (.call (.builtin "BaseException.__getattribute__") ⟨[.ref x,.str name tk],[]⟩) R s:=by
 have ob:Looks (model prog w) s.heap (isInstance (.ref x) (.type "BaseException")) true:=I.type.andThen (looks_mroIn X g.mb);refine codeAny_call_builtin PySem.F.excAttr_ValueError.ga.plain PySem.F.entry_bexc_ga (@check_slot (model prog w) _ _ s "BaseException.__getattribute__" "BaseException" "__getattribute__" (.ref x) [.str name tk] [] _ (by decide +kernel) (by decide +kernel) ob (PySem.F.args_bexc_ga (.ref x) (.str name tk)) h)
theorem Tm {v:Value}(X:K.In s.heap)(I:InstAt s.heap x ox C od)(g:XGet K C)(hf:findObj K C od name=some (.value v))(h:R (.ok (.ret v)) s) :
 codeAny (model prog w) A (.call (.builtin "BaseException.__getattribute__") ⟨[.ref x,.str name tk],[]⟩) R s:=by
 refine Tl X I g ?_;have L0:=I.type (M:=model prog w);have L1:=looks_find (M:=model prog w) X I hf;refine un2 (un3 (un2 (un3 (un2 (L0.here (un2 (L1.here ?_)))))));exact un3 h
end
end L2
namespace L2
open PySem PySem.Spec PyProof.Rows PySem.W
end L2
namespace F2
open PySem L2 PySem.Spec PySem.W
variable {qx:Bool}
abbrev Bn:List Str:=["Short", "Broken", "NoTalk", "NoName"]
structure XM (K:PySem.W.Frag)(mg:Str->Option Value)(P:Addr)(ca:Str->Addr):Prop where
 pm:mg "ParleyError" = some (.ref P)
 pc:XCl K P VE
 ns:∀n∈Bn,nsIn K mainGlobals n=some (some (.ref (ca n)))
 ms:∀n∈Bn,mg n=some (.ref (ca n))
 cl:∀n∈Bn,XCl K (ca n) (.ref P :: VE)
 inj:∀n∈Bn,∀m∈Bn,ca n=ca m->n=m
 np:∀n∈Bn,ca n≠P
 kp:∀n∈Bn,keepIn K (.ref (ca n))=true
 gt:∀n∈Bn,XGet K (ca n)
 gc:∀n∈Bn,findIn K (.ref (ca n)) "__class__" = some (some (.builtin "object.__class__"))
 na:∀n∈Bn,findIn K (.ref (ca n)) "at" = some none
 nd:∀n∈Bn,findIn K (.ref (ca n)) "side" = some none
noncomputable def EH (n m:Str):Bool:=m == "ParleyError" || m == "ValueError" || n == m
theorem HK {a b:Addr}{r:List Value}:(Value.ref a :: r).contains (.ref b)=(a == b || r.contains (.ref b)):=by
 rw [List.contains_cons]
 congr 1
 by_cases h:a=b
 ·subst h;simp
 ·rw [beq_eq_false_iff_ne.mpr h,beq_eq_false_iff_ne.mpr (λz:Value.ref b=Value.ref a=>h (Value.ref.inj z).symm)]
theorem Xx {b:Addr}:VE.contains (.ref b)=false:=rfl
section
variable {K:PySem.W.Frag}{mg:Str->Option Value}{P:Addr}{ca:Str->Addr}
theorem XM.subE (x:XM K mg P ca){n m:Str}(hn:n∈Bn)(hm:m∈Bn):(Value.ref (ca n) :: .ref P :: VE).contains (.ref (ca m))=EH n m:=by
 rw [HK,HK,Xx,beq_eq_false_iff_ne.mpr (Ne.symm (x.np m hm)),ul0,ul0];have h1:(m == ("ParleyError" : Str))=false/\(m == ("ValueError" : Str))=false:=by
  simp only [Bn,uk8,ui0,or_false] at hm;rcases hm with rfl | rfl | rfl | rfl <;> exact ⟨by decide,by decide⟩
 unfold EH;rw [h1.1,h1.2,Bool.false_or,Bool.false_or]
 by_cases h:n=m
 ·subst h;rw [ui3,ui3]
 ·rw [beq_eq_false_iff_ne.mpr h,beq_eq_false_iff_ne.mpr λz=>h (x.inj n hn m hm z)]
theorem XM.of (x:XM K mg P ca){n:Str}{C:Addr}(hn:n∈Bn)(h:nsIn K mainGlobals n=some (some (.ref C))):C=ca n:=by
 rw [x.ns n hn] at h;injection h with h;injection h with h;injection h with h
 exact h.symm
end
theorem Xp {q1 q2:Bool}{x C C':Addr}{dx dx':Option Addr}(h:XIs q1 x C dx=XIs q2 x C' dx')(e:∃h,XIs q1 x C dx h):C=C'/\dx=dx':=by
 obtain ⟨hh,o,vs,e1,e2,e3,e4⟩:=e;have q:XIs q2 x C' dx' hh:=by rw [<-h];exact ⟨o,vs,e1,e2,e3,e4⟩
 obtain ⟨o',vs',q1,q2,q3,q4⟩:=q;rw [e1] at q1;cases q1
 rw [e2] at q2;cases q2
 exact ⟨rfl,e3.symm.trans q3⟩
section
variable {X:Cx}{e:Expr}{es:List Expr}{pos p pos2:Pos}{E:L2.St->XK}{P:Addr}{ca:Str->Addr}
def XN1 (prog:Program)(w:World)(K:PySem.W.Frag)(mg:Str->Option Value)(base:Heap)(C P:Addr):Prop:=
 ∃(f:Addr) (fd:FuncData) (ps:List Str),XMk K C P f/\XAt K C P "at"/\Binds K fd ps []/\FnOk prog w K mg base CX0 1 f fd ps (spI K P "at")
def Kn (n:Str)(f:M (List D)):M Out:=bnd f λds=>match ds with
 | [d]=>ret (.ret (.exc n [d]))
 | _=>fail
theorem QN {f:M (List D)}(x:XM X.K X.mg P ca)(xn:XN1 X.prog X.w X.K X.mg X.base (ca "NoTalk") P)(hr:L2.Room 2 X.A)(hc:X.calm=true)(hx:FE qx X E)(hg:Gl X "NoTalk")(ha:PA X [e] (RA X.K f))
 (h1:AY e=false:=by rfl):PS X (.Raise (some (.Call (.Name "NoTalk" p) [e] [] pos)) none pos2) (RSX X.K E (Kn "NoTalk" f)):=by
 obtain ⟨fa,fd,ps,M,A,B,F⟩:=xn;have hn:("NoTalk" : Str)∈Bn:=by decide
 refine Bk (JD hc M.cl hx (YV M A F hr B hg (x.ms _ hn) ha (by decide) (A8 h1))) λD σ H z9=>?_;obtain ⟨Oo,c,t,fi,o,t',eq,k⟩:=z9;obtain ⟨ds,t1,e1,eq⟩:=Ae eq;refine ⟨Oo,c,t,fi,ds,t1,e1,λvs H1 c1 f1 s1 rvs=>?_⟩
 match ds,rvs,eq with
 | [],_,eq=>cases eq
 | _ :: _ :: _,_,eq=>cases eq
 | [d],.cons (v:=v0) rv .nil,eq=>
   cases eq
   refine ⟨_,rfl,λy dx hy hdx ne=>?_⟩;have f2:=f1.laid (o:=.xd [("at",v0)]) hdx;have hy2:upd H1 dx (.xd [("at",v0)]) y=none:=by rw [Ag (Ne.symm ne)];exact hy
   have f3:=f2.laid (o:=.ext (XIs qx y (ca "NoTalk") (some dx))) hy2;have s3:=s1.trans ((f1.stp_laid (o:=.xd [("at",v0)]) hdx).trans (f2.stp_laid (o:=.ext (XIs qx y (ca "NoTalk") (some dx))) hy2));refine k σ _ c1 f3 s3 (.ref y) (.exc (x.ns _ hn) Aj (f2.s.free hy2) ?_ (.cons (rv.mono ((f1.stp_laid hdx).ext.trans (f2.stp_laid hy2).ext)) .nil)) y (some dx) rfl;exact ⟨by rw [Ag ne,Aj];rfl,f1.s.free hdx⟩
def XN0 (K:PySem.W.Frag)(C:Addr):Prop:=∃cd,clsIn K C=some cd/\nsIn K cd.ns "__init__" = some none
def F1 (n:Str)(f:M (List D)):M Out:=bnd f λds=>if ds.length<=1000 then ret (.ret (.exc n [])) else fail
theorem LC {n:Str}{f:M (List D)}(x:XM X.K X.mg P ca)(hn:n∈Bn)(hf:Jr n=[])(xn:XN0 X.K (ca n))(hc:X.calm=true)(hx:FE qx X E)(hg:Gl X n)(ha:PA X (e :: es) (RA X.K f))
 (hdb:(n == ("__debug__" : Str))=false:=by decide) (h1:AY e=false:=by rfl) (h2:A4 es=true:=by rfl):PS X (.Raise (some (.Call (.Name n p) (e :: es) [] pos)) none pos2) (RSX X.K E (F1 n f)):=by
 obtain ⟨cd,hcd,hni⟩:=xn;refine Bk (JD hc (x.cl n hn) hx (Wx (x.cl n hn) (x.kp n hn) hcd hni hg (x.ms _ hn) ha hdb (A8 h1) (AZ h2).1)) λD σ H z9=>?_;obtain ⟨Oo,c,t,fi,o,t',eq,k⟩:=z9;obtain ⟨ds,t1,e1,eq⟩:=Ae eq;refine ⟨Oo,c,t,fi,ds,t1,e1,λvs H1 c1 f1 s1 rvs=>?_⟩
 split at eq
 ·next hl=>
  cases eq
  refine ⟨by rw [rvs.length];exact hl,λy hy=>?_⟩;have f3:=f1.laid (o:=.ext (XIs qx y (ca n) none)) hy;exact k σ _ c1 f3 (s1.trans (f1.stp_laid hy)) (.ref y) (.exc (x.ns _ hn) Aj (f1.s.free hy) (vs:=[]) rfl .nil) y none rfl
 ·cases eq
end
section
variable {X:Cx}{pos p:Pos}{P:Addr}{ca:Str->Addr}{μ:Cf->Hp->D->(V->Hp->Prop)->Prop}
inductive RH (K:PySem.W.Frag)(ca:Str->Addr)(μ:Cf->Hp->D->(V->Hp->Prop)->Prop)(h:D->M Out)(x C:Addr)(dx:Option Addr)(E:Ends)(σ:L2.St)(H:Hp):Prop where
 | mk (Oo:Addr->Prop) (c:Cf) (t:T) (n:Str) (ds:List D) (fi:FInv K Oo c t σ H) (hn:n∈Bn) (hC:C=ca n) (rp:Rep K c H (.ref x) (.exc n ds)) (o:Out) (t':T) (e:h (.exc n ds) t=some (o,t')) (k:∀σ' H' c',FInv K Oo c' t' σ' H'->Stp Oo c H c' H'->
   match (generalizing:=false) o with
   | .next=>E.nx σ' H'
   | .brk=>E.bk σ' H'
   | .cont=>E.ct σ' H'
   | .ret r=>μ c' H' r E.rt):RH K ca μ h x C dx E σ H
noncomputable def unE (i:Nat)(t:T):T:={ t with env:=t.env.set i none }
theorem FInv.unset {K:PySem.W.Frag}{Oo:Addr->Prop}{c:Cf}{t:T}{σ:L2.St}{H:Hp}(f:FInv K Oo c t σ H)(i:Nat):FInv K Oo c (unE i t) (σ.set i none) H:=by
 have neq:∀{j:Nat} {x:Sl},(t.env.set i none)[j]?=some (some x)->j≠i/\t.env[j]?=some (some x):=λ{j x} q=>by
  by_cases h:j=i
  ·subst h;rw [ug6] at q
   split at q
   ·split at q
    ·injection q with q;cases q
    ·cases q
   ·next h1=>exact absurd rfl h1
  ·rw [ud9 (Ne.symm h)] at q;exact ⟨h,q⟩
 refine ⟨f.s,by simp [unE,f.len],f.sub,λj e q=>?_,λj ds q=>?_,λj k ds es a q1 q2 q3 q4=>?_⟩
 ·obtain ⟨h,q⟩:=neq q;obtain ⟨u,h1,h2⟩:=f.val j e q;exact ⟨u,by rw [ud9 (Ne.symm h)];exact h1,h2⟩
 ·obtain ⟨h,q⟩:=neq q;obtain ⟨a,vs,h1,h2⟩:=f.own j ds q;exact ⟨a,vs,by rw [ud9 (Ne.symm h)];exact h1,h2⟩
 ·obtain ⟨h,q1⟩:=neq q1;obtain ⟨h',q2⟩:=neq q2;rw [ud9 (Ne.symm h)] at q3;rw [ud9 (Ne.symm h')] at q4;exact f.inj j k ds es a q1 q2 q3 q4
def hAs (n':Str)(i:Nat)(s:M Out)(r:D->M Out):D->M Out:=λe t=>match e with
 | .exc n ds=>if EH n n'=true then (match s { t with env:=t.env.set i (some (.val (.exc n ds))) } with
   | some (o,t2)=>some (o,unE i t2)
   | none=>none) else r (.exc n ds) t
 | _=>none
def hNo (n':Str)(s:M Out)(r:D->M Out):D->M Out:=λe t=>match e with
 | .exc n ds=>if EH n n'=true then s t else r (.exc n ds) t
 | _=>none
noncomputable def Tr:D->M Out:=λ_ _=>none
theorem X6:PH qx X [] (RH X.K ca μ Tr):=by
 rintro _ _ _ _ _ _ _ _ _ _ _ ⟨_,_,_,_,_,_,_,_,_,_,_,e,_⟩
 cases e
theorem Z8 {n' v:Str}{C':Addr}{bm':List Value}{i:Nat}{b₀:Stmt}{suite:List Stmt}{rest:List ExceptHandler}{s:M Out}{r:D->M Out}(x:XM X.K X.mg P ca)(hg:Gl X n')(hm:X.mg n'=some (.ref C'))(c':XCl X.K C' bm')(hs:∀n∈Bn,(Value.ref (ca n) :: .ref P :: VE).contains (.ref C')=EH n n')
 (hN:X.N.Nodup) (hi:X.N[i]?=some v) (hl:X.env.scope.names.lookup v=some .local) (hb:∀x,PSs (X.mark x) (b₀ :: suite) (RSg X.K μ s)) (hr:PH qx X rest (RH X.K ca μ r)) (hdb:(n' == ("__debug__" : Str))=false:=by decide) :
 PH qx X (.ExceptHandler (some (.Name n' p)) (some v) (b₀ :: suite) pos :: rest) (RH X.K ca μ (hAs n' i s r)):=by
 intro pins s0 σ H y C dx T D I o q;refine ay hg hm c' hN hi hl hb hr hdb pins s0 σ H y C dx T D I o ?_;obtain ⟨Oo,c,t,n,ds,fi,hn,rfl,rv,o1,t',eq,k⟩:=q;refine ⟨_,x.cl n hn,?_⟩;rw [hs n hn];unfold hAs at eq;dsimp only at eq
 by_cases hb':EH n n'=true
 ·rw [if_pos hb'] at eq ⊢
  cases e1:s { t with env:=t.env.set i (some (.val (.exc n ds))) } with
  | none=>rw [e1] at eq;cases eq
  | some z=>
    obtain ⟨o2,t2⟩:=z;rw [e1] at eq
    cases eq
    refine ⟨Oo,c,_,fi.set rv,o1,t2,e1,λσ' H' c2 f2 s2=>?_⟩;have:=k _ H' c2 (f2.unset i) s2
    cases o1 <;> exact this
 ·rw [if_neg hb'] at eq ⊢;exact ⟨Oo,c,t,n,ds,fi,hn,rfl,rv,o1,t',eq,k⟩
theorem Z9 {n':Str}{C':Addr}{bm':List Value}{b₀:Stmt}{suite:List Stmt}{rest:List ExceptHandler}{s:M Out}{r:D->M Out}(x:XM X.K X.mg P ca)(hg:Gl X n')(hm:X.mg n'=some (.ref C'))(c':XCl X.K C' bm')(hs:∀n∈Bn,(Value.ref (ca n) :: .ref P :: VE).contains (.ref C')=EH n n')
 (hb:∀x,PSs (X.mark x) (b₀ :: suite) (RSg X.K μ s)) (hr:PH qx X rest (RH X.K ca μ r)) (hdb:(n' == ("__debug__" : Str))=false:=by decide) :
 PH qx X (.ExceptHandler (some (.Name n' p)) none (b₀ :: suite) pos :: rest) (RH X.K ca μ (hNo n' s r)):=by
 intro pins s0 σ H y C dx T D I o q;refine az hg hm c' hb hr hdb pins s0 σ H y C dx T D I o ?_;obtain ⟨Oo,c,t,n,ds,fi,hn,rfl,rv,o1,t',eq,k⟩:=q;refine ⟨_,x.cl n hn,?_⟩;rw [hs n hn];unfold hNo at eq;dsimp only at eq
 by_cases hb':EH n n'=true
 ·rw [if_pos hb'] at eq ⊢;exact ⟨Oo,c,t,fi,o1,t',eq,λσ' H' c2 f2 s2=>by
   have:=k _ H' c2 f2 s2
   cases o1 <;> exact this⟩
 ·rw [if_neg hb'] at eq ⊢;exact ⟨Oo,c,t,n,ds,fi,hn,rfl,rv,o1,t',eq,k⟩
noncomputable def EY (b:M Out)(h:D->M Out):M Out:=λt=>match b t with
 | some (.ret (.exc n ds),t1)=>if n∈Bn then h (.exc n ds) t1 else none
 | z=>z
theorem QR {body:List Stmt}{h₀:ExceptHandler}{hs:List ExceptHandler}{b:M Out}{h:D->M Out}(x:XM X.K X.mg P ca)(hμ:∀c H r rt,Bf r=false->(∀v,Rep X.K c H v r->rt v H)=μ c H r rt)(h1:X.stack=X.env :: X.outer)(h2:X.env.frame=some X.env.locals)
 (hb:∀(pn:List (Addr×Obj)) (E:L2.St->XK),Cr (CX1 qx X.prog X.w) { X with pn:=pn,xe:=XE qx { X with pn:=pn } E } E->PSs { X with pn:=pn,xe:=XE qx { X with pn:=pn } E } body (RSX X.K E b)) (hh:PH qx X (h₀ :: hs) (RH X.K ca μ h)):PS X (.Try body (h₀ :: hs) [] [] pos) (RSg X.K μ (EY b h)):=
 Bk (YZ h1 h2 (λpn E=>hb pn E (XE.pass (X:={ X with pn:=pn }))) hh) λD σ H z9=>by
  obtain ⟨Oo,c,t,fi,o,t',eq,k⟩:=z9;unfold EY at eq
  cases e1:b t with
  | none=>rw [e1] at eq;cases eq
  | some z=>
    obtain ⟨o1,t1⟩:=z;rw [e1] at eq;refine ⟨Oo,c,t,fi,o1,t1,e1,λσ1 H1 c1 f1 s1=>?_⟩
    cases o1 with
    | next=>cases eq;exact k σ1 H1 c1 f1 s1
    | brk=>cases eq;exact k σ1 H1 c1 f1 s1
    | cont=>cases eq;exact k σ1 H1 c1 f1 s1
    | ret r=>
      intro v rv
      cases hx:Bf r with
      | false=>
        rw [if_neg (by decide)];have eq':some (Out.ret r,t1)=some (o,t'):=by cases r <;> first | exact eq | cases hx
        cases eq'
        have q:=k σ1 H1 c1 f1 s1;have q:μ c1 H1 r D.rt:=q;rw [<-hμ _ _ _ _ hx] at q;exact q v rv
      | true=>
        rw [if_pos rfl];intro y dx hv y' C hy' hC hex
        cases rv with
        | @exc q0 x0 C0 dx0 n vs ds g hx0 hA fl rs=>
          cases hv
          cases hy'
          dsimp only at eq
          split at eq
          ·next hn=>
           rw [hx0] at hC;injection hC with hC;injection hC with hC
           obtain ⟨e2,e3⟩:=Xp hC.symm hex;have:=x.of hn g;exact ⟨Oo,c1,t1,n,ds,f1,hn,e2.trans this,.exc g hx0 hA fl rs,o,t',eq,λσ' H' c' f' s'=>k σ' H' c' f' (s1.trans s')⟩
          ·cases eq
        | _=>cases hx
end
end F2
namespace F2
open PySem L2 PySem.Spec PySem.W
variable {qx:Bool}
def eJ (n:Str):D->M D
 | .exc m _=>if m∈Bn then ret (.bl (EH m n)) else fail
 | .non=>ret (.bl false)
 | .bl _=>ret (.bl false)
 | .int _=>ret (.bl false)
 | .str _=>ret (.bl false)
 | .lst _=>ret (.bl false)
 | .tup _=>ret (.bl false)
 | .dic=>ret (.bl false)
 | _=>fail
section
variable {X:Cx}{P:Addr}{ca:Str->Addr}{a:Expr}{f:M D}{p pos q:Pos}
def HG (nm:Str):D->M D
 | .exc n ds=>if n∈Bn then (match ((Jr n).zip ds).lookup nm with
   | some d=>ret d
   | none=>fail) else fail
 | _=>fail
theorem Je {K:PySem.W.Frag}{c:Cf}{H:Hp}{nm:Str}{d:D}:∀{ns:List Str} {vs:List V} {ds:List D},Reps K c H vs ds->(ns.zip ds).lookup nm=some d->∃v,(ns.zip vs).lookup nm=some v/\Rep K c H v d
 | [],_,_,_,e=>by cases e
 | _ :: _,_,_,.nil,e=>by cases e
 | n :: ns,_,_,.cons (v:=v0) (d:=d0) r rs,e=>by
   by_cases h:nm=n
   ·subst h;simp only [List.zip_cons_cons,List.lookup,ui3,ug7] at e ⊢;subst e;exact ⟨v0,rfl,r⟩
   ·have hb:(nm == n)=false:=beq_eq_false_iff_ne.mpr h;simp only [List.zip_cons_cons,List.lookup,hb] at e ⊢;exact Je rs e
theorem XT {nm:Str}(x:XM X.K X.mg P ca)(hno:∀n∈Bn,findIn X.K (.ref (ca n)) nm=some none)(ha:PE X a (RE X.K f))(hb:attributeBase a nm X.env (eval a X.env)=eval a X.env):PE X (.Attribute a nm pos) (RE X.K (bnd f (HG nm))):=by
 intro pins s σ H Q I h;obtain ⟨Oo,c0,t,fi,r,t',eq,k⟩:=h;obtain ⟨d,t1,e1,eq⟩:=Ae eq;refine N4 hb (thn (ha pins s σ H (λv H1=>∃c1,FInv X.K Oo c1 t1 σ H1/\Stp Oo c0 H c1 H1/\Rep X.K c1 H1 v d) I ⟨Oo,c0,t,fi,d,t1,e1,λv H1 c1 f1 s1 rv=>⟨c1,f1,s1,rv⟩⟩) λu s1 z9=>?_);obtain ⟨v,H1,I1,rx,c1,f1,st1,rv⟩:=z9
 cases rv with
 | @exc q0 x0 C0 dx0 m vs ds g hx0 hA fl rs=>
   cases (show u=Value.ref x0 from rx)
   unfold HG at eq;dsimp only at eq
   split at eq
   ·next hm=>
    have hc:=x.of hm g;subst hc
    cases el:((Jr m).zip ds).lookup nm with
    | none=>rw [el] at eq;cases eq
    | some d'=>
      rw [el] at eq
      cases eq
      obtain ⟨v',l1,r1⟩:=Je rs el
      cases dx0 with
      | none=>
        have fl:vs=[]:=fl;subst fl;simp at l1
      | some dd=>
        have hdd:H1 dd=some (.xd ((Jr m).zip vs)):=fl.1;obtain ⟨o,vs0,q1,q2,q3,q4,_⟩:=(I1.hok x0 _ hx0).1;have nc:notCls o=true:=by unfold notCls;rw [q4]
        obtain ⟨mA,nA,rA⟩:=(show ObjOk X.prog X.w H1 s1.heap dd (.xd ((Jr m).zip vs)) from I1.hok dd _ hdd);obtain ⟨od,ho,hl⟩:=Ib nA;obtain ⟨u',hu,ru⟩:=RelO.some_of (v:=v') (o:=mA nm) (by rw [<-l1];exact rA nm);have IA:InstAt s1.heap x0 o (ca m) (some od):=⟨q1,q2,nc,by rw [q3];exact ho⟩;unfold getAttr;refine un2 (wpAny_mkText ?_);refine Qz (s:={ s1 with toks:=s1.toks + 1 }) I1.kIn IA (x.gt m hm) (Tm I1.kIn IA (x.gt m hm) (findObj_own (x.gt m hm).hd (hno m hm) rfl (by rw [hl,hu])) ?_);exact handed_on (LD ru) ⟨v',H1,I1.tok _,ru,k v' H1 c1 f1 st1 r1⟩
   ·cases eq
 | _=>cases eq
end
end F2
namespace F2
open PySem L2 PySem.Spec PySem.W
variable {qx:Bool}
def Qh (K:PySem.W.Frag)(P c:Addr):Bool:=Ml K c (.ref P :: VE) && keepIn K (.ref c) && findIn K (.ref c) "__getattribute__" == some (some (.builtin "BaseException.__getattribute__")) && findIn K (.ref c) "__getattr__" == some none && mroIn K c (.type "BaseException") == some true
 && mroIn K c (.type "object") == some true && hasDictIn K c && findIn K (.ref c) "__class__" == some (some (.builtin "object.__class__")) && findIn K (.ref c) "at" == some none && findIn K (.ref c) "side" == some none
structure XOne (K:PySem.W.Frag)(P c:Addr):Prop where
 cl:XCl K c (.ref P :: VE)
 kp:keepIn K (.ref c)=true
 gt:XGet K c
 gc:findIn K (.ref c) "__class__" = some (some (.builtin "object.__class__"))
 na:findIn K (.ref c) "at" = some none
 nd:findIn K (.ref c) "side" = some none
variable {K:PySem.W.Frag}{P:Addr}
theorem IY {c:Addr}(h:Qh K P c=true):XOne K P c:=by
 unfold Qh at h;simp only [uh5,beq_iff_eq] at h;obtain ⟨⟨⟨⟨⟨⟨⟨⟨⟨h1,h2⟩,h3⟩,h4⟩,h5⟩,h6⟩,h7⟩,h8⟩,h9⟩,h10⟩:=h;exact ⟨.of_in h1,h2,⟨h3,h4,h5,h6,h7⟩,h8,h9,h10⟩
noncomputable def Jl (c1 c2 c3 c4:Addr):Str->Addr:=λn=>if n = "Short" then c1 else if n = "Broken" then c2 else if n = "NoTalk" then c3 else c4
theorem CS {Q:Str->Prop}(h1:Q "Short")(h2:Q "Broken")(h3:Q "NoTalk")(h4:Q "NoName"):∀n∈Bn,Q n:=by
 intro n hn;simp only [Bn,uk8,ui0,or_false] at hn;rcases hn with rfl | rfl | rfl | rfl <;> assumption
def Qg (K:PySem.W.Frag)(P:Addr)(cs:List Addr):Bool:=Ml K P VE && cs.all (Qh K P)
theorem bF {h:Heap}{mg:Str->Option Value}{c1 c2 c3 c4:Addr}(X:K.In h)(G:h.Ns mainGlobals mg)(p:nsIn K mainGlobals "ParleyError" = some (some (.ref P)))(a1:nsIn K mainGlobals "Short" = some (some (.ref c1)))(a2:nsIn K mainGlobals "Broken" = some (some (.ref c2)))(a3:nsIn K mainGlobals "NoTalk" = some (some (.ref c3)))(a4:nsIn K mainGlobals "NoName" = some (some (.ref c4)))(q:Qg K P [c1,c2,c3,c4]=true)(nd:[P,c1,c2,c3,c4].Nodup):XM K mg P (Jl c1 c2 c3 c4):=by
 unfold Qg at q;simp only [ul2,List.all_nil,Bool.and_true,uh5] at q;obtain ⟨q0,q1,q2,q3,q4⟩:=q;have o1:=IY q1;have o2:=IY q2;have o3:=IY q3;have o4:=IY q4;have inj:∀n∈Bn,∀m∈Bn,Jl c1 c2 c3 c4 n=Jl c1 c2 c3 c4 m->n=m:=by
  simp only [ui9,uk8,ui0,or_false,not_or,List.nodup_nil,and_true] at nd;obtain ⟨⟨n1,n2,n3,n4⟩,⟨m12,m13,m14⟩,⟨m23,m24⟩,m34,_⟩:=nd;have h1:Jl c1 c2 c3 c4 "Short" = c1:=rfl;have h2:Jl c1 c2 c3 c4 "Broken" = c2:=rfl;have h3:Jl c1 c2 c3 c4 "NoTalk" = c3:=rfl;have h4:Jl c1 c2 c3 c4 "NoName" = c4:=rfl;refine CS ?_ ?_ ?_ ?_ <;> refine CS ?_ ?_ ?_ ?_ <;> intro e <;> first | rfl | (exfalso;rw [h1] at e) | (exfalso;rw [h2] at e) | (exfalso;rw [h3] at e) | (exfalso;rw [h4] at e)
  all_goals (first | rw [h1] at e | rw [h2] at e | rw [h3] at e | rw [h4] at e)
  all_goals (first | contradiction | (have e:=e.symm;contradiction))
 refine ⟨mg_of X G p,.of_in q0,CS a1 a2 a3 a4,CS (mg_of X G a1) (mg_of X G a2) (mg_of X G a3) (mg_of X G a4),CS o1.cl o2.cl o3.cl o4.cl,inj,?_,
  CS o1.kp o2.kp o3.kp o4.kp,CS o1.gt o2.gt o3.gt o4.gt,CS o1.gc o2.gc o3.gc o4.gc,CS o1.na o2.na o3.na o4.na,CS o1.nd o2.nd o3.nd o4.nd⟩
 simp only [ui9,uk8,ui0,or_false,not_or] at nd;obtain ⟨⟨n1,n2,n3,n4⟩,_⟩:=nd;exact CS (Ne.symm n1) (Ne.symm n2) (Ne.symm n3) (Ne.symm n4)
noncomputable def AV (s:Stmt)(k:Nat):Stmt:=match s with
 | .ClassDef _ _ _ body _ _ _ _ _ _ _=>body.getD k (.Pass ⟨0,0,0,0⟩)
 | _=>.Pass ⟨0,0,0,0⟩
noncomputable def GB (K:PySem.W.Frag)(C f:Addr):Bool:=match clsIn K C with
 | some cd=>nsIn K cd.ns "__init__" == some (some (.ref f))
 | none=>false
def XF1 (K:PySem.W.Frag)(C P:Addr)(qual:Str)(st:Stmt):Prop:=∃(f:Addr) (fd:FuncData),XMk K C P f/\XAt K C P "at"/\Binds K fd ["self", "at"] []/\Fun K "__init__" qual st f fd
variable {C:Addr}
theorem ZS {f:Addr}{qual:Str}{st:Stmt}{od an:Option Addr}{sl:Array (Option Value)}{oc kV dc pm cd ct:Value}(o:XOne K P C)(i:GB K C f=true)(hf:isFn K (.ref f)=true)(hs:findIn K (.ref C) "__setattr__" = some (some (.builtin "object.__setattr__")))
 (l:K.lookup f=some ⟨oc,od,.func (PySem.W.fnOf "__init__" qual (CU st) (Be st) (Al st) .none kV dc pm an cd ct),sl⟩) (c:codeIn K cd qual=true) (k:keepIn K (.ref f)=true)
 (hb:∀(kV doc pm:Value) (an:Option Addr) (cdv ct:Value) (us:List Value),us.length=2->bindArgs (PySem.W.fnOf "__init__" qual (CU st) (Be st) (Al st) .none kV doc pm an cdv ct) ⟨us,[]⟩=pure ((["self", "at"]:List Str).zip us)):XF1 K C P qual st:=by
 refine ⟨f,_,⟨o.cl,?_,hf,o.kp⟩,⟨o.cl,hs,o.na⟩,(Fa (st:=st) l c k).binds (ps:=["self", "at"]) hb,Fa (st:=st) l c k⟩;unfold GB at i
 split at i
 ·next cd' e=>exact ⟨cd',e,beq_iff_eq.mp i⟩
 ·cases i
theorem Tw {prog:Program}{w:World}{mg:Str->Option Value}{base:Heap}{qual:Str}{st:Stmt}{p1 p2 p3 p4:Pos}(hbd:Be st=[.Assign [.Attribute (.Name "self" p1) "at" p2] (.Name "at" p3) p4])(S:FnScope ["self", "at"] ["self", "at"] (Al st))
 (s1:(Al st).names.lookup ("self" : Str)=some NameKind.local) (s2:(Al st).names.lookup ("at" : Str)=some NameKind.local) (x:XF1 K C P qual st):XN1 prog w K mg base C P:=by
 obtain ⟨f,fd,M,A,B,F⟩:=x;refine ⟨f,fd,_,M,A,B,F.ok (k:=0) S (λvs H Q E h=>?_) λcdv A' outer s H vs Q E hr h=>?_⟩
 ·obtain ⟨y,C',tp,v,rfl,_⟩:=h;rfl
 ·rw [hbd];refine ⟨_,GI (PR (P:=P) (CB (i:=0) rfl (.inl s1) (by decide) (by decide)) (CB (i:=1) rfl (.inl s2) (by decide) (by decide)) rfl),?_⟩;obtain ⟨y,C',tp,v,rfl,hy,ha,k⟩:=h;exact ⟨v,rfl,.ref y,rfl,y,C',tp,rfl,hy,ha,λdx h1 h2=>k dx h1 h2⟩
noncomputable def Kj (K:PySem.W.Frag)(C:Addr):Bool:=match clsIn K C with
 | some cd=>nsIn K cd.ns "__init__" == some none
 | none=>false
theorem Sy (h:Kj K C=true):XN0 K C:=by
 unfold Kj at h
 split at h
 ·next cd e=>exact ⟨cd,e,beq_iff_eq.mp h⟩
 ·cases h
end F2
namespace F2
open PySem L2 PySem.Spec PySem.W
inductive Kd where
 | pl | fr | ex | er
abbrev okK (k:Kd)(P:Program)(w:World)(K:PySem.W.Frag)(mg:Str->Option Value)(base:Heap)(n:Nat)(fa:Addr)(fd:FuncData)(ps:List Str)(f:Fn):Prop:=match k with
 | .pl=>FnOk P w K mg base CX0 n fa fd ps (spF K f)
 | .fr=>FnOk P w K mg base CX0 n fa fd ps (spFF K f)
 | .ex=>FnOk P w K mg base (CX1 true P w) n fa fd ps (spX K f)
 | .er=>FnOk P w K mg base (CX1 false P w) n fa fd ps (spX K f)
section
variable {X:Cx}{e a b:Expr}{pos:Pos}{f g:M D}
theorem Og {E:XK}(h:PE X e (RE X.K f)):PS X (.Return (some e) pos) (RSg X.K (μX X.K E) (Ao (nxD f))):=
 Bk (Ir h) λD σ H z9=>by
  obtain ⟨Oo,c,t,fi,o,t',eq,k⟩:=z9;obtain ⟨d,t1,e1,eq⟩:=Ae eq
  cases eq
  obtain ⟨e2,e3⟩:=Nj e1;exact ⟨Oo,c,t,fi,d,_,e2,λv H1 c1 f1 s1 rv=>QY e3 (k σ H1 c1 f1 s1 v rv)⟩
end
theorem Yr {K:PySem.W.Frag}:∀(c:Cf) (H:Hp) (r:D) (rt:V->Hp->Prop),Bf r=false->(∀v,Rep K c H v r->rt v H)=μR K c H r rt:=λ_ _ _ _ _=>rfl
theorem Ys {K:PySem.W.Frag}{E:XK}:∀(c:Cf) (H:Hp) (r:D) (rt:V->Hp->Prop),Bf r=false->(∀v,Rep K c H v r->rt v H)=μX K E c H r rt:=λc H r rt h=>by
 unfold μX;rw [h];rfl
variable {qx:Bool}
section
variable {X:Cx}{P:Addr}{ca:Str->Addr}{a:Expr}{es:List Expr}{f:M D}{p pos q:Pos}{i:Nat}{ns:List Str}
end
end F2
namespace F2
open PySem L2 PySem.Spec SeqAt
end F2
namespace L2
open PySem PySem.Spec PyProof.Rows PySem.W PySem.Builtin PySem.Builtin.ObjectAttr
variable {qx:Bool}
section
variable {prog:Program}{w:World}{A:Around}{s:Shared}{K:PySem.W.Frag}{x C P dx:Addr}{ox:Obj}{od:Option Obj}{R:Result->Shared->Prop}{name:Str}{v:Value}{tk:Tok}{cd:ClassData}
theorem TV (X:K.In s.heap)(I:InstAt s.heap x ox C od)(hc:clsIn K C=some cd)(hmr:cd.mro=Gb C P)(ha:findIn K (.ref C) name=some none)
 (h:wpAny (model prog w) A.in1 (storeInOwnDict (.ref x) (.ref C) (.str name tk) name v false) (λfin s'=>match fin with | .done f=>R (.ok f) s' | .again c'=>c'.quiet=true/\codeAny (model prog w) A c' R s') (λe s'=>R (.error e) s') s) :
 codeAny (model prog w) A (.call (.builtin "object.__setattr__") ⟨[.ref x,.str name tk,v],[]⟩) R s:=by
 have SF:=PySem.F.store_object;have ob:Looks (model prog w) s.heap (isInstance (.ref x) (.type "object")) true:=I.type.andThen (looks_mroIn X (by unfold mroIn;rw [hc,Option.bind_some,hmr];rfl));refine codeAny_call_builtin SF.slot.plain SF.entry (@check_slot (model prog w) _ _ s "object.__setattr__" "object" "__setattr__" (.ref x) [.str name tk,v] [] _ SF.kind SF.split ob (SF.args (.ref x) (.str name tk) v) ?_);have mr:Looks (model prog w) s.heap (mroOf (.ref C)) (Gb C P):=by rw [<-hmr];exact (looks_clsIn X hc).andThen .now
 rw [osa_eq,refuse_eq];refine un2 (un2 (I.type.here (un2 (mr.here ?_))));rw [Ko];refine un3 (un2 (I.type.here (un2 ((looks_findIn X ha).here ?_))));exact un2 (un3 h)
theorem Ut {E:Value->Shared->Prop}{Q:Unit->Shared->Prop}{m:Str->Option Value}{a:Str}{oD:Obj}(X:K.In s.heap)(hx:s.heap.get? x=some ox)(hcl:ox.cls = .ref C)(hno:notCls ox=true)(hod:ox.dict=some dx)(hdx:s.heap.get? dx=some oD)(n1:s.heap.Ns1 dx m)(hm:PySem.Within m [a])(hs:findIn K (.ref C) "__setattr__" = some (some (.builtin "object.__setattr__")))(hc:clsIn K C=some cd)(hmr:cd.mro=Gb C P)(hd:cd.hasDict=true)(ha:findIn K (.ref C) name=some none)
 (h:∀h',(∀b o,b≠dx->s.heap.get? b=some o->h'.get? b=some o)->h'.Ns1 dx (λy=>if y=name then some v else m y)->Q () { s with heap:=h',toks:=s.toks + 2 }) :
 wpAny (model prog w) A (setAttr (.ref x) name v) Q E s:=by
 have I:InstAt s.heap x ox C (some oD):=⟨hx,hcl,hno,by rw [hod];exact hdx⟩;refine set_plain X I hs (TV (s:={ s with toks:=s.toks + 1 }) X I hc hmr ha ?_);refine un2 (un3 (un2 (un2 (wpAny_loadPart (s:={ s with toks:=s.toks + 1 }) hx ?_))));rw [hod,hcl];refine un2 (Looks.here (s:={ s with toks:=s.toks + 1 }) (looks_clsIn X hc) ?_);rw [hd,if_neg (by decide)];refine un3 ?_;refine un2 (un3 (un2 ?_));refine wpAny_nsSet1 n1 λh' n2 sb=>?_;obtain ⟨oD,esD,epD,hoD,hdD,hcD⟩:=n2.count (PySem.Within.cons name v hm);refine un2 (wpAny_lookBehind hoD (by rw [hdD];exact pastItsLine_dict (um0 hcD (by show 2<=_;decide))) ?_);exact un3 (h h' (λb o hb e=>(sb.2 b hb).trans e) n2)
end
def cE (K:PySem.W.Frag)(P:Addr)(ta tv:TE)(f1 f:Str):TS:=λD σ H=>tv σ H λy H1=>ta σ H1 λx H2=>∃a C tp dx y1,x = .ref a/\H2 a=some (Fg a C tp dx)/\H2 dx=some (.xd [(f1,y1)])/\dx≠a/\XAt K C P f/\D.nx σ (upd H2 dx (.xd [(f1,y1),(f,y)]))
theorem RK {X:Cx}{P:Addr}{o value:Expr}{ta tv:TE}{f1 f:Str}{pos' pos:Pos}(hf:f1≠f)(ha:PE X o ta)(hv:PE X value tv)(hs:swapsWith value (some (.Attribute o f pos')) pos.line X.env=pure false):PS X (.Assign [.Attribute o f pos'] value pos) (cE X.K P ta tv f1 f):=by
 intro pins s σ H D I h;refine plainObj_wpAny_Assign_Attribute (thn (hv pins s σ H _ I h) λu s1 ⟨y,H1,I1,ry,q⟩=>thn (ha pins s1 σ H1 _ I1 q) λov s2 z9=>?_) hs;obtain ⟨x,H2,I2,rx,a,C,tp,dx,y1,ex,ea,ed,ne,c,q2⟩:=z9;subst ex;obtain rfl:ov=Value.ref a:=rx;obtain ⟨cd,c1,c2,c3⟩:=c.cl.cls;have hx:s2.heap.get? a=some { excObj C tp with dict:=some dx }:=(I2.hok a _ ea).1;obtain ⟨m,n1,rm⟩:=(show ObjOk X.prog X.w H2 s2.heap dx (.xd [(f1,y1)]) from I2.hok dx _ ed);obtain ⟨oD,ho,_⟩:=Ib n1;have hw:PySem.Within m [f1]:=λg hg=>by
  by_cases e:g=f1
  ·simp [e]
  ·exfalso;have z:=rm g;have hgb:(g == f1)=false:=beq_eq_false_iff_ne.mpr e;simp only [List.lookup,hgb] at z
   cases hm:m g with
   | none=>exact hg hm
   | some u=>rw [hm] at z;exact z
 refine Ut I2.kIn hx rfl rfl rfl ho n1 hw c.set c1 c2 c3 c.no λh' k n=>?_;have na:∀b u,s2.heap.get? b=some u->H2 b=none->b≠dx:=λb u _ z w'=>by rw [w',ed] at z;cases z
 refine ⟨σ,_,I2.un (h':=h') (t':=s2.toks + 2) ⟨λb u e1 e2 _ _=>k b u (na b u e1 e2) e1,λb u e1 e2 _ _=>⟨u.slots,k b u (na b u e1 e2) e1⟩,λb u e1 e2 _=>?_,λb u e1 _=>?_,λb xs e1=>?_,λb o' u e1=>?_,λb ps e1=>⟨#[],?_⟩⟩ λb u e1=>?_,q2⟩
 ·rw [Ag (na b u e1 e2)];exact e2
 ·by_cases hb:b=dx
  ·subst hb;obtain ⟨od',es,ep,e,_⟩:=n;exact ⟨_,e⟩
  ·exact ⟨_,k b u hb e1⟩
 ·rw [Ag (λz=>by rw [z,ed] at e1;cases e1)];exact e1
 ·rw [Ag (λz=>by rw [z,ed] at e1;cases e1)];exact e1
 ·rw [Ag (λz=>by rw [z,ed] at e1;cases e1),e1];simp
 ·by_cases hb:b=dx
  ·subst hb;rw [Aj] at e1;cases e1
   refine ⟨_,n,λg=>?_⟩
   by_cases hg:g=f
   ·subst hg;have hgb:(g == f1)=false:=beq_eq_false_iff_ne.mpr (Ne.symm hf);simp only [List.lookup,hgb,ui3,if_true];exact ry
   ·have hgb:(g == f)=false:=beq_eq_false_iff_ne.mpr hg;have z:=rm g
    by_cases hg1:g=f1
    ·subst hg1;simp only [List.lookup,ui3] at z;simp only [List.lookup,ui3,if_neg hg];exact z
    ·have hgb1:(g == f1)=false:=beq_eq_false_iff_ne.mpr hg1;simp only [List.lookup,hgb1] at z;simp only [List.lookup,hgb,hgb1,if_neg hg];exact z
  ·rw [Ag hb] at e1;refine (I2.hok b u e1).stay (λz v hz q=>k z v ?_ q) (λz q=>?_) λz xs q=>?_
   ·rcases hz with rfl | hz
    ·exact hb
    ·intro w';rw [w',ed] at hz;cases hz
   ·rw [Ag (λz=>by rw [z,ed] at q;cases q)];exact q
   ·rw [Ag (λz=>by rw [z,ed] at q;cases q)];exact q
def Iu (K:PySem.W.Frag)(P:Addr)(a b:Str):Sp:=λvs H Q _=>∃x C tp v u,vs=[.ref x,v,u]/\H x=some (exO x C tp)/\XAt K C P a/\XAt K C P b/\∀dx,H dx=none->dx≠x->Q .non (upd (upd H dx (.xd [(a,v),(b,u)])) x (Fg x C tp dx))
section
variable {X:Cx}{k:Nat}{f C P:Addr}{fd:FuncData}{pins:List (Addr×Obj)}{σ:St}{H:Hp}{s:Shared}{Q:Value->Shared->Prop}{us:List Value}{vs:List V}{a b:Str}{ps:List Str}{v v2:V}{u u2:Value}
theorem P0 (M:XMk X.K C P f)(ha:XAt X.K C P a)(hab:XAt X.K C P b)(F:FnOk X.prog X.w X.K X.mg X.base CX0 k f fd ps (Iu X.K P a b))(hr:Room (k + 1) X.A)(hb:Binds X.K fd ps [])(I:Inv X pins σ H s)(r:RelV v u)(rr:RelV v2 u2)
 (h:∀s' x dx,Inv X pins σ (upd (upd H dx (.xd [(a,v),(b,v2)])) x (.ext (F2.XIs qx x C (some dx)))) s'->H x=none->H dx=none->dx≠x->s.heap.objs.size<=x->XRec true s'.heap x C (some dx) .none->Q (.ref x) s'):wpAny (model X.prog X.w) X.A (call (.ref C) [u,u2]) Q X.xe s:=by
 obtain ⟨nm,q,N,bs,sn,sub,ab,col,dd,k0,k1,k2,k3,k5,hC,hN⟩:=M.cl.obj I.kIn;have hni:s.heap.nsMap N "__init__" = some (.ref f):=by
  obtain ⟨cd,c1,c2⟩:=M.init;refine Hi I.kIn hN ?_;unfold clsIn at c1
  split at c1
  ·next l=>
   cases c1
   have z:=I.kIn _ _ l;rw [hC] at z
   cases z
   exact c2
  ·cases c1
 have I1:Inv X pins σ (upd H (s.heap.objs.size + 1) (exO (s.heap.objs.size + 1) C s.heap.objs.size)) { s with heap:=DV s.heap C [u,u2] }:=by
  refine I.laid (t':=s.toks) (λb o e=>uc2 _ (uc2 _ e)) (un0 _) (MU ?_);show ((s.heap.push _).push _).get? _=_
  heap_get
 have hx0:=I.hok.fresh (un0 s.heap.objs.size);have r2:Vals [V.ref (s.heap.objs.size + 1),v,v2] [Value.ref (s.heap.objs.size + 1),u,u2]:=.cons rfl (.cons r (.cons rr .nil));have hsp:Iu X.K P a b [V.ref (s.heap.objs.size + 1),v,v2] (upd H (s.heap.objs.size + 1) (exO (s.heap.objs.size + 1) C s.heap.objs.size))
  (λw' H'=>w' = .non/\∃dx,H dx=none/\dx≠s.heap.objs.size + 1/\H'=upd (upd H dx (.xd [(a,v),(b,v2)])) (s.heap.objs.size + 1) (Fg (s.heap.objs.size + 1) C s.heap.objs.size dx)) E0:=by
  refine ⟨_,C,s.heap.objs.size,v,v2,rfl,Aj,ha,hab,λdx h1 h2=>⟨rfl,dx,by rw [Ag h2] at h1;exact h1,h2,?_⟩⟩
  funext b
  by_cases e1:b=s.heap.objs.size + 1
  ·subst e1;rw [Aj,Aj]
  ·by_cases e2:b=dx
   ·subst e2;rw [Ag e1,Ag e1,Aj,Aj]
   ·rw [Ag e1,Ag e1,Ag e2,Ag e2,Ag e1]
 have hl:([Value.ref (s.heap.objs.size + 1),u,u2]++[]).length=ps.length:=by
  have e:=F.len _ _ _ _ hsp;simpa using e
 obtain ⟨hh,g,d,t,os⟩:=s;refine wpAny_call (Jv ua5 (M.cl.tail I.kIn) hC hN hni ((bind_fn I.kIn _ (beq_iff_eq.mp M.fn))) (by show 2<=sizeLine;decide) ?_);refine codeAny_mono (F.run _ X.stack _ _ ⟨[Value.ref (hh.objs.size + 1),u,u2],[]⟩ [Value.ref (hh.objs.size + 1),u,u2] _ _ E0 (hr.make C [u,u2] []) (I1.env0.make C [u,u2] []) (by have:=hb _ [Value.ref (hh.objs.size + 1),u,u2] I1.kIn hl;simpa using this) r2 hsp) λr s' hq'=>?_
 cases r with
 | error e=>exact hq'.elim
 | ok fl=>
   cases fl with
   | ret w'=>
     obtain ⟨v',H',I3,rv,rfl,dx,d1,d2,rfl⟩:=I1.after hq';refine ⟨rv,?_⟩;have hx:=(I3.hok (hh.objs.size + 1) _ Aj).1;have hx:s'.heap.get? (hh.objs.size + 1)=some { excObj C hh.objs.size with dict:=some dx }:=hx;have xr:XRec true s'.heap (hh.objs.size + 1) C (some dx) .none:=⟨_,_,hx,rfl,rfl,rfl,rfl,λ_=>⟨rfl,by show 4 < 6;decide⟩⟩;have I4:=I3.write (x:=hh.objs.size + 1) (e:=hh.objs.size + 1) (o:=.ext (F2.XIs qx (hh.objs.size + 1) C (some dx))) (h':=s'.heap) (t':=s'.toks) (by rw [Aj];trivial) (.inl rfl) (λ_ _ _ z=>z) ⟨_,hx⟩ (HR xr.to.is);rw [Lq] at I4;exact h s' (hh.objs.size + 1) dx I4 hx0 d1 d2 (un0 _) xr
   | next=>exact False.elim hq'
   | brk=>exact False.elim hq'
   | cont=>exact False.elim hq'
end
section
variable {X:Cx}{k:Nat}{f C P:Addr}{fd:FuncData}{a b:Str}{ps:List Str}{n:Str}{p pos:Pos}{e e':Expr}
theorem YW {t:TA}(M:XMk X.K C P f)(ha:XAt X.K C P a)(hab:XAt X.K C P b)(F:FnOk X.prog X.w X.K X.mg X.base CX0 k f fd ps (Iu X.K P a b))(hr:Room (k + 1) X.A)(hb:Binds X.K fd ps [])(hg:Gl X n)(hm:X.mg n=some (.ref C))(hA:PA X [e,e'] t)
 (hdb:(n == ("__debug__" : Str))=false:=by decide) (h1:starEach [e,e'] X.env=(false,eval e X.env) :: starEach [e'] X.env:=by rfl) (hpl:(backTo pos (starEach [e'] X.env)).any (·.1)=false:=by rfl) :
 PM qx X (.Call (.Name n p) [e,e'] [] pos) C (λσ H Q=>t σ H λvs H1=>∃v u,vs=[v,u]/\∀x dx,H1 x=none->H1 dx=none->dx≠x->Q x (some dx) (upd (upd H1 dx (.xd [(a,v),(b,u)])) x (.ext (F2.XIs qx x C (some dx))))):=by
 intro pins s σ H Q I h;refine wpAny_Call_Name_kw (Cu I hg hm ?_ hdb);refine uf3 (h₀:=X.base) I.ok.mod.kin M.kp (thn (hA pos pins s σ H _ I h) λus s1 z9=>?_) h1 hpl;obtain ⟨vs,H1,I1,r,v,u,ev,q⟩:=z9;refine ⟨I1.kIn,?_⟩;subst ev
 cases r with
 | cons r0 rs=>
   cases rs with
   | cons r1 rs=>
     cases rs
     exact P0 M ha hab F hr hb I1 r0 r1 λs' x dx I' hx hdx ne nx rc=>⟨x,some dx,_,rfl,I',Aj,um0 I1.sz nx,rc,q x dx hx hdx ne⟩
end
end L2
namespace F2
open PySem L2 PySem.Spec PySem.W
variable {qx:Bool}
section
variable {X:Cx}{e e':Expr}{pos p pos2:Pos}{E:L2.St->XK}{P:Addr}{ca:Str->Addr}
def XN2 (prog:Program)(w:World)(K:PySem.W.Frag)(mg:Str->Option Value)(base:Heap)(C P:Addr):Prop:=
 ∃(f:Addr) (fd:FuncData) (ps:List Str),XMk K C P f/\XAt K C P "at"/\XAt K C P "side"/\Binds K fd ps []/\FnOk prog w K mg base CX0 1 f fd ps (Iu K P "at" "side")
def DL (n:Str)(f:M (List D)):M Out:=bnd f λds=>match ds with
 | [d,d']=>ret (.ret (.exc n [d,d']))
 | _=>fail
theorem QM {f:M (List D)}(x:XM X.K X.mg P ca)(xn:XN2 X.prog X.w X.K X.mg X.base (ca "Broken") P)(hr:L2.Room 2 X.A)(hc:X.calm=true)(hx:FE qx X E)(hg:Gl X "Broken")(ha:PA X [e,e'] (RA X.K f))
 (h1:AY e=false:=by rfl) (h2:A4 [e']=true:=by rfl):PS X (.Raise (some (.Call (.Name "Broken" p) [e,e'] [] pos)) none pos2) (RSX X.K E (DL "Broken" f)):=by
 obtain ⟨fa,fd,ps,M,A,A2,B,F⟩:=xn;have hn:("Broken" : Str)∈Bn:=by decide
 refine Bk (JD hc M.cl hx (YW M A A2 F hr B hg (x.ms _ hn) ha (by decide) (A8 h1) (AZ h2).1)) λD σ H z9=>?_;obtain ⟨Oo,c,t,fi,o,t',eq,k⟩:=z9;obtain ⟨ds,t1,e1,eq⟩:=Ae eq;refine ⟨Oo,c,t,fi,ds,t1,e1,λvs H1 c1 f1 s1 rvs=>?_⟩;rcases ds with _ | ⟨d,_ | ⟨d',_ | ⟨_,_⟩⟩⟩
 ·cases eq
 ·cases eq
 ·cases rvs with
  | @cons v0 _ _ _ rv r=>
  cases r with
  | @cons v1 _ _ _ rv1 r=>
  cases r
  cases eq
  refine ⟨_,_,rfl,λy dx hy hdx ne=>?_⟩;have f2:=f1.laid (o:=.xd [("at",v0),("side",v1)]) hdx;have hy2:upd H1 dx (.xd [("at",v0),("side",v1)]) y=none:=by rw [Ag (Ne.symm ne)];exact hy
  have f3:=f2.laid (o:=.ext (XIs qx y (ca "Broken") (some dx))) hy2;have ex:=(f1.stp_laid (o:=.xd [("at",v0),("side",v1)]) hdx).ext.trans (f2.stp_laid (o:=.ext (XIs qx y (ca "Broken") (some dx))) hy2).ext;have s3:=s1.trans ((f1.stp_laid (o:=.xd [("at",v0),("side",v1)]) hdx).trans (f2.stp_laid (o:=.ext (XIs qx y (ca "Broken") (some dx))) hy2));refine k σ _ c1 f3 s3 (.ref y) (.exc (x.ns _ hn) Aj (f2.s.free hy2) ?_ (.cons (rv.mono ex) (.cons (rv1.mono ex) .nil))) y (some dx) rfl;exact ⟨by rw [Ag ne,Aj];rfl,f1.s.free hdx⟩
 ·cases eq
end
def XF2 (K:PySem.W.Frag)(C P:Addr)(qual:Str)(st:Stmt):Prop:=∃(f:Addr) (fd:FuncData),XMk K C P f/\XAt K C P "at"/\XAt K C P "side"/\Binds K fd ["self", "at", "side"] []/\Fun K "__init__" qual st f fd
theorem ZU {K:PySem.W.Frag}{C P f:Addr}{qual:Str}{st:Stmt}{od an:Option Addr}{sl:Array (Option Value)}{oc kV dc pm cd ct:Value}(o:XOne K P C)(i:GB K C f=true)(hf:isFn K (.ref f)=true)(hs:findIn K (.ref C) "__setattr__" = some (some (.builtin "object.__setattr__")))
 (l:K.lookup f=some ⟨oc,od,.func (PySem.W.fnOf "__init__" qual (CU st) (Be st) (Al st) .none kV dc pm an cd ct),sl⟩) (c:codeIn K cd qual=true) (k:keepIn K (.ref f)=true)
 (hb:∀(kV doc pm:Value) (an:Option Addr) (cdv ct:Value) (us:List Value),us.length=3->bindArgs (PySem.W.fnOf "__init__" qual (CU st) (Be st) (Al st) .none kV doc pm an cdv ct) ⟨us,[]⟩=pure ((["self", "at", "side"]:List Str).zip us)):XF2 K C P qual st:=by
 refine ⟨f,_,⟨o.cl,?_,hf,o.kp⟩,⟨o.cl,hs,o.na⟩,⟨o.cl,hs,o.nd⟩,(Fa (st:=st) l c k).binds (ps:=["self", "at", "side"]) hb,Fa (st:=st) l c k⟩;unfold GB at i
 split at i
 ·next cd' e=>exact ⟨cd',e,beq_iff_eq.mp i⟩
 ·cases i
theorem Tx {prog:Program}{w:World}{K:PySem.W.Frag}{mg:Str->Option Value}{base:Heap}{C P:Addr}{qual:Str}{st:Stmt}{p1 p2 p3 p4 p5 p6 p7 p8:Pos}(hbd:Be st=[.Assign [.Attribute (.Name "self" p1) "at" p2] (.Name "at" p3) p4,.Assign [.Attribute (.Name "self" p5) "side" p6] (.Name "side" p7) p8])(S:FnScope ["self", "at", "side"] ["self", "at", "side"] (Al st))
 (s1:(Al st).names.lookup ("self" : Str)=some NameKind.local) (s2:(Al st).names.lookup ("at" : Str)=some NameKind.local) (s3:(Al st).names.lookup ("side" : Str)=some NameKind.local) (x:XF2 K C P qual st):XN2 prog w K mg base C P:=by
 obtain ⟨f,fd,M,A,A2,B,F⟩:=x;refine ⟨f,fd,_,M,A,A2,B,F.ok (k:=0) S (λvs H Q E h=>?_) λcdv A' outer s H vs Q E hr h=>?_⟩
 ·obtain ⟨y,C',tp,v,u,rfl,_⟩:=h;rfl
 ·rw [hbd];refine ⟨_,JE (PR (P:=P) (CB (i:=0) rfl (.inl s1) (by decide) (by decide)) (CB (i:=1) rfl (.inl s2) (by decide) (by decide)) rfl) (GI (RK (P:=P) (f1:="at") (by decide) (CB (i:=0) rfl (.inl s1) (by decide) (by decide)) (CB (i:=2) rfl (.inl s3) (by decide) (by decide)) rfl)),?_⟩;obtain ⟨y,C',tp,v,u,rfl,hy,ha,ha2,k⟩:=h;refine ⟨v,rfl,.ref y,rfl,y,C',tp,rfl,hy,ha,λdx h1 h2=>⟨u,rfl,.ref y,rfl,y,C',tp,dx,v,rfl,Aj,by rw [Ag h2,Aj],h2,ha2,?_⟩⟩;have z:=k dx h1 h2;have e:upd (upd (upd H dx (.xd [("at",v)])) y (Fg y C' tp dx)) dx (.xd [("at",v),("side",u)])=upd (upd H dx (.xd [("at",v),("side",u)])) y (Fg y C' tp dx):=by
   funext b
   by_cases e1:b=dx
   ·subst e1;rw [Aj,Ag h2,Aj]
   ·by_cases e2:b=y
    ·subst e2;rw [Ag e1,Aj,Aj]
    ·rw [Ag e1,Ag e2,Ag e1,Ag e2,Ag e1]
  rw [e];exact z
end F2
namespace L2
open PySem PySem.Spec PyProof.Rows PySem.W
end L2
namespace F2
open PySem L2 PySem.Spec
section
variable {X:Cx}{a b:Expr}{pos:Pos}
end
end F2
namespace L2
open PySem PySem.Spec PyProof.Rows PySem.W
theorem LY:entryFor table "proto.unchain" = some Builtin.«proto.unchain»:=entryFor_of_tree (by kernel_rfl)
section
variable {prog:Program}{w:World}{A:Around}{E:Value->Shared->Prop}{env:Env}{K:PySem.W.Frag}{C:Addr}{bm:List Value}{s:Shared}
theorem P9 {x y:Addr}{ox:Obj}{vx:Array Value}{Q:Value->Shared->Prop}(gx:s.heap.get? x=some ox)(dx:ox.data = .fields vx)(x2:vx[2]?=some .none)(h:Q .none s) :
 wpAny (model prog w) A (runValue (.builtin "proto.unchain" ⟨[.ref y,.ref x,.ref x,.bool false],[]⟩)) Q E s:=by
 refine runValue_entry LY ?_;unfold Builtin.«proto.unchain»;refine un2 (un1 gx dx x2 ?_);rw [if_pos (by decide)];refine un2 (un3 (un3 ⟨_,rfl,h⟩))
theorem Uk {t c0:Sem Value}{x:Addr}{Q:Flow->Shared->Prop}(c:XCl K C bm)(hh:A.handled=some (.ref x))
 (hc0:∀(s:Shared) (Q:Value->Shared->Prop) (E:Value->Shared->Prop),Q Value.none s->wpAny (model prog w) A c0 Q E s)
 (h:wpAny (model prog w) A t (λv s1=>∃y dy ox vx,v = .ref y/\y≠x/\K.In s1.heap/\XRec true s1.heap y C dy .none/\s1.heap.get? x=some ox/\ox.data = .fields vx/\vx[2]?=some .none/\
   ∀h',XRec false h' y C dy .none->(∀b,b≠y->h'.get? b=s1.heap.get? b)->E v { s1 with heap:=h' }) E s):wpAny (model prog w) A (raiseStmt env (some t) (some c0)) Q E s:=by
 unfold raiseStmt;refine un2 (un4 h (λv s1 q=>?_) λ_ _ z=>z);obtain ⟨y,dy,ox,vx,rfl,ne,X,⟨o,vs,hx,hc,hd,hdt,h1,h2⟩,gx,dx,x2,hE⟩:=q;obtain ⟨h2,h4⟩:=h2 rfl;obtain ⟨nm,q,N,bs,sn,sub,ab,col,dd,k0,k1,k2,k3,k5,hC,_⟩:=c.obj X;have hb:=c.has X;obtain ⟨hp,g,d,tk,os⟩:=s1;refine un2 (ul7 (hc0 _ _ _ (un2 (un3 ?_))))
 repeat (first
  | (with_reducible refine wpAny_loadPart_at hx ?_;rw [hc])
  | with_reducible refine wpAny_loadPart_at hC ?_
  | (with_reducible refine wpAny_isSubtype_exc hC ?_;rw [hb])
  | with_reducible refine un1 hx hdt h1 ?_
  | wp_step)
 have nC:C≠y:=by
  rintro rfl;rw [hC] at hx
  cases hx
  cases hdt
 rw [hdt];show wpAny _ _ (if 3 < vs.size then _ else _) _ _ _;rw [if_pos (Nat.lt_of_succ_lt h4)];refine wpAny_update hx ?_;obtain ⟨m1,m2,m3⟩:=FW hdt (·.setIfInBounds 3 Value.none);have hx1:=ud6 (Obj.mapFields (·.setIfInBounds 3 Value.none)) hx (Obj.isFreed_of_fields m1);refine un2 (wpAny_setField hx1 m1 (by rw [ub4];exact h4) ?_);obtain ⟨n1,n2,n3⟩:=FW m1 (·.setIfInBounds 4 (Value.bool true));have hx2:=ud6 (Obj.mapFields (·.setIfInBounds 4 (Value.bool true))) hx1 (Obj.isFreed_of_fields n1);have oth:∀b,b≠y->((hp.update y (Obj.mapFields (·.setIfInBounds 3 Value.none))).update y (Obj.mapFields (·.setIfInBounds 4 (Value.bool true)))).get? b=hp.get? b:=λb z=>by
  rw [uc5 _ _ (Ne.symm z),uc5 _ _ (Ne.symm z)]
 have hC2:=(oth C nC).trans hC;have gx2:=(oth x (Ne.symm ne)).trans gx;have hc2:=n2.trans (m2.trans hc);have hd2:=n3.trans (m3.trans hd);have t1:((vs.setIfInBounds 3 Value.none).setIfInBounds 4 (Value.bool true))[1]?=some .none:=by
  rw [ua1 (by decide),ua1 (by decide)];exact h1
 have t4:2 < ((vs.setIfInBounds 3 Value.none).setIfInBounds 4 (Value.bool true)).size:=by
  rw [ub4,ub4];lia
 show wpAny (model prog w) A _ Q E ⟨(hp.update y (Obj.mapFields (·.setIfInBounds 3 Value.none))).update y (Obj.mapFields (·.setIfInBounds 4 (Value.bool true))),g,d,tk,os⟩;generalize (hp.update y (Obj.mapFields (·.setIfInBounds 3 Value.none))).update y (Obj.mapFields (·.setIfInBounds 4 (Value.bool true)))=h3 at hx2 oth hC2 gx2;generalize ((o.mapFields (·.setIfInBounds 3 Value.none)).mapFields (·.setIfInBounds 4 (Value.bool true)))=o2 at hx2 hc2 hd2 n1;generalize ((vs.setIfInBounds 3 Value.none).setIfInBounds 4 (Value.bool true))=vs2 at n1 t1 t4;clear hx1 m1 m2 m3 n2 n3
 repeat (first
  | (with_reducible refine wpAny_loadPart_at hx2 ?_;rw [hc2])
  | with_reducible refine wpAny_loadPart_at hC2 ?_
  | (with_reducible refine wpAny_isSubtype_exc hC2 ?_;rw [hb])
  | with_reducible refine un1 hx2 n1 t1 ?_
  | wp_step)
 unfold raiseNew;refine un2 (wpAny_handled ?_);rw [hh];dsimp only;rw [if_pos (by simpa using Ne.symm ne)];refine un2 (ul7 (P9 gx2 dx x2 (un2 ?_)));obtain ⟨z1,z2,z3⟩:=FW n1 (·.setIfInBounds 2 (Value.ref x));refine wpAny_setField hx2 n1 t4 ?_;have hx3:=ud6 (Obj.mapFields (·.setIfInBounds 2 (Value.ref x))) hx2 (Obj.isFreed_of_fields z1);refine wpAny_throw (hE _ ⟨_,_,hx3,z2.trans hc2,z3.trans hd2,z1,?_,λz=>by cases z⟩ λb hb'=>?_)
 ·rw [ua1 (by decide)];exact t1
 ·rw [uc5 _ _ (Ne.symm hb')];exact oth b hb'
end
section
variable {X:Cx}{pins:List (Addr×Obj)}{σ:St}{H:Hp}{s s':Shared}{qx:Bool}{x C:Addr}{dx T:Option Addr}{fl:Value}
theorem XOn.keep (I:Inv X pins σ H s)(o:XOn qx X pins H s x C dx T fl)(k:∀b,b≠X.env.locals->(∀z c,X.env.cells.lookup z=some c->c≠b)->s'.heap.get? b=s.heap.get? b):XOn qx X pins H s' x C dx T fl:=by
 obtain ⟨ox,vs,gx,cx,dxe,dtx,tbx,xc⟩:=id o.rc;have nl:x≠X.env.locals:=λz=>by have:=o.hx;rw [z,I.free] at this;cases this
 have nc:∀z c,X.env.cells.lookup z=some c->c≠x:=λz c e w=>by
  have:=o.hx;rw [<-w,I.freeC z c e] at this
  cases this
 refine ⟨o.hx,o.nx,⟨ox,vs,(k x nl nc).trans gx,cx,dxe,dtx,tbx,xc⟩,λa e=>?_,o.fo⟩;obtain ⟨z1,z2,z3,⟨y1,y2,y3⟩,ot,ts,gT,dT,t3⟩:=o.tb a e;exact ⟨z1,z2,z3,⟨y1,y2,y3⟩,ot,ts,(k a y1 y2).trans gT,dT,t3⟩
theorem Sn {M:Model}{A:Around}{E:Value->Shared->Prop}{i:Nat}{n:Str}{pos:Pos}{Q:Unit->Shared->Prop}(I:Inv X pins σ H s)(hN:X.N.Nodup)(hi:X.N[i]?=some n)(hk:X.env.scope.names.lookup n=some .local)
 (h:∀s',Inv X pins (σ.set i none) H s'->(∀b,b≠X.env.locals->(∀z c,X.env.cells.lookup z=some c->c≠b)->s'.heap.get? b=s.heap.get? b)->Q () s'):wpAny M A (do bindName X.env n .none;unbindBehindTheSuite X.env n pos) Q E s:=by
 refine un2 (wpAny_bindName (LO (v:=.non) I hN hi (.inl hk) rfl (λs1 I1 sb1=>?_) (.inr hk)));obtain ⟨a1,sb1,ha1⟩:=sb1;unfold unbindBehindTheSuite;have hiσ:i < σ.length:=by rw [I.len];exact (ua8.mp hi).1
 obtain ⟨m,hn,hl⟩:=id I1.loc;have hcls:(X.env.scope.kind == .class || (X.env.scope.kind == .module && X.env.locals != X.env.globals))=false:=by rw [I.ok.kind];rfl
 obtain ⟨u0,_,lk⟩:=hl i n .non hi (by rw [uc1 hiσ]) (.inl hk);have hv:m n=some u0:=by
  rcases lk with ⟨_,e⟩ | ⟨k,_⟩
  ·exact e
  ·have k:X.env.scope.names.lookup n=some .cell\/X.env.scope.names.lookup n=some .free:=k;rw [hk] at k;rcases k with k | k <;> cases k
 refine wpAny_onRaise (wpAny_unbindName_local hk hn hv hcls λh' u hn' hs=>?_);have cne:=I1.cne;have tracked:HOk X.prog X.w H h':=λb ob e=>by
  refine (I1.hok b ob e).stay (λc w' hc q=>(hs.2 c ?_).trans q) (λ_ q=>q) λ_ _ q=>q;rintro rfl;rcases hc with rfl | hc
  ·rw [I1.free] at e;cases e
  ·rw [I1.free] at hc;cases hc
 have far:∀b o,X.s₀.heap.get? b=some o->b≠X.env.locals:=λb o e=>ul9 (ue9 (ul8 e) I1.ok.above);refine h _ ⟨I1.ok,I1.os,I1.bare,⟨λb o e n hb hx=>?_,λb o e n hb hx=>?_,I1.base.free,λb o e hx=>?_,I1.base.tups,I1.base.frzs,I1.base.tbls⟩,⟨_,hn',λj y v' e1 e2 e3=>?_⟩,λy c e=>?_,I1.free,I1.freeC,λp hp=>?_,tracked,by simpa using I.len⟩ λb hb hc=>?_
 ·exact (hs.2 b (far b o e)).trans (I1.base.keep b o e n hb hx)
 ·obtain ⟨sl,e1⟩:=I1.base.slot b o e n hb hx;exact ⟨sl,(hs.2 b (far b o e)).trans e1⟩
 ·obtain ⟨o',e1⟩:=I1.base.there b o e hx;exact ⟨o',(hs.2 b (far b o e)).trans e1⟩
 ·by_cases hj:j=i
  ·subst hj;rw [uc1 hiσ] at e2
   cases e2
  ·rw [ud9 (Ne.symm hj)] at e2;obtain ⟨u',r',q⟩:=hl j y v' e1 (by rw [ud9 (Ne.symm hj)];exact e2) e3;refine ⟨u',r',?_⟩;rcases q with ⟨k,e⟩ | ⟨k,c,e,z⟩
   ·refine .inl ⟨k,?_⟩;have:y≠n:=λe=>hj (Hh hN e1 (e ▸ hi));simp [this,e]
   ·exact .inr ⟨k,c,e,z.sameBut hs (cne y c e)⟩
 ·obtain ⟨w',z⟩:=I1.cell y c e;exact ⟨w',z.sameBut hs (cne y c e)⟩
 ·obtain ⟨e,n,ne,nf,d⟩:=I1.pin p hp;exact ⟨(hs.2 p.1 ne).trans e,n,ne,nf,d⟩
 ·rw [hs.2 b hb];refine sb1.2 b ?_;rintro rfl;rcases ha1 with z | z
  ·exact hb z
  ·exact hc _ _ z rfl
end
def ID (X:Cx)(E:St->XK):Prop:=∀(pins:List (Addr×Obj)) (σ:St) (H:Hp) (s:Shared) (x C:Addr) (dx T:Option Addr) (fl:Value),Inv X pins σ H s->XOn false X pins H s x C dx T fl->E σ (.ref x) dx H->X.xe (.ref x) s
theorem XE.raisesT {X:Cx}{E:St->XK}:ID (X.wish (XE false X E)) E:=λpins σ H s x C dx T fl I o q=>⟨pins,σ,H,x,C,dx,T,fl,rfl,I.unwish,⟨o.hx,o.nx,o.rc,o.tb,o.fo⟩,q⟩
section
variable {X:Cx}{n v:Str}{C' C2:Addr}{bm' bm2:List Value}{p pos p2:Pos}{e cN:Expr}{rest:List ExceptHandler}{t:St->Hp->(Addr->Option Addr->Hp->Prop)->Prop}{tr:Addr->Addr->Option Addr->TS}{i:Nat}{E:St->XK}
def cK (K:PySem.W.Frag)(C':Addr)(i:Nat)(t:St->Hp->(Addr->Option Addr->Hp->Prop)->Prop)(E:St->XK)(tr:Addr->Addr->Option Addr->TS):Addr->Addr->Option Addr->TS:=λx C dx D σ H=>∃bm,XCl K C bm/\
 if (Value.ref C :: bm).contains (.ref C')=true then t (σ.set i (some (.ref x))) H (λy dy H1=>y≠x/\H1 x=some (.ext (F2.XIs true x C dx))/\E ((σ.set i (some (.ref x))).set i none) (.ref y) dy H1) else tr x C dx D σ H
theorem aA (h1:X.stack=X.env :: X.outer)(h2:X.env.frame=some X.env.locals)(hg:Gl X n)(hm:X.mg n=some (.ref C'))(c':XCl X.K C' bm')(hN:X.N.Nodup)(hi:X.N[i]?=some v)(hl:X.env.scope.names.lookup v=some .local)
 (c2:XCl X.K C2 bm2) (hp:∀x,PM false (X.mark x) e C2 t) (hx:ID X E)
 (hz:∀(A:Around) (s:Shared) (Q:Value->Shared->Prop) (E:Value->Shared->Prop),Q Value.none s->wpAny (model X.prog X.w) A (eval cN X.env) Q E s)
 (hr:PH true X rest tr) (hdb:(n == ("__debug__" : Str))=false:=by decide):PH true X (.ExceptHandler (some (.Name n p)) (some v) [.Raise (some e) (some cN) p2] pos :: rest) (cK X.K C' i t E tr):=by
 intro pins s σ H x C dx T D I o ⟨bm,c,q⟩;have Im:=I.mark x;refine wpAny_handleBy_cons (codeAny_handlers_test (Cu Im hg hm ?_ hdb)) (by intro z;cases z)
 refine Jw c c' I.kIn o.rc ?_
 cases hc:(Value.ref C :: bm).contains (.ref C') with
 | false=>
   rw [hc,if_neg (by decide)] at q;exact hr pins s σ H x C dx T D I o q
 | true=>
   rw [hc,if_pos rfl] at q;refine codeAny_handlers_suite_as ?_;refine Ep none I o (.inl rfl) λh1' I1 o1=>?_;refine F6 (v:=.ref x) I1 hN hi (.inl hl) rfl (λs2 I2=>?_) (.inr hl);refine wpAny_execs_cons ?_;rw [arm_exec_Raise];refine un2 (wpAny_standAt ?_);refine Uk (x:=x) c2 rfl (λs Q E h=>un2 (hz _ _ _ _ (un2 (wpAny_standAt (un3 h))))) ?_;refine un2 (un4 (hp x pins s2 _ H _ (I2.mark x) q) (λw' s3 z9=>?_) λ_ _ z=>z.elim);obtain ⟨y,dy,H1,e1,I3,hy,ny,r,ne,hxx,q1⟩:=z9;subst e1;have J3:=I3.unmark I.ok;obtain ⟨ox,vx,gx,_,_,dtx,xc⟩:=(I3.hok x _ hxx).1;refine un2 (wpAny_standAt (un3 ⟨y,dy,ox,vx,rfl,ne,I3.kIn,r,gx,dtx,(xc rfl).1,λh' r' kp=>?_⟩));obtain ⟨o1',o2',o3'⟩:=J3.newT (um8 _);have J4:=J3.left hy (J3.hok.fresh (um8 _)) ny (um0 J3.sz (um8 _)) (ch:=[y]) (h':=h') ⟨λb u hb _ e=>(kp b (by simpa using hb)).trans e,λb u hb e=>⟨u.slots,(kp b (by simpa using hb)).trans e⟩⟩ (λb hb=>.inl (by simpa using hb)) r'.is o2' o1' o3';have o4:XOn false X pins H1 { s3 with heap:=h' } y C2 dy none .none:=⟨hy,ny,r',(λa e=>by cases e),.inl rfl⟩;refine FY I3.ok.frames J4 h1 h2 o4 λh5 a J5 o5=>?_;refine Sn J5 hN hi hl λs6 J6 k6=>?_;have o6:=o5.keep J5 k6;obtain ⟨oy,vy,gy,_,_,dty,tby,_⟩:=id o6.rc;unfold PySem.passOn;refine un2 (un1 gy dty tby ?_);rw [if_neg (show ¬((Value.ref a == Value.none)=true) from by intro z;cases z)]
   rw [h2];refine un2 (Ep (some X.env.locals) J6 o6 (.inr rfl) λh7 J7 o7=>wpAny_throw ?_);refine FY I3.ok.frames J7 h1 h2 o7 λh8 a8 J8 o8=>?_;obtain ⟨oz,vz,gz,_,_,dtz,tbz,_⟩:=id o8.rc;show cameBackBy _ _ _ _ _ _;unfold cameBackBy;refine un2 (un1 gz dtz tbz ?_);rw [if_neg (show ¬((Value.ref a8 == Value.none)=true) from by intro z;cases z)]
   rw [h2];exact Ep (some X.env.locals) J8 o8 (.inr rfl) λh9 J9 o9=>hx pins _ H1 _ y C2 dy _ _ J9 o9 q1
end
structure FnOkH (P:Program)(w:World)(K:PySem.W.Frag)(mg:Str->Option Value)(base:Heap)(CX:CXT)(k:Nat)(f:Addr)(fd:FuncData)(ps:List Str)(sp:Sp):Prop where
 len:∀vs H Q E,sp vs H Q E->vs.length=ps.length
 run:∀(z:Addr) (A:Around) (outer:List Env) (s:Shared) (H:Hp) (args:Args) (us:List Value) (vs:List V) (Q:VK) (E:XK),Room k A->Env0 P w K mg base A outer s H->BindsTo s fd args (ps.zip us)->Vals vs us->sp vs H Q E->
  codeAny (model P w) (A.mark (some (.ref z))) (.call (.ref f) args) (CR CX outer P w H s Q E) s
theorem X8 {CX:CXT}{P:Program}{w:World}{K:PySem.W.Frag}{mg:Str->Option Value}{base:Heap}{k:Nat}{f:Addr}{name qual:Str}{params:Arguments}{body:List Stmt}{scope:Scope}{dV kV doc pm cdv ct oc:Value}{an od:Option Addr}
 {osl:Array (Option Value)} {N ps:List Str} {sp:Sp} (lk:K.lookup f=some ⟨oc,od,.func (PySem.W.fnOf name qual params body scope dV kV doc pm an cdv ct),osl⟩) (hcd:PySem.W.codeIn K cdv qual=true) (S:FnScope N ps scope)
 (len:∀vs H Q E,sp vs H Q E->vs.length=ps.length)
 (hbody:∀(z:Addr) (A:Around) (outer:List Env) (s:Shared) (H:Hp) (vs:List V) (Q:VK) (E:XK),Room k (A.deeper (envOfC qual scope s.heap.objs.size f cdv))->sp vs H Q E->
   ∃t,PSs ((DB CX P w K mg base N qual scope f cdv A outer s H E).mark z) body t/\t { nx:=λ_ H'=>Q .non H',rt:=Q } (CQ N vs) H) :
 FnOkH P w K mg base CX (k + 1) f (PySem.W.fnOf name qual params body scope dV kV doc pm an cdv ct) ps sp:=by
 refine ⟨len,λz A outer s H args us vs Q E hr e0 hb r hsp=>?_⟩;have hl:=len _ _ _ _ hsp;have KX:K.In s.heap:=e0.mod.kin.keeps λb o e=>(e0.bs b o e).1;have lim:s.heap.NoLimit:=e0.mod.nolimit.keeps λb o e=>(e0.bs b o e).1;have hkind:∀y∈ps.zip us,scope.names.lookup y.1=some .local\/(scope.names.lookup y.1=some .cell/\((cellsFrom (s.heap.objs.size + 1) scope.names []).lookup y.1).isSome=true):=λz9 hy=>by
  obtain ⟨n,v⟩:=z9;rcases S.par n (uj0 hy).1 with q | q
  ·exact .inl q
  ·exact .inr ⟨q,uc3 _ _ _ (.inl q)⟩
 refine codeAny_call_function (A:=A.mark (some (.ref z))) hr.depth (KX _ _ lk) rfl S.co S.gen rfl (PySem.W.codeRec_of KX hcd) (hb _ _ _ _ ?_);refine wpAny_newFunctionEnv_cells S.kind hkind λenv he s1 x=>?_;subst he;refine ⟨lim.keeps x.toInCall.keep,codeAny_func ?_⟩;obtain ⟨t,ht,hq⟩:=hbody z A outer s H vs Q E (hr.deeper _) hsp;have I:Inv (DB CX P w K mg base N qual scope f cdv A outer s H E) [] (CQ N vs) H s1:=LF S hr.hd e0 hl r x;refine un4 (ht [] s1 (CQ N vs) H _ (I.mark z) hq) (λfl s' hs=>?_) λe s' hs=>hs.elim;have fin:∀{σ':St} {H':Hp} {v:V} {u:Value},Inv ((DB CX P w K mg base N qual scope f cdv A outer s H E).mark z) [] σ' H' s'->RelV v u->Q v H'->CE outer P w H s Q u s':=
  λ{σ' H' v u} J rv q=>⟨v,H',J.os,J.bare,J.base,J.hok,rv,q⟩
 cases fl with
 | ret u=>
   obtain ⟨v,σ',H',J,rv,q⟩:=hs;exact fin J rv q
 | next=>
   obtain ⟨σ',H',J,q⟩:=hs;exact fin (v:=V.non) (u:=Value.none) J rfl q
 | brk=>
   obtain ⟨_,_,_,q⟩:=hs;exact False.elim q
 | cont=>
   obtain ⟨_,_,_,q⟩:=hs;exact False.elim q
theorem Fun.okH {P:Program}{w:World}{K:PySem.W.Frag}{mg:Str->Option Value}{base:Heap}{x qual:Str}{st:Stmt}{f:Addr}{fd:FuncData}{N ps:List Str}{k:Nat}{sp:Sp}(F:Fun K x qual st f fd)(S:FnScope N ps (Al st))(len:∀vs H Q E,sp vs H Q E->vs.length=ps.length)
 (hbody:∀(cdv:Value) (z:Addr) (A:Around) (outer:List Env) (s:Shared) (H:Hp) (vs:List V) (Q:VK) (E:XK),Room k (A.deeper (envOfC qual (Al st) s.heap.objs.size f cdv))->sp vs H Q E->
   ∃t,PSs ((DB CX0 P w K mg base N qual (Al st) f cdv A outer s H E).mark z) (Be st) t/\t { nx:=λ_ H'=>Q .non H',rt:=Q } (CQ N vs) H):FnOkH P w K mg base CX0 (k + 1) f fd ps sp:=by
 obtain ⟨oc,od,kV,doc,pm,an,cdv,ct,osl,rfl,lk,hcd⟩:=F.ex;exact X8 lk hcd S len λz A outer s H vs Q E hr hsp=>hbody cdv z A outer s H vs Q E hr hsp
section
variable {qx:Bool}{X:Cx}{k:Nat}{f C P:Addr}{fd:FuncData}{pins:List (Addr×Obj)}{σ:St}{H:Hp}{s:Shared}{Q:Value->Shared->Prop}{us:List Value}{vs:List V}{a b:Str}{ps:List Str}{v v2:V}{u u2:Value}{n:Str}{p pos:Pos}{e e':Expr}
theorem NW {z:Addr}(M:XMk X.K C P f)(ha:XAt X.K C P a)(hab:XAt X.K C P b)(F:FnOkH X.prog X.w X.K X.mg X.base CX0 k f fd ps (Iu X.K P a b))(hr:Room (k + 1) X.A)(hb:Binds X.K fd ps [])(I:Inv (X.mark z) pins σ H s)(r:RelV v u)(rr:RelV v2 u2)
 (h:∀s' x dx,Inv (X.mark z) pins σ (upd (upd H dx (.xd [(a,v),(b,v2)])) x (.ext (F2.XIs qx x C (some dx)))) s'->H x=none->H dx=none->dx≠x->s.heap.objs.size<=x->XRec true s'.heap x C (some dx) .none->Q (.ref x) s'):wpAny (model X.prog X.w) (X.mark z).A (call (.ref C) [u,u2]) Q (X.mark z).xe s:=by
 obtain ⟨nm,q,N,bs,sn,sub,ab,col,dd,k0,k1,k2,k3,k5,hC,hN⟩:=M.cl.obj I.kIn;have hni:s.heap.nsMap N "__init__" = some (.ref f):=by
  obtain ⟨cd,c1,c2⟩:=M.init;refine Hi I.kIn hN ?_;unfold clsIn at c1
  split at c1
  ·next l=>
   cases c1
   have z:=I.kIn _ _ l;rw [hC] at z
   cases z
   exact c2
  ·cases c1
 have I1:Inv (X.mark z) pins σ (upd H (s.heap.objs.size + 1) (exO (s.heap.objs.size + 1) C s.heap.objs.size)) { s with heap:=DV s.heap C [u,u2] }:=by
  refine I.laid (t':=s.toks) (λb o e=>uc2 _ (uc2 _ e)) (un0 _) (MU ?_);show ((s.heap.push _).push _).get? _=_
  heap_get
 have hx0:=I.hok.fresh (un0 s.heap.objs.size);have r2:Vals [V.ref (s.heap.objs.size + 1),v,v2] [Value.ref (s.heap.objs.size + 1),u,u2]:=.cons rfl (.cons r (.cons rr .nil));have hsp:Iu X.K P a b [V.ref (s.heap.objs.size + 1),v,v2] (upd H (s.heap.objs.size + 1) (exO (s.heap.objs.size + 1) C s.heap.objs.size))
  (λw' H'=>w' = .non/\∃dx,H dx=none/\dx≠s.heap.objs.size + 1/\H'=upd (upd H dx (.xd [(a,v),(b,v2)])) (s.heap.objs.size + 1) (Fg (s.heap.objs.size + 1) C s.heap.objs.size dx)) E0:=by
  refine ⟨_,C,s.heap.objs.size,v,v2,rfl,Aj,ha,hab,λdx h1 h2=>⟨rfl,dx,by rw [Ag h2] at h1;exact h1,h2,?_⟩⟩
  funext b
  by_cases e1:b=s.heap.objs.size + 1
  ·subst e1;rw [Aj,Aj]
  ·by_cases e2:b=dx
   ·subst e2;rw [Ag e1,Ag e1,Aj,Aj]
   ·rw [Ag e1,Ag e1,Ag e2,Ag e2,Ag e1]
 have hl:([Value.ref (s.heap.objs.size + 1),u,u2]++[]).length=ps.length:=by
  have e:=F.len _ _ _ _ hsp;simpa using e
 obtain ⟨hh,g,d,t,os⟩:=s;refine wpAny_call (Jv ua5 (M.cl.tail I.kIn) hC hN hni ((bind_fn I.kIn _ (beq_iff_eq.mp M.fn))) (by show 2<=sizeLine;decide) ?_);refine codeAny_mono (F.run z _ X.stack _ _ ⟨[Value.ref (hh.objs.size + 1),u,u2],[]⟩ [Value.ref (hh.objs.size + 1),u,u2] _ _ E0 (hr.make C [u,u2] []) (Env0.make (A:=X.A) ⟨I1.env0.frames,I1.env0.mod,I1.env0.bs,I1.env0.bsz,I1.env0.funs,I1.env0.frf,I1.env0.hok,I1.env0.bare⟩ C [u,u2] []) (by have:=hb _ [Value.ref (hh.objs.size + 1),u,u2] I1.kIn hl;simpa using this) r2 hsp) λr s' hq'=>?_
 cases r with
 | error e=>exact hq'.elim
 | ok fl=>
   cases fl with
   | ret w'=>
     obtain ⟨v',H',I3,rv,rfl,dx,d1,d2,rfl⟩:=I1.after hq';refine ⟨rv,?_⟩;have hx:=(I3.hok (hh.objs.size + 1) _ Aj).1;have hx:s'.heap.get? (hh.objs.size + 1)=some { excObj C hh.objs.size with dict:=some dx }:=hx;have xr:XRec true s'.heap (hh.objs.size + 1) C (some dx) .none:=⟨_,_,hx,rfl,rfl,rfl,rfl,λ_=>⟨rfl,by show 4 < 6;decide⟩⟩;have I4:=I3.write (x:=hh.objs.size + 1) (e:=hh.objs.size + 1) (o:=.ext (F2.XIs qx (hh.objs.size + 1) C (some dx))) (h':=s'.heap) (t':=s'.toks) (by rw [Aj];trivial) (.inl rfl) (λ_ _ _ z=>z) ⟨_,hx⟩ (HR xr.to.is);rw [Lq] at I4;exact h s' (hh.objs.size + 1) dx I4 hx0 d1 d2 (un0 _) xr
   | next=>exact False.elim hq'
   | brk=>exact False.elim hq'
   | cont=>exact False.elim hq'
theorem Wy {z:Addr}{t:TA}(M:XMk X.K C P f)(ha:XAt X.K C P a)(hab:XAt X.K C P b)(F:FnOkH X.prog X.w X.K X.mg X.base CX0 k f fd ps (Iu X.K P a b))(hr:Room (k + 1) X.A)(hb:Binds X.K fd ps [])(hg:Gl (X.mark z) n)(hm:X.mg n=some (.ref C))(hA:PA (X.mark z) [e,e'] t)
 (hdb:(n == ("__debug__" : Str))=false:=by decide) (h1:starEach [e,e'] X.env=(false,eval e X.env) :: starEach [e'] X.env:=by rfl) (hpl:(backTo pos (starEach [e'] X.env)).any (·.1)=false:=by rfl) :
 PM qx (X.mark z) (.Call (.Name n p) [e,e'] [] pos) C (λσ H Q=>t σ H λvs H1=>∃v u,vs=[v,u]/\∀x dx,H1 x=none->H1 dx=none->dx≠x->Q x (some dx) (upd (upd H1 dx (.xd [(a,v),(b,u)])) x (.ext (F2.XIs qx x C (some dx))))):=by
 intro pins s σ H Q I h;refine wpAny_Call_Name_kw (Cu I hg hm ?_ hdb);refine uf3 (h₀:=X.base) I.ok.mod.kin M.kp (thn (hA pos pins s σ H _ I h) λus s1 z9=>?_) h1 hpl;obtain ⟨vs,H1,I1,r,v,u,ev,q⟩:=z9;refine ⟨I1.kIn,?_⟩;subst ev
 cases r with
 | cons r0 rs=>
   cases rs with
   | cons r1 rs=>
     cases rs
     exact NW (X:=X) (z:=z) M ha hab F hr hb I1 r0 r1 λs' x dx I' hx hdx ne nx rc=>⟨x,some dx,_,rfl,I',Aj,um0 I1.sz nx,rc,q x dx hx hdx ne⟩
end
end L2
namespace F2
open PySem L2 PySem.Spec PySem.W
section
variable {X:Cx}{pos p p2 p3 p4:Pos}{P:Addr}{ca:Str->Addr}{E:XK}{e e' cN:Expr}
def SI (prog:Program)(w:World)(K:PySem.W.Frag)(mg:Str->Option Value)(base:Heap)(C P:Addr):Prop:=
 ∃(f:Addr) (fd:FuncData) (ps:List Str),XMk K C P f/\XAt K C P "at"/\XAt K C P "side"/\Binds K fd ps []/\FnOkH prog w K mg base CX0 1 f fd ps (Iu K P "at" "side")
theorem aa {n' v:Str}{C':Addr}{bm':List Value}{i:Nat}{rest:List ExceptHandler}{f:M (List D)}{r:D->M Out}(x:XM X.K X.mg P ca)(xn:SI X.prog X.w X.K X.mg X.base (ca "Broken") P)(h1:X.stack=X.env :: X.outer)(h2:X.env.frame=some X.env.locals)(hr:L2.Room 2 X.A)
 (hg:Gl X n') (hm:X.mg n'=some (.ref C')) (c':XCl X.K C' bm') (hs:∀n∈Bn,(Value.ref (ca n) :: .ref P :: VE).contains (.ref C')=EH n n')
 (hN:X.N.Nodup) (hi:X.N[i]?=some v) (hl:X.env.scope.names.lookup v=some .local) (hx:ID X (λ_=>E)) (hgB:Gl X "Broken") (ha:∀x,PA (X.mark x) [e,e'] (RA X.K f))
 (hz:∀(A:Around) (s:Shared) (Q:Value->Shared->Prop) (E:Value->Shared->Prop),Q Value.none s->wpAny (model X.prog X.w) A (eval cN X.env) Q E s)
 (hrest:PH true X rest (RH X.K ca (μX X.K E) r)) (hdb:(n' == ("__debug__" : Str))=false:=by decide) (hs1:AY e=false:=by rfl) (hs2:A4 [e']=true:=by rfl) :
 PH true X (.ExceptHandler (some (.Name n' p)) (some v) [.Raise (some (.Call (.Name "Broken" p3) [e,e'] [] p4)) (some cN) p2] pos :: rest) (RH X.K ca (μX X.K E) (hAs n' i (DL "Broken" f) r)):=by
 obtain ⟨fa,fd,ps,M,A,A2,B,F⟩:=xn;have hnB:("Broken" : Str)∈Bn:=by decide
 intro pins s0 σ H y C dx T D I o q;refine aA h1 h2 hg hm c' hN hi hl M.cl (λz=>Wy M A A2 F hr B hgB (x.ms _ hnB) (ha z) (by decide) (A8 hs1) (AZ hs2).1) hx hz hrest hdb pins s0 σ H y C dx T D I o ?_;obtain ⟨Oo,c,t,n,ds,fi,hn,rfl,rv,o1,t',eq,k⟩:=q;refine ⟨_,x.cl n hn,?_⟩;rw [hs n hn];unfold hAs at eq;dsimp only at eq
 by_cases hb':EH n n'=true
 ·rw [if_pos hb'] at eq ⊢
  cases e1:DL "Broken" f { t with env:=t.env.set i (some (.val (.exc n ds))) } with
  | none=>rw [e1] at eq;cases eq
  | some z=>
    obtain ⟨o2,t2⟩:=z;rw [e1] at eq
    cases eq
    obtain ⟨es,t1,e2,e1⟩:=Ae e1;have hny:¬c.A y:=by cases rv with | exc _ _ hA _ _=>exact hA
    refine ⟨Oo,c,_,fi.set rv,es,t1,e2,λvs H1 c1 f1 s1 rvs=>?_⟩;rcases es with _ | ⟨d,_ | ⟨d',_ | ⟨_,_⟩⟩⟩
    ·cases e1
    ·cases e1
    ·cases rvs with
     | @cons v0 _ _ _ r0 rs=>
     cases rs with
     | @cons v1 _ _ _ r1 rs=>
     cases rs
     cases e1
     refine ⟨_,_,rfl,λu du hu hdu ne=>?_⟩;have hy1:H1 y=some (.ext (XIs true y (ca n) dx)):=s1.ext.keep _ _ o.hx hny;have nyu:y≠u:=λz=>by rw [z,hu] at hy1;cases hy1
     have nyd:y≠du:=λz=>by rw [z,hdu] at hy1;cases hy1
     have f2:=f1.laid (o:=.xd [("at",v0),("side",v1)]) hdu;have hu2:upd H1 du (.xd [("at",v0),("side",v1)]) u=none:=by rw [Ag (Ne.symm ne)];exact hu
     have f3:=f2.laid (o:=.ext (XIs false u (ca "Broken") (some du))) hu2;have ex:=(f1.stp_laid (o:=.xd [("at",v0),("side",v1)]) hdu).ext.trans (f2.stp_laid (o:=.ext (XIs false u (ca "Broken") (some du))) hu2).ext;have s3:=s1.trans ((f1.stp_laid (o:=.xd [("at",v0),("side",v1)]) hdu).trans (f2.stp_laid (o:=.ext (XIs false u (ca "Broken") (some du))) hu2));refine ⟨Ne.symm nyu,by rw [Ag nyu,Ag nyd];exact hy1,?_⟩;refine k _ _ c1 (f3.unset i) s3 (.ref u) (.exc (x.ns _ hnB) Aj (f2.s.free hu2) ?_ (.cons (r0.mono ex) (.cons (r1.mono ex) .nil))) u (some du) rfl;exact ⟨by rw [Ag ne,Aj];rfl,f1.s.free hdu⟩
    ·cases e1
 ·rw [if_neg hb'] at eq ⊢;exact ⟨Oo,c,t,n,ds,fi,hn,rfl,rv,o1,t',eq,k⟩
end
theorem QZ {prog:Program}{w:World}{K:PySem.W.Frag}{mg:Str->Option Value}{base:Heap}{C P:Addr}{qual:Str}{st:Stmt}{p1 p2 p3 p4 p5 p6 p7 p8:Pos}(hbd:Be st=[.Assign [.Attribute (.Name "self" p1) "at" p2] (.Name "at" p3) p4,.Assign [.Attribute (.Name "self" p5) "side" p6] (.Name "side" p7) p8])(S:FnScope ["self", "at", "side"] ["self", "at", "side"] (Al st))
 (s1:(Al st).names.lookup ("self" : Str)=some NameKind.local) (s2:(Al st).names.lookup ("at" : Str)=some NameKind.local) (s3:(Al st).names.lookup ("side" : Str)=some NameKind.local) (x:XF2 K C P qual st):SI prog w K mg base C P:=by
 obtain ⟨f,fd,M,A,A2,B,F⟩:=x;refine ⟨f,fd,_,M,A,A2,B,F.okH (k:=0) S (λvs H Q E h=>?_) λcdv z A' outer s H vs Q E hr h=>?_⟩
 ·obtain ⟨y,C',tp,v,u,rfl,_⟩:=h;rfl
 ·rw [hbd];refine ⟨_,JE (PR (P:=P) (CB (i:=0) rfl (.inl s1) (by decide) (by decide)) (CB (i:=1) rfl (.inl s2) (by decide) (by decide)) rfl) (GI (RK (P:=P) (f1:="at") (by decide) (CB (i:=0) rfl (.inl s1) (by decide) (by decide)) (CB (i:=2) rfl (.inl s3) (by decide) (by decide)) rfl)),?_⟩;obtain ⟨y,C',tp,v,u,rfl,hy,ha,ha2,k⟩:=h;refine ⟨v,rfl,.ref y,rfl,y,C',tp,rfl,hy,ha,λdx h1 h2=>⟨u,rfl,.ref y,rfl,y,C',tp,dx,v,rfl,Aj,by rw [Ag h2,Aj],h2,ha2,?_⟩⟩;have z:=k dx h1 h2;have e:upd (upd (upd H dx (.xd [("at",v)])) y (Fg y C' tp dx)) dx (.xd [("at",v),("side",u)])=upd (upd H dx (.xd [("at",v),("side",u)])) y (Fg y C' tp dx):=by
   funext b
   by_cases e1:b=dx
   ·subst e1;rw [Aj,Ag h2,Aj]
   ·by_cases e2:b=y
    ·subst e2;rw [Ag e1,Aj,Aj]
    ·rw [Ag e1,Ag e2,Ag e1,Ag e2,Ag e1]
  rw [e];exact z
end F2
namespace L2
open PySem PySem.Spec PyProof.Rows
section
variable {prog:Program}{w:World}{A:Around}{E:Value->Shared->Prop}{s:Shared}
variable {I:Addr}{fp wr:List Addr}{G:Array GenState->Array GenState->Prop}{n:Nat}{P:Nat->Value->Prop}{St:Nat->Shared->Prop}
def d4 (prog:Program)(w:World)(h:Heap)(no:List Addr)(k:Key)(x v:Value):Prop:=∃(p:Addr) (o:Obj) (kv:Value) (q:Nat),v = .ref p/\p∉no/\h.get? p=some o/\o.cls = .type "tuple"/\o.data = .seq #[kv,x] q/\(BL prog w).is k kv=true
end
section
variable {X:Cx}
end
end L2
namespace F2
open PySem L2 PySem.Spec PyProof.Rows
section
variable {X:Cx}{pos:Pos}{e:Expr}
end
end F2
namespace L2
open PySem PySem.Spec PyProof.Rows
def Y8 (neg:Bool):R2:=λx y H Q=>∃a kvs k,x = .str k/\y = .ref a/\H a=some (.dK kvs)/\Q (.bl (if neg then !(D1 kvs (Sum.inr k:Key)).isSome else (D1 kvs (Sum.inr k:Key)).isSome)) H
section
variable {X:Cx}
theorem YB (hu:X.A.units + 64 < cLine):OpR X (compareOp .In) (Y8 false):=by
 intro pins s σ H x y v u Q I rx ry h;obtain ⟨a,kvs,k,rfl,rfl,e,q⟩:=h
 cases ry
 exact bY (by lia) I (DGet.k (k:=(Sum.inr k:Key)) e) rx λs' I'=>⟨.bl _,H,I',rfl,q⟩
theorem Pg:Dw X (.type "dict") (λxs H Q=>∃(p:Addr) (kvs:List (Key×V)),xs=[.ref p]/\H p=some (.dK kvs)/\∀l,H l=none->Q (.ref l) (upd H l (.dK kvs))):=by
 intro pins s σ H xs us0 Q I r h;obtain ⟨p,kvs,rfl,e,q⟩:=h;obtain ⟨u,rfl,rx⟩:=Hv r
 cases rx
 obtain ⟨hz,hp,vs,rel,dd⟩:=Mb I.hok e;refine kt_call_dict hp dd (by rw [<-rel.length];exact hz) λh' hD sb=>?_;have nm:(s.heap.objs.size == sysModules)=false:=by
  have:=I.big;rw [beq_eq_false_iff_ne];exact um1 this
 have hk:∀b o,s.heap.get? b=some o->h'.get? b=some o:=λb o eb=>by
  rw [sb.2 b (ul9 (ul8 eb))];exact uc2 _ eb
 exact ⟨.ref s.heap.objs.size,_,I.laid (t':=s.toks) hk (um8 _) (MT hz nm rel hD),rfl,q _ (I.hok.fresh (um8 _))⟩
end
end L2
namespace F2
open PySem L2 PySem.Spec PyProof.Rows
def inS (neg:Bool):D->D->M D
 | .str k,.obj n=>λt=>match t.S[n]? with
   | some (.dct kvs)=>some (.bl (if neg then !(AU kvs (.inr k)).isSome else (AU kvs (.inr k)).isSome),t)
   | _=>none
 | _,_=>fail
def IF:List D->M D
 | [.obj n]=>λt=>match t.S[n]? with
   | some (.dct kvs)=>some (.obj t.S.length,{ t with S:=t.S++[.dct kvs] })
   | _=>none
 | _=>fail
section
variable {K:PySem.W.Frag}
theorem WR {neg:Bool}:Bm K (Y8 neg) (inS neg):=λ{Oo c t σ H x y dx dy r t' Q} f rx ry eq k=>by
 unfold inS at eq
 split at eq
 ·next z n=>
  cases rx
  cases ry with
  | @obj a kk hk=>
    split at eq
    ·next kvs es=>
     cases eq
     obtain ⟨us,g1,g2⟩:=f.s.obs _ a _ hk es;refine ⟨a,us,z,rfl,rfl,g1,?_⟩;rw [g2.has];exact k _ H c f .refl (.bl _)
    ·cases eq
 ·cases eq
end
section
variable {X:Cx}{pos:Pos}{e:Expr}
theorem S7 {f:M (List D)}{p:Pos}(hg:Gl X "dict")(hm:X.mg "dict" = none)(ha:PA X [e] (RA X.K f))(h1:AY e=false:=by rfl) :
 PE X (.Call (.Name "dict" p) [e] [] pos) (RE X.K (fB f IF)):=
 AG (Ip Pg hg hm (by decide +kernel) ha (by decide) (by decide) (A8 h1) rfl) λσ H Q z9=>by
  obtain ⟨Oo,c,t,fi,r,t',eq,k⟩:=z9;obtain ⟨as,t1,e1,eq⟩:=Ae eq;unfold IF at eq
  split at eq
  ·next n=>
   split at eq
   ·next kvs es=>
    cases eq
    refine ⟨Oo,c,t,fi,_,_,e1,λvs H1 c1 f1 s1 rv=>?_⟩;obtain ⟨v,rfl,rw1⟩:=E2 rv
    cases rw1 with
    | @obj a kk hk=>
    obtain ⟨us,g1,g2⟩:=f1.s.obs _ a _ hk es;refine ⟨a,us,rfl,g1,λl hnl=>?_⟩;obtain ⟨c2,f2,s2,eo⟩:=f1.newObj (o:=.dct kvs) (u:=.dK us) hnl λc' H' ex hu=>⟨_,hu,g2.mono ex⟩;exact k _ _ c2 f2 (s1.trans s2) (.obj eo)
   ·cases eq
  ·cases eq
end
end F2
namespace F2
open PySem L2 PySem.Spec PySem.W
theorem VH {P:Program}{w:World}{K:PySem.W.Frag}{mg:Str->Option Value}{base:Heap}{x qual:Str}{st:Stmt}{fa:Addr}{fd:FuncData}{N ps:List Str}{k n m:Nat}{g:M Out}(e1:ps.length=n)(e2:N.length=m)(F:Fun K x qual st fa fd)(S:FnScope N ps (Al st))
 (hb:∀(cdv:Value) (A:Around) (outer:List Env) (s:Shared) (H:Hp) (E:XK),L2.Room k (A.deeper (PyProof.Rows.envOfC qual (Al st) s.heap.objs.size fa cdv))->
   Cr (CX1 false P w) (cxX false P w K mg base N qual (Al st) fa cdv A outer s H E) (λ_=>E)->FE false (cxX false P w K mg base N qual (Al st) fa cdv A outer s H E) (λ_=>E)->
   PassesOwn (model P w) (cxX false P w K mg base N qual (Al st) fa cdv A outer s H E).A (cxX false P w K mg base N qual (Al st) fa cdv A outer s H E).env (cxX false P w K mg base N qual (Al st) fa cdv A outer s H E).xe->
   ID (cxX false P w K mg base N qual (Al st) fa cdv A outer s H E) (λ_=>E)->
   PSs (cxX false P w K mg base N qual (Al st) fa cdv A outer s H E) (Be st) (RSg K (μX K E) g)):FnOk P w K mg base (CX1 false P w) (k + 1) fa fd ps (spX K (fnOf n m g)):=
 Oc e1 e2 F S λcdv A outer s H E hr h1 h2 h3=>hb cdv A outer s H E hr h1 h2 h3 XE.raisesT
theorem VP {M:Model}{env:Env}{j:Nat}{pos:Pos}:∀(A:Around) (s:Shared) (Q:Value->Shared->Prop) (E:Value->Shared->Prop),Q Value.none s->wpAny M A (eval (.Constant .none j pos) env) Q E s:=λA s Q E h=>un3 h
section
variable {X:Cx}
end
def CM (K:PySem.W.Frag):Prop:=∀n∈KY,∀C,nsIn K mainGlobals n=some (some (.ref C))->Cls K C/\∀f∈atN,NoAttr K C f
def F0 (f:Str)(v:D):List (Str×D)->List (Str×D)
 | []=>[(f,v)]
 | (g,x) :: r=>if g=f then (g,v) :: r else (g,x) :: F0 f v r
section
variable {K:PySem.W.Frag}{c:Cf}{H:Hp}
theorem FldR.len:∀{us:List (Str×V)} {fs:List (Str×D)},FldR K c H us fs->us.length=fs.length
 | _,_,.nil=>rfl
 | _,_,.cons _ t=>by rw [uh1,uh1,FldR.len t]
theorem FldR.look {f:Str}{d:D}:∀{us:List (Str×V)} {fs:List (Str×D)},FldR K c H us fs->fs.lookup f=some d->∃v,us.lookup f=some v/\Rep K c H v d
 | _,_,.nil,e=>by cases e
 | (g,x) :: us,(g',y) :: fs,.cons ⟨h1,h2⟩ t,e=>by
   have h1:g=g':=h1;subst h1
   by_cases q:(f == g)=true
   ·simp only [List.lookup,q] at e ⊢
    cases e
    exact ⟨_,rfl,h2⟩
   ·have q:(f == g)=false:=by simpa using q
    simp only [List.lookup,q] at e ⊢;exact FldR.look t e
theorem FldR.none {f:Str}:∀{us:List (Str×V)} {fs:List (Str×D)},FldR K c H us fs->(∀p∈fs,p.1≠f)->us.lookup f=none
 | _,_,.nil,_=>rfl
 | (g,x) :: us,(g',y) :: fs,.cons ⟨h1,h2⟩ t,e=>by
   have h1:g=g':=h1;subst h1;have q:(f == g)=false:=by
    have:=e (g,y) (.head _);simpa using λz:f=g=>this z.symm
   simp only [List.lookup,q];exact FldR.none t λp hp=>e p (.tail _ hp)
theorem FldR.put {f:Str}{v:V}{d:D}(r:Rep K c H v d):∀{us:List (Str×V)} {fs:List (Str×D)},FldR K c H us fs->FldR K c H (Dh f v us) (F0 f d fs)
 | _,_,.nil=>.cons ⟨rfl,r⟩ .nil
 | (g,x) :: us,(g',y) :: fs,.cons ⟨h1,h2⟩ t=>by
   have h1:g=g':=h1;subst h1;show FldR K c H (if g=f then (g,v) :: us else (g,x) :: Dh f v us) (if g=f then (g,d) :: fs else (g,y) :: F0 f d fs)
   by_cases q:g=f
   ·rw [if_pos q,if_pos q];exact .cons ⟨rfl,r⟩ t
   ·rw [if_neg q,if_neg q];exact .cons ⟨rfl,h2⟩ (FldR.put r t)
theorem FldR.mono {c':Cf}{H':Hp}(e:Ext c H c' H'){us:List (Str×V)}{fs:List (Str×D)}(h:FldR K c H us fs):FldR K c' H' us fs:=Paired.mapP h λ_ _ z=>⟨z.1,z.2.mono e⟩
theorem OC {f:Str}{v:D}(hf:f∈atN):∀{fs:List (Str×D)},(∀p∈fs,p.1∈atN)->∀p∈F0 f v fs,p.1∈atN
 | [],_=>λp hp=>by rw [show F0 f v []=[(f,v)] from rfl,uf6] at hp;subst hp;exact hf
 | (g,x) :: r,h=>λp hp=>by
   rw [show F0 f v ((g,x) :: r)=(if g=f then (g,v) :: r else (g,x) :: F0 f v r) from rfl] at hp
   split at hp
   ·rcases uk8.mp hp with e | e
    ·subst e;exact h (g,x) (.head _)
    ·exact h p (.tail _ e)
   ·rcases uk8.mp hp with e | e
    ·subst e;exact h (g,x) (.head _)
    ·exact OC hf (λp hp=>h p (.tail _ hp)) p e
end
def FM {α:Type}(d:D)(h:Nat->Str->List (Str×D)->M α):M α:=λt=>match d with
 | .obj k=>match t.S[k]? with
   | some (.ins n fs)=>h k n fs t
   | _=>none
 | _=>none
theorem HW {α:Type}{d:D}{h:Nat->Str->List (Str×D)->M α}{t:T}{z:α×T}(e:FM d h t=some z):∃k n fs,d = .obj k/\t.S[k]?=some (.ins n fs)/\h k n fs t=some z:=by
 cases d with
 | obj k=>
   rw [show FM (.obj k) h t=(match t.S[k]? with | some (.ins n fs)=>h k n fs t | _=>none) from rfl] at e
   cases es:t.S[k]? with
   | none=>rw [es] at e;cases e
   | some o=>
     rw [es] at e
     cases o with
     | ins n fs=>exact ⟨k,n,fs,rfl,es,e⟩
     | _=>cases e
 | _=>cases e
def Cg (f:Str)(a:M D):M D:=bnd a λd=>FM d λ_ _ fs t=>(fs.lookup f).map λv=>(v,t)
def B4 (f:Str)(gv ga:M D):M Out:=bnd gv λv=>bnd ga λd=>FM d λk n fs t=>if fs.length < 1000 then some (.next,{ t with S:=t.S.set k (.ins n (F0 f v fs)) }) else none
def Ka (n:Str)(g:Fn)(f:M (List D)):M D:=bnd f λds t=>match g (.obj t.S.length :: ds) (t.S++[.ins n []]) with
 | some (.non,S')=>some (.obj t.S.length,{ t with S:=S' })
 | _=>none
def Bj (n:Str)(g:Fn)(o:M D)(f:M (List D)):M D:=bnd o λd=>FM d λ_ n' _=>if n'=n then bnd f λds t=>match g (d :: ds) t.S with
 | some (r,S')=>some (r,{ t with S:=S' })
 | none=>none else fail
theorem GK {K:PySem.W.Frag}{c:Cf}{H:Hp}{v:V}{k:Nat}(h:Rep K c H v (.obj k)):∃a,v = .ref a/\c.ι[k]?=some a:=by
 cases h with
 | obj e=>exact ⟨_,rfl,e⟩
end F2
namespace L2
open PySem PySem.Spec PySem.W PyProof.Rows
section
variable {X:Cx}{CX:CXT}{k:Nat}{f C:Addr}{fd:FuncData}{ps:List Str}{sp:Sp}{E:St->XK}{x m:Str}{p pos apos:Pos}{e o:Expr}{es:List Expr}{ta:TE}{t:TA}
theorem OJ {pins:List (Addr×Obj)}{σ:St}{H:Hp}{s:Shared}{Q:VK}{us:List Value}{vs:List V}(F:FnOk X.prog X.w X.K X.mg X.base CX k f fd ps sp)(hr:Room k X.A)(hb:Binds X.K fd ps [])(hx:Cr CX X E)
 (I:Inv X pins σ H s) (r:Vals vs us) (h:sp vs H Q (E σ)):wpAny (model X.prog X.w) X.A (call (.ref f) us) (EP X pins σ Q) X.xe s:=by
 have hl:(us++[]).length=ps.length:=by rw [ui8,<-r.length];exact F.len _ _ _ _ h
 refine wpAny_call (codeAny_mono (F.run X.A X.stack s H ⟨us,[]⟩ us vs Q (E σ) hr I.env0 (by have:=hb s us I.kIn hl;rwa [ui8] at this) r h) λr s' hq=>?_)
 cases r with
 | error e=>exact hx pins σ H s e s' I hq
 | ok fl=>
   cases fl with
   | ret u=>exact I.after hq
   | next=>exact False.elim hq
   | brk=>exact False.elim hq
   | cont=>exact False.elim hq
def Zz (C:Addr)(m:Str)(sp:Sp)(E:St->XK)(ta:TE)(t:TA):TE:=λσ H Q=>ta σ H λx H1=>∃a dx fs,x = .ref a/\H1 a=some (.ins C dx fs)/\fs.lookup m=none/\
 t σ H1 λvs H2=>sp (x :: vs) H2 Q (E σ)
abbrev EJ (X:Cx)(o:Expr)(m:Str)(es:List Expr)(apos pos:Pos)(pl:Sem Bool):Prop:=eval (.Call (.Attribute o m apos) es [] pos) X.env=(do
 let ov <-eval o X.env
 standAt apos.atName
 let (f,first) <-holding [ov] (getMethod ov m pl)
 callWith pos f first (backTo pos (starEach es X.env)) (backToKw pos (keywordEach [] X.env)))
theorem T9 {pl:Sem Bool}(he:PE X o ta)(c:Cls X.K C)(hm:Meth X.K C m f)(F:FnOk X.prog X.w X.K X.mg X.base CX k f fd ps sp)(hr:Room k X.A)(hb:Binds X.K fd ps [])(hx:Cr CX X E)(ha:PA X (e :: es) t)
 (hst:starEach (e :: es) X.env=(false,eval e X.env) :: starEach es X.env) (hpl:(backTo pos (starEach es X.env)).any (·.1)=false) (ht:EJ X o m (e :: es) apos pos pl) :
 PE X (.Call (.Attribute o m apos) (e :: es) [] pos) (Zz C m sp E ta t):=by
 intro pins s σ H Q I h;refine ud2 (pl:=pl) (thn (he pins s σ H _ I h) λu s1 z9=>?_) ht;obtain ⟨x,H1,I1,rx,a,dx,fs,ex,ea,l,q⟩:=z9;subst ex;obtain rfl:u=Value.ref a:=rx;refine Ha I1 ea c hm l ?_;refine uf3 (first:=[.ref a]) (h₀:=X.base) I.ok.mod.kin hm.kp (thn (ha pos pins s1 σ H1 _ I1 q) λus s2 z9=>?_) hst hpl;obtain ⟨vs,H2,I2,r,q2⟩:=z9;refine ⟨I2.kIn,?_⟩;exact OJ (us:=.ref a :: us) (vs:=.ref a :: vs) F hr hb hx I2 (.cons rfl r) q2
structure ByCls (K:PySem.W.Frag)(C:Addr)(m:Str)(f:Addr):Prop where
 ga:specialIn K (.ref C) "__getattribute__" = some (some (.builtin "type.__getattribute__"))
 rd:readsIn K C (.type "type")=true
 at_:(match findCls K (.ref C) (.type "type") m with | some (.val (.ref g))=>g == f | _=>false)=true
 kp:keepIn K (.ref f)=true
theorem ByCls.found {K:PySem.W.Frag}{C f:Addr}{m:Str}(b:ByCls K C m f):findCls K (.ref C) (.type "type") m=some (.val (.ref f)):=by
 have q:=b.at_
 split at q
 ·next e=>rw [e];rw [beq_iff_eq.mp q]
 ·cases q
theorem TX {pl:Sem Bool}(F:FnOk X.prog X.w X.K X.mg X.base CX k f fd ps sp)(hr:Room k X.A)(hg:Gl X x)(hm:X.mg x=some (.ref C))(bc:ByCls X.K C m f)(hb:Binds X.K fd ps [])(hx:Cr CX X E)(ha:PA X (e :: es) t)
 (hdb:(x == ("__debug__" : Str))=false) (hst:starEach (e :: es) X.env=(false,eval e X.env) :: starEach es X.env) (hpl:(backTo pos (starEach es X.env)).any (·.1)=false) (ht:EJ X (.Name x p) m (e :: es) apos pos pl) :
 PE X (.Call (.Attribute (.Name x p) m apos) (e :: es) [] pos) (Sd sp E t):=by
 intro pins s σ H Q I h;refine ud2 (pl:=pl) (Cu I hg hm ?_ hdb) ht;refine method_cls I.kIn bc.ga (cls_value I.kIn bc.rd bc.found rfl ?_);have I0:=I.tok (s.toks + 1);refine uf3 (first:=[]) (h₀:=X.base) I.ok.mod.kin bc.kp (thn (ha pos pins _ σ H _ I0 h) λus s2 z9=>?_) hst hpl;obtain ⟨vs,H2,I2,r,q2⟩:=z9;refine ⟨I2.kIn,?_⟩;exact OJ (us:=us) (vs:=vs) F hr hb hx I2 r q2
end
end L2
namespace F2
open PySem L2 PySem.Spec PySem.W
variable {n:Str}{h:Fn}{pl:Sem Bool}
section
variable {X:Cx}{e o a value:Expr}{es:List Expr}{pos pos' apos p:Pos}{f:Str}{g gv ga:M D}{fl:M (List D)}{C:Addr}
theorem XU (cm:CM X.K)(hf:f∈atN)(he:PE X e (RE X.K g))(hb:attributeBase e f X.env (eval e X.env)=eval e X.env):PE X (.Attribute e f pos) (RE X.K (Cg f g)):=
 AG (YL he hb) λσ H Q z9=>by
  obtain ⟨Oo,c,t,fi,r,t',eq,kk⟩:=z9;obtain ⟨d,t1,e1,eq⟩:=Ae eq;obtain ⟨k,n,fs,rfl,es,eq⟩:=HW eq;obtain ⟨y,e2,e3⟩:=uc6.mp eq
  cases e3
  refine ⟨Oo,c,t,fi,.obj k,_,e1,λv H1 c1 f1 s1 rv=>?_⟩;obtain ⟨b,rfl,hk⟩:=GK rv;obtain ⟨⟨hn,hat⟩,C,dx,us,g1,g2,g3⟩:=f1.s.obs k b _ hk es;obtain ⟨w,l1,l2⟩:=g3.look e2;exact ⟨b,C,dx,us,w,rfl,g2,(cm n hn C g1).1,(cm n hn C g1).2 f hf,l1,kk w H1 c1 f1 s1 l2⟩
theorem Yb {μ:Cf->Hp->D->(V->Hp->Prop)->Prop}(cm:CM X.K)(hf:f∈atN)(ha:PE X o (RE X.K ga))(hv:PE X value (RE X.K gv))(hs:swapsWith value (some (.Attribute o f pos')) pos.line X.env=pure false:=by rfl) :
 PS X (.Assign [.Attribute o f pos'] value pos) (RSg X.K μ (B4 f gv ga)):=
 Bk (YX ha hv hs) λD σ H z9=>by
  obtain ⟨Oo,c,t,fi,r,t',eq,kk⟩:=z9;obtain ⟨d,t1,e1,eq⟩:=Ae eq;obtain ⟨d2,t2,e2,eq⟩:=Ae eq;obtain ⟨k,n,fs,rfl,es,eq⟩:=HW eq
  split at eq
  ·next hl=>
   cases eq
   refine ⟨Oo,c,t,fi,d,t1,e1,λv H1 c1 f1 s1 rv=>⟨Oo,c1,t1,f1,.obj k,t2,e2,λx H2 c2 f2 s2 rx=>?_⟩⟩;obtain ⟨b,rfl,hk⟩:=GK rx;obtain ⟨⟨hn,hat⟩,C,dx,us,g1,g2,g3⟩:=f2.s.obs k b _ hk es;refine ⟨b,C,dx,us,rfl,g2,(cm n hn C g1).1,(cm n hn C g1).2 f hf,by rw [g3.len];exact hl,?_⟩;obtain ⟨f3,s3⟩:=f2.wrObj (o:=.ins n (F0 f d fs)) (u:=.ins C dx (Dh f v us)) hk λc' H' ext hu=>⟨⟨hn,OC hf hat⟩,C,dx,_,g1,hu,(FldR.put (rv.mono s2.ext) g3).mono ext⟩;exact kk σ _ c2 f3 ((s1.trans s2).trans s3)
  ·cases eq
theorem Rh {ds:List D}{t:T}{r:D}{t':T}(e:(match h (.obj t.S.length :: ds) (t.S++[.ins n []]) with | some (.non,S')=>some (.obj t.S.length,{ t with S:=S' }) | _=>none:Option (D×T))=some (r,t')) :
 ∃S',h (.obj t.S.length :: ds) (t.S++[.ins n []])=some (.non,S')/\r = .obj t.S.length/\t' = { t with S:=S' }:=by
 split at e
 ·next S' q=>cases e;exact ⟨S',q,rfl,rfl⟩
 ·cases e
theorem Vv {k:Nat}{fa:Addr}{fd:FuncData}{ps:List Str}(hn:n∈KY)(hC:nsIn X.K mainGlobals n=some (some (.ref C)))(M:Mk X.K C fa)(F:FnOk X.prog X.w X.K X.mg X.base CX0 k fa fd ps (spF X.K h))(hr:Room (k + 1) X.A)(hg:Gl X n)(hm:X.mg n=some (.ref C))(hb:Binds X.K fd ps [])
 (ha:PA X (e :: es) (RA X.K fl)) (hdb:(n == ("__debug__" : Str))=false:=by decide) (h1:AY e=false:=by rfl) (h2:A4 es=true:=by rfl):PE X (.Call (.Name n p) (e :: es) [] pos) (RE X.K (Ka n h fl)):=
 AG (Wp M F hr hg hm hb .nil IS ha hdb (A8 h1) (AZ h2).1) λσ H Q z9=>by
  obtain ⟨Oo,c,t,fi,r,t',eq,kk⟩:=z9;obtain ⟨ds,t1,e1,eq⟩:=Ae eq;obtain ⟨S',e2,rfl,rfl⟩:=Rh eq;refine ⟨Oo,c,t,fi,ds,t1,e1,λvs H1 c1 f1 s1 rvs x dx hx hdx ne=>?_⟩;rw [ui8];have f2:=f1.laid (p:=dx) (o:=.own x) hdx;have s2:=f1.stp_laid (p:=dx) (o:=.own x) hdx;have hx2:upd H1 dx (.own x) x=none:=by rw [Ag (Ne.symm ne)];exact hx
  obtain ⟨c3,f3,s3,e3⟩:=f2.newObj (o:=.ins n []) (u:=.ins C dx []) hx2 λc' H' ext hu=>⟨⟨hn,λp hp=>by cases hp⟩,C,dx,[],hC,hu,.nil⟩;refine ⟨c3,.obj t1.S.length :: ds,_,f3.s,.cons (.obj e3) ((rvs.mono s2.ext).mono s3.ext),.non,S',e2,λv H' c' si st ho rv=>?_⟩;obtain ⟨f4,s4⟩:=f3.after si st ho
  cases rv
  exact ⟨rfl,kk _ H' c' f4 ((s1.trans s2).trans (s3.trans s4)) (.obj (st.ext.io _ _ e3))⟩
structure MAt (K:PySem.W.Frag)(n m:Str)(C fa:Addr):Prop where
 cl:n∈KY
 at_:nsIn K mainGlobals n=some (some (.ref C))
 me:Meth K C m fa
 na:m∉atN
theorem Ij {d:D}{t:T}{r:D}{t':T}(e:FM d (λ_ n' _=>if n'=n then bnd fl λds t=>match h (d :: ds) t.S with | some (r,S')=>some (r,{ t with S:=S' }) | none=>none else fail) t=some (r,t')) :
 ∃k fs ds t1 S',d = .obj k/\t.S[k]?=some (.ins n fs)/\fl t=some (ds,t1)/\h (d :: ds) t1.S=some (r,S')/\t' = { t1 with S:=S' }:=by
 obtain ⟨k,n',fs,rfl,es,q⟩:=HW e
 by_cases hn:n'=n
 ·subst hn;rw [if_pos rfl] at q;obtain ⟨ds,t1,e1,q⟩:=Ae q;obtain ⟨S',e2,rfl⟩:=Ga q;exact ⟨k,fs,ds,t1,S',rfl,es,e1,e2,rfl⟩
 ·rw [if_neg hn] at q;cases q
section
variable {k:Nat}{fa:Addr}{fd:FuncData}{ps:List Str}{h:Fn}{n m:Str}{qx:Bool}{E:L2.St->XK}
theorem K0 (cm:CM X.K)(ma:MAt X.K n m C fa)(F:FnOk X.prog X.w X.K X.mg X.base CX0 k fa fd ps (spF X.K h))(hr:Room k X.A)(hb:Binds X.K fd ps [])(he:PE X o (RE X.K g))(ha:PA X (e :: es) (RA X.K fl))
 (h1:AY e=false:=by rfl) (h2:A4 es=true:=by rfl) (ht:EJ X o m (e :: es) apos pos pl:=by rfl):PE X (.Call (.Attribute o m apos) (e :: es) [] pos) (RE X.K (Bj n h g fl)):=
 AG (Wq (pl:=pl) he (cm n ma.cl C ma.at_).1 ma.me F hr hb .nil IS ha (A8 h1) (AZ h2).1 ht) λσ H Q z9=>by
  obtain ⟨Oo,c,t,fi,r,t',eq,kk⟩:=z9;obtain ⟨d,t1,e1,eq⟩:=Ae eq;obtain ⟨j,fs,ds,t2,S',rfl,es,e2,e3,rfl⟩:=Ij eq;refine ⟨Oo,c,t,fi,.obj j,t1,e1,λv H1 c1 f1 s1 rv=>?_⟩;obtain ⟨b,rfl,hk⟩:=GK rv;obtain ⟨⟨_,hat⟩,C',dx,us,g1,g2,g3⟩:=f1.s.obs j b _ hk es;rw [ma.at_] at g1
  cases g1
  refine ⟨b,dx,us,rfl,g2,g3.none λp hp z=>ma.na (z ▸ hat p hp),Oo,c1,t1,f1,ds,t2,e2,λvs H2 c2 f2 s2 rvs=>?_⟩;show spF X.K h (V.ref b :: (vs++[])) H2 Q E0;rw [ui8];refine ⟨c2,.obj j :: ds,t2.S,f2.s,.cons (.obj (s2.ext.io _ _ hk)) rvs,r,S',e3,λv H' c' si st ho rv=>?_⟩;obtain ⟨f3,s3⟩:=f2.after si st ho;exact kk v H' c' f3 ((s1.trans s2).trans s3) rv
theorem MX (cm:CM X.K)(ma:MAt X.K n m C fa)(F:FnOk X.prog X.w X.K X.mg X.base CX0 k fa fd ps (spF X.K h))(hr:Room k X.A)(hb:Binds X.K fd ps [])(he:PE X o (RE X.K g))(ht:EJ X o m [] apos pos pl:=by rfl) :
 PE X (.Call (.Attribute o m apos) [] [] pos) (RE X.K (Bj n h g (ret []))):=
 AG (T8 (pl:=pl) he (cm n ma.cl C ma.at_).1 ma.me F hr hb .nil IS ht) λσ H Q z9=>by
  obtain ⟨Oo,c,t,fi,r,t',eq,kk⟩:=z9;obtain ⟨d,t1,e1,eq⟩:=Ae eq;obtain ⟨j,fs,ds,t2,S',rfl,es,e2,e3,rfl⟩:=Ij eq
  cases e2
  refine ⟨Oo,c,t,fi,.obj j,t1,e1,λv H1 c1 f1 s1 rv=>?_⟩;obtain ⟨b,rfl,hk⟩:=GK rv;obtain ⟨⟨_,hat⟩,C',dx,us,g1,g2,g3⟩:=f1.s.obs j b _ hk es;rw [ma.at_] at g1
  cases g1
  refine ⟨b,dx,us,rfl,g2,g3.none λp hp z=>ma.na (z ▸ hat p hp),?_⟩;refine ⟨c1,[.obj j],t1.S,f1.s,.cons (.obj hk) .nil,r,S',e3,λv H' c' si st ho rv=>?_⟩;obtain ⟨f3,s3⟩:=f1.after si st ho;exact kk v H' c' f3 (s1.trans s3) rv
theorem K5 (cm:CM X.K)(ma:MAt X.K n m C fa)(F:FnOk X.prog X.w X.K X.mg X.base (CX1 qx X.prog X.w) k fa fd ps (spX X.K h))(hr:Room k X.A)(hb:Binds X.K fd ps [])(hx:Cr (CX1 qx X.prog X.w) X E)(he:PE X o (RE X.K g))(ha:PA X (e :: es) (RA X.K fl))
 (h1:AY e=false:=by rfl) (h2:A4 es=true:=by rfl) (ht:EJ X o m (e :: es) apos pos pl:=by rfl):PE X (.Call (.Attribute o m apos) (e :: es) [] pos) (RX X.K E (Bj n h g fl)):=
 AG (T9 (pl:=pl) he (cm n ma.cl C ma.at_).1 ma.me F hr hb hx ha (A8 h1) (AZ h2).1 ht) λσ H Q z9=>by
  obtain ⟨Oo,c,t,fi,r,t',eq,kk⟩:=z9;obtain ⟨d,t1,e1,eq⟩:=Ae eq;obtain ⟨j,fs,ds,t2,S',rfl,es,e2,e3,rfl⟩:=Ij eq;refine ⟨Oo,c,t,fi,.obj j,t1,e1,λv H1 c1 f1 s1 rv=>?_⟩;obtain ⟨b,rfl,hk⟩:=GK rv;obtain ⟨⟨_,hat⟩,C',dx,us,g1,g2,g3⟩:=f1.s.obs j b _ hk es;rw [ma.at_] at g1
  cases g1
  refine ⟨b,dx,us,rfl,g2,g3.none λp hp z=>ma.na (z ▸ hat p hp),Oo,c1,t1,f1,ds,t2,e2,λvs H2 c2 f2 s2 rvs=>?_⟩;refine ⟨c2,.obj j :: ds,t2.S,f2.s,.cons (.obj (s2.ext.io _ _ hk)) rvs,r,S',e3,λv H' c' si st ho rv=>?_⟩;obtain ⟨f3,s3⟩:=f2.after si st ho;exact kk v H' c' f3 ((s1.trans s2).trans s3) rv
theorem MV {x:Str}(F:FnOk X.prog X.w X.K X.mg X.base CX0 k fa fd ps (spF X.K h))(hr:Room k X.A)(hg:Gl X x)(hm:X.mg x=some (.ref C))(bc:ByCls X.K C m fa)(hb:Binds X.K fd ps [])(ha:PA X (e :: es) (RA X.K fl))
 (hdb:(x == ("__debug__" : Str))=false:=by decide) (h1:AY e=false:=by rfl) (h2:A4 es=true:=by rfl) (ht:EJ X (.Name x p) m (e :: es) apos pos pl:=by rfl):PE X (.Call (.Attribute (.Name x p) m apos) (e :: es) [] pos) (RE X.K (Ai h fl)):=
 AG (TX (pl:=pl) (E:=λ_=>E0) F hr hg hm bc hb (λpins σ H s e s'=>IS pins σ H s e s') ha hdb (A8 h1) (AZ h2).1 ht) λσ H Q z9=>by
  obtain ⟨Oo,c,t,fi,r,t',eq,kk⟩:=z9;obtain ⟨ds,t1,e1,eq⟩:=Ae eq;obtain ⟨S',e2,rfl⟩:=Ga eq;refine ⟨Oo,c,t,fi,ds,t1,e1,λvs H1 c1 f1 s1 rvs=>?_⟩;refine ⟨c1,ds,t1.S,f1.s,rvs,r,S',e2,λv H' c' si st ho rv=>?_⟩;obtain ⟨f2,s2⟩:=f1.after si st ho;exact kk v H' c' f2 (s1.trans s2) rv
end
end
variable {K:PySem.W.Frag}
theorem Yu {k:Kd}{P:Program}{w:World}{mg:Str->Option Value}{base:Heap}{n:Nat}{fa:Addr}{fd:FuncData}{ps:List Str}{f:Fn}(h:okK k P w K mg base n fa fd ps f):okK k P w K mg base (n + 1) fa fd ps f:=by
 cases k <;> exact FnOk.mono h (un0 _)
def MP (K:PySem.W.Frag)(C:Addr):Bool:=plainGet K C Str.empty && hasDictIn K C && plainOver K C && findIn K (.ref C) "__setattr__" == some (some (.builtin "object.__setattr__")) && atN.all λf=>findIn K (.ref C) f == some none
variable {C:Addr}
theorem Vn (h:MP K C=true):Cls K C/\∀f∈atN,NoAttr K C f:=by
 unfold MP at h;simp only [uh5,beq_iff_eq,uh9] at h;obtain ⟨⟨⟨⟨a,b⟩,c⟩,d⟩,e⟩:=h;exact ⟨⟨a,b,c,d⟩,λf hf=>e f hf⟩
theorem ZX (h:∀n∈KY,nsIn K mainGlobals n=some none\/∃C,nsIn K mainGlobals n=some (some (.ref C))/\MP K C=true):CM K:=λn hn C e=>by
 rcases h n hn with q | ⟨C',q,b⟩
 ·rw [e] at q;cases q
 ·rw [e] at q;cases q;exact Vn b
def PB (K:PySem.W.Frag)(C:Addr):Bool:=makesIn K C && keepIn K (.ref C)
theorem aq {f:Addr}(h:PB K C=true)(i:findIn K (.ref C) "__init__" = some (some (.ref f)))(hf:isFn K (.ref f)=true):Mk K C f:=by
 unfold PB at h;simp only [uh5] at h;exact ⟨h.1,i,hf,h.2⟩
def byB (K:PySem.W.Frag)(C:Addr)(m:Str):Bool:=specialIn K (.ref C) "__getattribute__" == some (some (.builtin "type.__getattribute__")) && readsIn K C (.type "type") && match findCls K (.ref C) (.type "type") m,findIn K (.ref C) m with | some (.val (.ref g)),some (some (.ref f))=>g == f | _,_=>false
theorem US {f:Addr}{m:Str}(h:byB K C m=true)(i:findIn K (.ref C) m=some (some (.ref f)))(k:keepIn K (.ref f)=true):ByCls K C m f:=by
 unfold byB at h;simp only [uh5,beq_iff_eq] at h;obtain ⟨⟨a,b⟩,c⟩:=h;refine ⟨a,b,?_,k⟩;rw [i] at c
 split at c
 ·next g f' e1 e2=>
  cases e2
  rw [e1];exact c
 ·cases c
end F2
namespace F2
open PySem L2 PySem.Spec PyProof.Rows
section
variable {K:PySem.W.Frag}
def Lo:D->Option Int->Option Int->M D
 | .obj k,lo,hi=>λt=>match t.S[k]? with
   | some (.lst ds)=>some (.lst (Bx ds lo hi),t)
   | _=>none
 | x,lo,hi=>DO x lo hi
theorem Ur:O8 K (Ui K) Lo:=λ{Oo c t σ H x dx r lo hi t' Q} f rx eq k=>by
 unfold Lo at eq
 split at eq
 ·next kk=>
  cases rx with
  | @obj a kk h1=>
    split at eq
    ·next ds es=>
     cases eq
     obtain ⟨vs,g1,g2⟩:=f.s.obs kk a _ h1 es;exact .inl (.inl ⟨a,vs,rfl,SqL.of g1,λq hq=>k _ _ c (f.laid hq) (f.stp_laid hq) (.lst Aj (f.s.free hq) ((Hn g2 lo hi).mono (Ext.laid f.s hq)))⟩)
    ·cases eq
 ·exact ON f rx eq k
end
abbrev Gd:=Option (Nat×List D)
def Gon (g:Gd)(S:List Ob):Prop:=∀k xs,g=some (k,xs)->S[k]?=some (.lst xs)
def chk (g:Gd):M Unit:=λt=>@ite _ (Gon g t.S) (Classical.propDecidable _) (some ((),t)) none
theorem MO {g:Gd}{t t':T}{u:Unit}(h:chk g t=some (u,t')):Gon g t.S/\t'=t:=by
 unfold chk at h
 split at h
 ·next q=>cases h;exact ⟨q,rfl⟩
 ·cases h
theorem Qs {g:Gd}{t:T}(h:Gon g t.S):chk g t=some ((),t):=by unfold chk;rw [if_pos h]
def compG (g:Gd)(st:D->M Unit)(tst:M Bool)(elt:M D):List D->M (List D)
 | []=>bnd (chk g) λ_=>ret []
 | d :: r=>bnd (chk g) λ_=>bnd (st d) λ_=>bnd tst λk=>if k=true then bnd elt λx=>bnd (compG g st tst elt r) λxs=>ret (x :: xs) else compG g st tst elt r
def HS (n:Nat)(fr:List Nat)(f:M (Gd×List D))(st:D->M Unit)(tst:M Bool)(elt:M D):M (List D):=bnd f λp t=>match compG p.1 st tst elt p.2 ⟨cenv n fr t.env,t.S⟩ with
 | some (xs,t')=>if xs.length<=LIM then some (xs,{ t with S:=t'.S }) else none
 | none=>none
structure ItOk3 (K:PySem.W.Frag)(J:It)(g:Gd)(c:Cf)(H:Hp)(ds:List D):Prop where
 go:∀c' H' S' (i:Nat),Ext c H c' H'->SInv K c' S' H'->Gon g S'->i < ds.length->J.go i H'
 yld:∀c' H' S' (i:Nat) x H'' d,Ext c H c' H'->SInv K c' S' H'->Gon g S'->ds[i]?=some d->J.yld i H' x H''->∃p vs es,x = .ref p/\H' p=none/\H''=upd H' p (.tup vs)/\d = .tup es/\Reps K c' H' vs es
 stop:∀c' H' S',Ext c H c' H'->SInv K c' S' H'->Gon g S'->J.stop ds.length H'
inductive RI3 (K:PySem.W.Frag)(f:M (Gd×List D))(σ:L2.St)(H:Hp)(R:It->Hp->Prop):Prop where
 | mk (Oo:Addr->Prop) (c:Cf) (t:T) (fi:FInv K Oo c t σ H) (p:Gd×List D) (t':T) (e:f t=some (p,t')) (k:∀J H' c',FInv K Oo c' t' σ H'->Stp Oo c H c' H'->ItOk3 K J p.1 c' H' p.2->R J H'):RI3 K f σ H R
section
variable {X:Cx}{e a b tg iter elt:Expr}{ifs:List Expr}{pos:Pos}{scope:Scope}{N':List Str}{n:Nat}{fr:List Nat}{st:D->M Unit}{tst:M Bool}{el:M D}
end
structure ItOkG (K:PySem.W.Frag)(J:It)(g:Gd)(c:Cf)(H:Hp)(ds:List D):Prop where
 go:∀c' H' S' (i:Nat),Ext c H c' H'->SInv K c' S' H'->Gon g S'->i < ds.length->J.go i H'
 yld:∀c' H' S' (i:Nat) x H'' d,Ext c H c' H'->SInv K c' S' H'->Gon g S'->ds[i]?=some d->J.yld i H' x H''->H''=H'/\Rep K c' H' x d
 stop:∀c' H' S',Ext c H c' H'->SInv K c' S' H'->Gon g S'->J.stop ds.length H'
theorem ItOk.toG {K:PySem.W.Frag}{J:It}{g:Gd}{c:Cf}{H:Hp}{ds:List D}(h:ItOk K J c H ds):ItOkG K J g c H ds:=
 ⟨λc' H' _ i e _ _=>h.go c' H' i e,λc' H' _ i x H'' d e _ _=>h.yld c' H' i x H'' d e,λc' H' _ e _ _=>h.stop c' H' e⟩
def RIG (K:PySem.W.Frag)(f:M (Gd×List D)):TI:=λσ H R=>∃Oo c t,FInv K Oo c t σ H/\∃p t',f t=some (p,t')/\∀J H' c',FInv K Oo c' t' σ H'->Stp Oo c H c' H'->ItOkG K J p.1 c' H' p.2->R J H'
theorem RF.compG {K:PySem.W.Frag}{n:Nat}{fr:List Nat}{f:M (Gd×List D)}{st:D->M Unit}{tst:M Bool}{elt:M D}{σ:L2.St}{H:Hp}{Q:VK}(q:RF K (HS n fr f st tst elt) σ H Q):Mh (RIG K f) (RG K st) (RT K tst) (RE K elt) (Ff n fr) σ H Q:=by
 obtain ⟨Oo,c,t,fi,xs,t',eq,k⟩:=q;obtain ⟨pg,t1,e1,eq⟩:=Ae eq;refine ⟨Oo,c,t,fi,pg,t1,e1,λJ H1 c1 f1 s1 it=>?_⟩;obtain ⟨g,ds⟩:=pg;dsimp only at eq it
 cases e3:F2.compG g st tst elt ds ⟨cenv n fr t1.env,t1.S⟩ with
 | none=>rw [e3] at eq;cases eq
 | some p=>
   obtain ⟨ys,t3⟩:=p;rw [e3] at eq;dsimp only at eq
   split at eq
   case isFalse=>cases eq
   next hl=>
   cases eq
   refine ⟨λi m acc σ' H'=>m=ds.length - i/\i<=ds.length/\∃c' t2 zs rest,FInv K c1.O c' t2 σ' H'/\Stp c1.O c1 H1 c' H'/\Reps K c' H' acc zs/\F2.compG g st tst elt (ds.drop i) t2=some (rest,t3)/\xs=zs++rest,
    ⟨_,rfl,um9 _,c1,_,[],xs,G8 f1,.refl,.nil,by rw [uk5];exact e3,rfl⟩,?_⟩
   rintro i m acc σ' H' ⟨rfl,hi,c',t2,zs,rest,f2,s2,ra,e2,ez⟩;have hacc:acc.length<=sizeLine:=by
    have:zs.length<=xs.length:=by rw [ez,uf4];exact uh8 _ _
    rw [ra.length];exact um0 this (um0 hl BU)
   refine ⟨hacc,?_⟩
   by_cases hlt:i < ds.length
   ·rw [ub0 hlt] at e2;unfold F2.compG at e2;obtain ⟨u0,t0,e0,e2⟩:=Ae e2;obtain ⟨hon,ht0⟩:=MO e0;rw [ht0] at e2;clear e0 ht0;refine .inr ⟨it.go c' H' _ i s2.ext f2.s hon hlt,λx H'' hy=>?_⟩;obtain ⟨rfl,rx⟩:=it.yld c' H' _ i x H'' _ s2.ext f2.s hon (ub3 hlt) hy;obtain ⟨u,t4,e4,e2⟩:=Ae e2;obtain ⟨kb,t5,e5,e2⟩:=Ae e2;refine ⟨c1.O,c',t2,_,f2,rx,t4,e4,λσ3 H3 c3 f3 s3=>⟨c1.O,c3,t4,f3,kb,t5,e5,λH4 c4 f4 s4=>?_⟩⟩
    cases kb with
    | false=>
      rw [if_neg uf1] at e2 ⊢;exact ⟨ds.length - (i + 1),by lia,rfl,hlt,c4,t5,zs,rest,f4,(s2.trans s3).trans s4,ra.mono (s3.trans s4).ext,e2,ez⟩
    | true=>
      rw [if_pos rfl] at e2 ⊢;obtain ⟨x6,t6,e6,e2⟩:=Ae e2;obtain ⟨r7,t7,e7,e2⟩:=Ae e2
      cases e2
      refine ⟨c1.O,c4,t5,f4,x6,t6,e6,λv H5 c5 f5 s5 rv=>?_⟩;exact ⟨ds.length - (i + 1),by lia,rfl,hlt,c5,t6,zs++[x6],r7,f5,((s2.trans s3).trans s4).trans s5,(ra.mono ((s3.trans s4).trans s5).ext).append (.cons rv .nil),e7,by rw [ez,ug4];rfl⟩
   ·have hi':i=ds.length:=by lia
    subst hi';rw [uh7] at e2;unfold F2.compG at e2;obtain ⟨u0,t0,e0,e2⟩:=Ae e2;obtain ⟨hon,ht0⟩:=MO e0;rw [ht0] at e2;clear e0 ht0
    cases e2
    refine .inl ⟨it.stop c' H' _ s2.ext f2.s hon,λp hp _=>?_⟩;obtain ⟨si,ext⟩:=f2.leave;obtain ⟨f6,s6⟩:=f1.after si ⟨s2.ext.trans ext,s2.oo⟩ (λ_=>Iff.rfl);rw [ui8] at ez;subst ez;exact k p acc H' _ f6 (s1.trans s6) (ra.mono ext) hp
def HZ:D->M (Gd×List D)
 | .obj k=>λt=>match t.S[k]? with
   | some (.lst ds)=>some ((some (k,ds),ds),t)
   | _=>none
 | d=>bnd (DG d) λds=>ret (none,ds)
def Pk (f:M D):M (Gd×List D):=bnd f HZ
theorem ItOkG.lst {K:PySem.W.Frag}{g:Gd}{c:Cf}{H:Hp}{p:Addr}{ds:List D}(r:∀c' H' S',Ext c H c' H'->SInv K c' S' H'->Gon g S'->∃vs,SqL K H' p vs/\Reps K c' H' vs ds):ItOkG K (Itl K p) g c H ds:=by
 refine ⟨λc' H' S' i ex si on hi=>?_,λc' H' S' i x H'' d ex si on hd hy=>?_,λc' H' S' ex si on=>?_⟩
 ·obtain ⟨vs,h1,h2⟩:=r c' H' S' ex si on;obtain ⟨v,e,_⟩:=h2.at (ub3 hi);exact ⟨vs,v,h1,e⟩
 ·obtain ⟨vs,h1,h2⟩:=r c' H' S' ex si on;obtain ⟨rfl,hx⟩:=hy;exact ⟨rfl,h2.get (hx vs h1) hd⟩
 ·obtain ⟨vs,h1,h2⟩:=r c' H' S' ex si on;exact ⟨vs,h1,by rw [h2.length];exact um8 _⟩
section
variable {X:Cx}{e a b tg iter elt:Expr}{ifs:List Expr}{pos:Pos}{scope:Scope}{N':List Str}{n:Nat}{fr:List Nat}{st:D->M Unit}{tst:M Bool}{el:M D}
theorem Te {f:M (Gd×List D)}(O:CmpOk X scope N' (Ff n fr))(hc:X.calm=true)(hi:PI X tg iter (RIG X.K f))
 (hg:∀cl C s2 H2 fp,PG (Co X N' scope cl C s2 H2 fp) tg (RG X.K st)) (ht:∀cl C s2 H2 fp,PIf (Co X N' scope cl C s2 H2 fp) ifs (RT X.K tst)) (he:∀cl C s2 H2 fp,PE (Co X N' scope cl C s2 H2 fp) elt (RE X.K el))
 (hs:∀x,foldedSetIterable iter X.env x=pure x:=by intro _;rfl):PE X (.ListComp elt [⟨tg,iter,ifs,0⟩] scope pos) (RF X.K (HS n fr f st tst el)):=
 AG (Lf O hc hi hg ht he hs) λ_ _ _ q=>RF.compG q
theorem Vz {f:M D}(h:PE X e (RE X.K f)):PI X tg e (RIG X.K (Pk f)):=
 HD (Rz h) λσ H R z=>by
  obtain ⟨Oo,c,t,fi,ds,t',eq,k⟩:=z;obtain ⟨d,t1,e1,eq⟩:=Ae eq;refine ⟨Oo,c,t,fi,d,t1,e1,λv H1 c1 f1 s1 rv=>?_⟩
  cases rv with
  | @obj a kk hk=>
    unfold HZ at eq;dsimp only at eq
    split at eq
    ·next es hS=>
     cases eq
     obtain ⟨ws,g1,g3⟩:=f1.s.obs kk a _ hk hS;refine .inl ⟨a,rfl,⟨ws,SqL.of g1⟩,k _ H1 c1 f1 s1 (ItOkG.lst λc' H' S' ex si on=>?_)⟩;obtain ⟨us,q1,q2⟩:=si.obs kk a _ (ex.io _ _ hk) (on kk es rfl);exact ⟨us,SqL.of q1,q2⟩
    ·cases eq
  | @lst p vs ds' h1 h2 h3=>
    cases eq
    exact .inl ⟨p,rfl,⟨vs,SqL.of h1⟩,k _ H1 c1 f1 s1 (ItOk.toG (ItOk.lst λc' H' ex=>⟨vs,SqL.of (ex.keep _ _ h1 h2),h3.mono ex⟩))⟩
  | @scr p ns h1=>
    cases eq
    exact .inl ⟨p,rfl,⟨_,h1.sq⟩,k _ H1 c1 f1 s1 (ItOk.toG (ItOk.lst λc' H' ex=>⟨_,(h1.mono ex).sq,Reps.ints ns⟩))⟩
  | @tup p vs ds' h1 h2 h3=>
    cases eq
    exact .inr (.inl ⟨p,rfl,⟨vs,SqT.of h1⟩,k _ H1 c1 f1 s1 (ItOk.toG (ItOk.tup λc' H' ex=>⟨vs,SqT.of (ex.keep _ _ h1 h2),h3.mono ex⟩))⟩)
  | str x=>
    cases eq
    exact .inr (.inr ⟨x,rfl,k _ H1 c1 f1 s1 (ItOk.toG ItOk.str)⟩)
  | _=>cases eq
end
def CN (S:List Ob):Nat->D->D
 | 0,d=>d
 | n + 1,.obj k=>match S[k]? with
   | some (.lst ds)=>.lst (ds.map (CN S n))
   | _=>.obj k
 | n + 1,.tup ds=>.tup (ds.map (CN S n))
 | n + 1,.lst ds=>.lst (ds.map (CN S n))
 | _ + 1,d=>d
def eqO (g:Bool->Bool)(x y:D):M D:=λt=>if (Bw (CN t.S 16 x) && Bw (CN t.S 16 y))=true then (eqN EQD (CN t.S 16 x) (CN t.S 16 y)).map λb=>(.bl (g b),t) else none
theorem JF {K:PySem.W.Frag}{c:Cf}{S:List Ob}{H:Hp}(s:SInv K c S H):∀(n:Nat) {v:V} {d:D},Rep K c H v d->Bw (CN S n d)=true->Rep K c0 H v (CN S n d)
 | 0,v,d,r,p=>D6 r (by simpa only [CN] using p)
 | n + 1,v,d,r,p=>by
   have row:∀{vs:List V} {ds:List D},Reps K c H vs ds->Hl (ds.map (CN S n))=true->Reps K c0 H vs (ds.map (CN S n)):=by
    intro vs ds q
    induction ds generalizing vs with
    | nil=>intro _;cases q;exact .nil
    | cons d ds ih=>
      intro p
      cases q with
      | cons a b=>
        rw [uk9,Hl,uh5] at p;exact .cons (JF s n a p.1) (ih b p.2)
   cases r with
   | @obj a k hk=>
     unfold CN at p ⊢
     split
     ·next ds e=>
      rw [e] at p;obtain ⟨vs,h1,h2⟩:=s.obs k a _ hk e;exact .lst h1 (HH _) (row h2 (by simpa [Bw] using p))
     ·next h=>
      split at p
      ·next ds e=>exact absurd e (h ds)
      ·simp [Bw] at p
   | tup h m q=>rw [CN] at p ⊢;exact .tup h (HH _) (row q (by simpa only [Bw] using p))
   | lst h m q=>rw [CN] at p ⊢;exact .lst h (HH _) (row q (by simpa only [Bw] using p))
   | non=>exact .non
   | bl b=>exact .bl b
   | int b=>exact .int b
   | str b=>exact .str b
   | ty b=>exact .ty b
   | scr h=>exact D6 (c:=c) (.scr h) p
   | dic h n=>exact D6 (.dic h n) p
   | exc a b n f q=>exact D6 (.exc a b n f q) p
theorem WO {K:PySem.W.Frag}{g:Bool->Bool}:Bm K (PV K g) (eqO g):=λ{Oo c t σ H x y dx dy r t' Q} f rx ry eq k=>by
 unfold eqO at eq
 split at eq
 ·next hp=>
  rw [uh5] at hp;obtain ⟨b,e1,e2⟩:=uc6.mp eq
  cases e2
  exact ⟨c0,_,_,b,JF f.s 16 rx hp.1,JF f.s 16 ry hp.2,e1,k _ H c f .refl (.bl (g b))⟩
 ·cases eq
end F2
namespace L2
open PySem PySem.Spec PyProof.Rows
section
variable {X:Cx}{k:Nat}{f l I S:Addr}{fd:FuncData}{ps:List Str}{sp:Sp}{pins:List (Addr×Obj)}{σ:St}{H:Hp}{s:Shared}{Q:VK}{oS oI oS' oI':Obj}{h':Heap}{t':Nat}
end
end L2
namespace F2
open PySem L2 PySem.Spec PySem.W
section
variable {K:PySem.W.Frag}{g:Fn}
end
end F2
namespace LW
open PySem L2 F2
def Gu:M Out:=
 (Ao (Ft (fB (Ab (Aa 0) (Ab (fC (.ty "int")) Ad)) Du) (IG (fB (Ab (Aa 0) (Ab (fC (.ty "bool")) Ad)) Du))))
def DI (MI:Fn):M Out:=
 (Ao (Ft (Ai MI (Ab (Aa 0) Ad)) (E7 (Aa 1) (Aa 0) (Aa 2) leA leA)))
def Nc (KR MG MF MH BI:Fn):M Out:=
 (Af (AA 2 (Ac (Aa 0) (fC (.int 0)) ixD))
 (Af (ifS (Aq (Ac (Aa 2) (fC (.str "nothing")) (eqS id)))
   (Ao (Ac (Aa 1) (fC .non) isC))
   Au)
 (Af (ifS (Aq (Ac (Aa 2) (fC (.str "number")) (eqS id)))
   (Ao (Ai BI (Ab (Aa 1) (Ab (Ac (Aa 0) (fC (.int 1)) ixD) (Ab (Ac (Aa 0) (fC (.int 2)) ixD) Ad)))))
   Au)
 (Af (ifS (Aq (Ac (Aa 2) (fC (.str "text")) (eqS id)))
   (Ao (Ai MH (Ab (Aa 0) (Ab (Aa 1) Ad))))
   Au)
 (Af (ifS (Aq (Ac (Aa 2) (fC (.str "list")) (eqS id)))
   (Ao (Ai MF (Ab (Aa 0) (Ab (Aa 1) Ad))))
   Au)
 (Af (ifS (Aq (Ac (Aa 2) (fC (.str "pair")) (eqS id)))
   (Ao (Ai MG (Ab (Aa 0) (Ab (Aa 1) Ad))))
   Au)
 (Ao (Ai KR (Ab (Aa 0) (Ab (Aa 1) Ad))))))))))
def Gs (GY:Fn):M Out:=
 (Af (ifS (fOr (C9 (Aq (fB (Ab (Aa 1) (Ab (fC (.ty "str")) Ad)) Du))) (Aq (Ac (fB (Ab (Aa 1) Ad) A0) (Ac (Aa 0) (fC (.int 1)) ixD) gtA)))
   (Ao (fC (.bl false)))
   Au)
 (Af (B8 (DX (Aa 1)) (AB 2)
   (ifS (C9 (Aq (Ai GY (Ab (fB (Ab (Aa 2) Ad) JB) Ad))))
   (Ao (fC (.bl false)))
   Au))
 (Ao (fC (.bl true)))))
def Ie:M Out:=
 (Ao (Ft (E7 (fC (.int 32)) (Aa 0) (fC (.int 126)) leA leA) (Ac (Aa 0) (fC (.int 37)) (eqS λb=>!b))))
def Gp (Ek:Fn):M Out:=
 (Af (ifS (fOr (C9 (Aq (fB (Ab (Aa 1) (Ab (fC (.ty "list")) Ad)) Du))) (Aq (Ac (fB (Ab (Aa 1) Ad) A0) (Ac (Aa 0) (fC (.int 2)) ixD) gtA)))
   (Ao (fC (.bl false)))
   Au)
 (Af (B8 (DX (Aa 1)) (AB 2)
   (ifS (C9 (Aq (Ai Ek (Ab (Ac (Aa 0) (fC (.int 1)) ixD) (Ab (Aa 2) Ad)))))
   (Ao (fC (.bl false)))
   Au))
 (Ao (fC (.bl true)))))
def Gq (Ek:Fn):M Out:=
 (Af (ifS (fOr (C9 (Aq (fB (Ab (Aa 1) (Ab (fC (.ty "tuple")) Ad)) Du))) (Aq (Ac (fB (Ab (Aa 1) Ad) A0) (fC (.int 2)) (eqS λb=>!b))))
   (Ao (fC (.bl false)))
   Au)
 (Ao (Ft (Ai Ek (Ab (Ac (Aa 0) (fC (.int 1)) ixD) (Ab (Ac (Aa 1) (fC (.int 0)) ixD) Ad))) (Ai Ek (Ab (Ac (Aa 0) (fC (.int 2)) ixD) (Ab (Ac (Aa 1) (fC (.int 1)) ixD) Ad))))))
def Fl (Ek BI:Fn):M Out:=
 (Af (ifS (fOr (C9 (Aq (fB (Ab (Aa 1) (Ab (fC (.ty "tuple")) Ad)) Du))) (Aq (Ac (fB (Ab (Aa 1) Ad) A0) (fC (.int 3)) (eqS λb=>!b))))
   (Ao (fC (.bl false)))
   Au)
 (Af (ifS (fOr (C9 (Aq (fB (Ab (Ac (Aa 1) (fC (.int 0)) ixD) (Ab (fC (.ty "str")) Ad)) Du))) (Aq (Ac (Ac (Aa 1) (fC (.int 0)) ixD) (fC (.str "of")) (eqS λb=>!b))))
   (Ao (fC (.bl false)))
   Au)
 (Af (ifS (C9 (Aq (Ai BI (Ab (Ac (Aa 1) (fC (.int 1)) ixD) (Ab (fC (.int 0)) (Ab (Ac (fB (Ab (Ac (Aa 0) (fC (.int 1)) ixD) Ad) A0) (fC (.int 1)) Dv) Ad))))))
   (Ao (fC (.bl false)))
   Au)
 (Ao (Ai Ek (Ab (Ac (Ac (Aa 0) (fC (.int 1)) ixD) (Ac (Aa 1) (fC (.int 1)) ixD) ixD) (Ab (Ac (Aa 1) (fC (.int 2)) ixD) Ad)))))))
def FV:M Out:=
 (Ao (Ac (Ac (Ac (Ac (Aa 0) (Ac (Aa 1) (fC (.int 0)) ixD) ixD) (fC (.int 1)) ixD) (Ac (Aa 1) (fC (.int 1)) ixD) ixD) (fC (.int 2)) ixD))
def FT (Ek KS:Fn):M Out:=
 (Af (ifS (fOr (C9 (Aq (fB (Ab (Aa 1) (Ab (fC (.ty "tuple")) Ad)) Du))) (Aq (Ac (fB (Ab (Aa 1) Ad) A0) (fC (.int 3)) (eqS λb=>!b))))
   (Ao (fC .non))
   Au)
 (Af (ifS (fOr (C9 (Aq (fB (Ab (Ac (Aa 1) (fC (.int 0)) ixD) (Ab (fC (.ty "str")) Ad)) Du))) (Aq (Ac (Ac (Aa 1) (fC (.int 0)) ixD) (Ac (Aa 0) (fC (.int 0)) ixD) (eqS λb=>!b))))
   (Ao (fC .non))
   Au)
 (Af (AA 2 (Ai KS (Ab (Aa 0) (Ab (Ac (Aa 1) (fC (.int 1)) ixD) Ad))))
 (Af (ifS (fOr (Aq (Ac (Aa 2) (fC .non) isC)) (C9 (Aq (Ai Ek (Ab (Ac (Ac (Ac (Aa 0) (fC (.int 1)) ixD) (Aa 2) ixD) (fC (.int 1)) ixD) (Ab (Ac (Aa 1) (fC (.int 2)) ixD) Ad))))))
   (Ao (fC .non))
   Au)
 (Ao (Aa 2))))))
def Fm (NO:Fn):M Out:=
 (Af (ifS (C9 (Aq (fB (Ab (Aa 1) (Ab (fC (.ty "str")) Ad)) Du)))
   (Ao (fC .non))
   Au)
 (Af (AA 2 (Ai NO (Ab (Aa 0) Ad)))
 (Af (B8 (CP (Ab (fB (Ab (Aa 2) Ad) A0) Ad)) (AB 3)
   (ifS (Aq (Ac (Ac (Ac (Aa 2) (Aa 3) ixD) (fC (.int 0)) ixD) (Aa 1) (eqS id)))
   (Ao (Aa 3))
   Au))
 (Ao (fC .non)))))
def Hg (E6:Fn):M Out:=
 (Ao (fIf (Aq (Ai E6 (Ab (Aa 0) Ad))) (AD Ad) (Ac (Aa 0) (fC (.int 1)) ixD)))
def Jt:M Out:=
 (Ao (Ac (Ac (Aa 0) (fC (.int 0)) ixD) (fC (.str "end")) (eqS id)))
def EE (BK EL JW:Fn):M Out:=
 (Af (AA 2 (Ac (Aa 0) (fC (.int 0)) ixD))
 (Af (ifS (Aq (Ac (Aa 2) (fC (.str "nothing")) (eqS id)))
   (Ho (Bh Ad))
   Au)
 (Af (ifS (Aq (Ac (Aa 2) (fC (.str "number")) (eqS id)))
   (Ho (D3 JW (Ab (Ac (Aa 1) (Ac (Aa 0) (fC (.int 1)) ixD) Dv) (Ab (Ai EL (Ab (Ac (Ac (Aa 0) (fC (.int 2)) ixD) (Ac (Aa 0) (fC (.int 1)) ixD) Dv) Ad)) Ad))))
   Au)
 (Af (ifS (Aq (Ac (Aa 2) (fC (.str "text")) (eqS id)))
   (Ho (bnd (AX (Bh (Ab (fB (Ab (Aa 1) Ad) A0) Ad))) λx=>bnd (AX (B6 1 [] (DX (Aa 1)) (AB 0) Gv (fB (Ab (Aa 0) Ad) JB))) λy=>Jm x y))
   Au)
 (Af (ifS (Aq (Ac (Aa 2) (fC (.str "list")) (eqS id)))
   (Af (EX 3 (Bh (Ab (fB (Ab (Aa 1) Ad) A0) Ad)))
 (Af (B8 (DX (Aa 1)) (AB 4)
   (ownM 3 Ec (Ab (AX (D3 BK (Ab (Ac (Aa 0) (fC (.int 1)) ixD) (Ab (Aa 4) Ad)))) Ad)))
 (GL 3)))
   Au)
 (Af (ifS (Aq (Ac (Aa 2) (fC (.str "pair")) (eqS id)))
   (Ho (bnd (AX (D3 BK (Ab (Ac (Aa 0) (fC (.int 1)) ixD) (Ab (Ac (Aa 1) (fC (.int 0)) ixD) Ad)))) λx=>bnd (AX (D3 BK (Ab (Ac (Aa 0) (fC (.int 2)) ixD) (Ab (Ac (Aa 1) (fC (.int 1)) ixD) Ad)))) λy=>Jm x y))
   Au)
 (Ho (bnd (AX (Bh (Ab (Ac (Aa 1) (fC (.int 1)) ixD) Ad))) λx=>bnd (AX (D3 BK (Ab (Ac (Ac (Aa 0) (fC (.int 1)) ixD) (Ac (Aa 1) (fC (.int 1)) ixD) ixD) (Ab (Ac (Aa 1) (fC (.int 2)) ixD) Ad)))) λy=>Jm x y))))))))
def Fp:M Out:=
 (Ao (Ac (Ac (fUn (Aa 0) JR) (fC (.int 7)) AW) (fC (.int 8)) Bc))
def ET (GZ:Fn):M Out:=
 (Ho (B6 1 [0,1] (G6 (Ab (fC (.int 1)) (Ab (Ac (Aa 1) (fC (.int 1)) AW) Ad))) (AB 0) Gv (Ac (Ai GZ (Ab (Aa 1) (Ab (Ac (Aa 2) (Aa 0) Dv) Ad))) (fC (.int 256)) Bl)))
def Ih:M Out:=
 (Ao (Ac (Aa 0) (Ac (fC (.int 8)) (Aa 1) DZ) NC))
def DA (KU MK MJ ML KW:Fn):M Out:=
 (Af (AA 3 (Ac (Aa 0) (fC (.int 0)) ixD))
 (Af (ifS (Aq (Ac (Aa 3) (fC (.str "nothing")) (eqS id)))
   (Ao (nxD (AD (Ab (fC .non) (Ab (Aa 2) Ad)))))
   Au)
 (Af (ifS (Aq (Ac (Aa 3) (fC (.str "number")) (eqS id)))
   (Ao (Ai KW (Ab (Aa 0) (Ab (Aa 1) (Ab (Aa 2) Ad)))))
   Au)
 (Af (ifS (Aq (Ac (Aa 3) (fC (.str "text")) (eqS id)))
   (Ao (Ai ML (Ab (Aa 0) (Ab (Aa 1) (Ab (Aa 2) Ad)))))
   Au)
 (Af (ifS (Aq (Ac (Aa 3) (fC (.str "list")) (eqS id)))
   (Ao (Ai MJ (Ab (Aa 0) (Ab (Aa 1) (Ab (Aa 2) Ad)))))
   Au)
 (Af (ifS (Aq (Ac (Aa 3) (fC (.str "pair")) (eqS id)))
   (Ao (Ai MK (Ab (Aa 0) (Ab (Aa 1) (Ab (Aa 2) Ad)))))
   Au)
 (Ao (Ai KU (Ab (Aa 0) (Ab (Aa 1) (Ab (Aa 2) Ad)))))))))))
def FQ:M Out:=
 (Af (ifS (Aq (Ac (Aa 1) (fB (Ab (Aa 0) Ad) A0) geA))
   (F1 "Short" (Ab (fC (.str "the bytes end within a value")) Ad))
   Au)
 (Ao (nxD (Ac (Aa 0) (Aa 1) ixD))))
def EC (Ew:Fn):M Out:=
 (Af (B9 3 (Ai Ew (Ab (Aa 1) (Ab (Aa 2) Ad))))
 (Af (ifS (Aq (Ac (Aa 3) (Aa 0) gtA))
   (DL "Broken" (Ab (Aa 2) (Ab (fC .non) Ad)))
   Au)
 (Ao (nxD (Aa 3)))))
def Df (GZ Ew EL:Fn):M Out:=
 (Af (AA 3 (Ac (Ac (Aa 0) (fC (.int 2)) ixD) (Ac (Aa 0) (fC (.int 1)) ixD) Dv))
 (Af (AA 4 (Ai EL (Ab (Aa 3) Ad)))
 (Af (AA 5 (fC (.int 0)))
 (Af (B8 (CP (Ab (Aa 4) Ad)) (AB 6)
   (Af (B9 5 (Fv (Ac (Aa 5) (fC (.int 256)) DZ) (Ai Ew (Ab (Aa 1) (Ab (Ac (Aa 2) (Aa 6) AW) Ad))) AW))
 (ifS (Aq (Ac (Aa 5) (Ai GZ (Ab (Aa 3) (Ab (Ac (Ac (Aa 4) (fC (.int 1)) Dv) (Aa 6) Dv) Ad))) gtA))
   (DL "Broken" (Ab (Ac (Aa 2) (Aa 6) AW) (Ab (fC .non) Ad)))
   Au)))
 (Ao (nxD (AD (Ab (Ac (Ac (Aa 0) (fC (.int 1)) ixD) (Aa 5) AW) (Ab (Ac (Aa 2) (Aa 4) AW) Ad)))))))))
def DU (Pd Dn:Fn):M Out:=
 (Af (B9 3 (Ai Dn (Ab (Ac (Aa 0) (fC (.int 1)) ixD) (Ab (Aa 1) (Ab (Aa 2) Ad)))))
 (Af (AA 4 (Ac (Aa 2) (fC (.int 1)) AW))
 (Af (AA 5 (fC (.str "")))
 (Af (B8 (CP (Ab (Aa 3) Ad)) (AB 6)
   (B9 5 (Fv (Aa 5) (Ai Pd (Ab (Aa 1) (Ab (Ac (Aa 4) (Aa 6) AW) Ad))) AW)))
 (Ao (nxD (AD (Ab (Aa 5) (Ab (Ac (Aa 4) (Aa 3) AW) Ad)))))))))
def FU (GY Ew:Fn):M Out:=
 (Af (B9 2 (Ai Ew (Ab (Aa 0) (Ab (Aa 1) Ad))))
 (Af (ifS (C9 (Aq (Ai GY (Ab (Aa 2) Ad))))
   (DL "Broken" (Ab (Aa 1) (Ab (fC .non) Ad)))
   Au)
 (Ao (nxD (Ac (fC (.str " !\"#$ &'()*+,-./0123456789:;<=>?@ABCDEFGHIJKLMNOPQRSTUVWXYZ[\\]^_`abcdefghijklmnopqrstuvwxyz{|}~")) (Ac (Aa 2) (fC (.int 32)) Dv) ixD)))))
def DS (BB Dn:Fn):M Out:=
 (Af (B9 3 (Ai Dn (Ab (Ac (Aa 0) (fC (.int 2)) ixD) (Ab (Aa 1) (Ab (Aa 2) Ad)))))
 (Af (AA 4 (Ac (Aa 2) (fC (.int 1)) AW))
 (Af (EX 5 (Bh Ad))
 (Af (B8 (CP (Ab (Aa 3) Ad)) (AB 6)
   (Af (B9 7 (Ai BB (Ab (Ac (Aa 0) (fC (.int 1)) ixD) (Ab (Aa 1) (Ab (Aa 4) Ad)))))
 (Af (ownM 5 Dt (Ab (Ac (Aa 7) (fC (.int 0)) ixD) Ad))
 (AA 4 (Ac (Aa 7) (fC (.int 1)) ixD)))))
 (Ao (nxD (AD (Ab (Aa 5) (Ab (Aa 4) Ad)))))))))
def DT (BB:Fn):M Out:=
 (Af (B9 3 (Ai BB (Ab (Ac (Aa 0) (fC (.int 1)) ixD) (Ab (Aa 1) (Ab (Aa 2) Ad)))))
 (Af (B9 4 (Ai BB (Ab (Ac (Aa 0) (fC (.int 2)) ixD) (Ab (Aa 1) (Ab (Ac (Aa 3) (fC (.int 1)) ixD) Ad)))))
 (Ao (nxD (AD (Ab (AD (Ab (Ac (Aa 3) (fC (.int 0)) ixD) (Ab (Ac (Aa 4) (fC (.int 0)) ixD) Ad))) (Ab (Ac (Aa 4) (fC (.int 1)) ixD) Ad)))))))
def De (BB Dn:Fn):M Out:=
 (Af (B9 3 (Ai Dn (Ab (Ac (fB (Ab (Ac (Aa 0) (fC (.int 1)) ixD) Ad) A0) (fC (.int 1)) Dv) (Ab (Aa 1) (Ab (Aa 2) Ad)))))
 (Af (B9 4 (Ai BB (Ab (Ac (Ac (Aa 0) (fC (.int 1)) ixD) (Aa 3) ixD) (Ab (Aa 1) (Ab (Ac (Aa 2) (fC (.int 1)) AW) Ad)))))
 (Ao (nxD (AD (Ab (AD (Ab (fC (.str "of")) (Ab (Aa 3) (Ab (Ac (Aa 4) (fC (.int 0)) ixD) Ad)))) (Ab (Ac (Aa 4) (fC (.int 1)) ixD) Ad)))))))
def EF (BK:Fn):M Out:=
 (Ao (Ac (AX (Bh (Ab (Aa 1) Ad))) (AX (D3 BK (Ab (Ac (Ac (Ac (Aa 0) (fC (.int 1)) ixD) (Aa 1) ixD) (fC (.int 1)) ixD) (Ab (Aa 2) Ad)))) AW))
def Dz:M Out:=
 (Af (ifS (Aq (Ac (Aa 1) (fB (Ab (Aa 0) Ad) A0) ltA))
   (Ao (Ac (Aa 0) (Aa 1) ixD))
   Au)
 (Ao (fC (.int 0))))
def Fo (Do Fe:Fn):M Out:=
 (Af (AA 2 (fC (.int 0)))
 (Af (EX 3 (Bh Ad))
 (Af (B8 (CP (Ab (fB (Ab (Aa 1) Ad) A0) Ad)) (AB 4)
   (Af (AA 5 (Ai Fe (Ab (Ac (Aa 0) (Aa 2) ixD) (Ab (Ac (Aa 1) (Aa 4) ixD) Ad))))
 (Af (ifS (Aq (Ac (Aa 5) (fC .non) isC))
   (Kn "NoTalk" (Ab (Aa 4) Ad))
   Au)
 (Af (AA 6 (AD (Ab (Aa 2) (Ab (Aa 5) Ad))))
 (Af (ownM 3 Dt (Ab (Aa 6) Ad))
 (AA 2 (Ai Do (Ab (Aa 0) (Ab (Aa 6) Ad)))))))))
 (Ao (nxD (Aa 3))))))
def Fq (Eb Gj:Fn):M Out:=
 (Af (AA 2 (Ey [("left",(Gk (Bh Ad))),("right",(Gk (Bh Ad)))]))
 (Af (B9 3 (Ai Gj (Ab (Aa 0) (Ab (Aa 1) Ad))))
 (Af (B8 (CP (Ab (fB (Ab (Aa 3) Ad) A0) Ad)) (AB 4)
   (Af (AA 5 (Ac (Aa 0) (Ac (Ac (Aa 3) (Aa 4) ixD) (fC (.int 0)) ixD) ixD))
 (BX (objM Ec (Ac (Aa 2) (Ac (Aa 5) (fC (.int 0)) ixD) AL) (Ab (Ai Eb (Ab (Aa 5) (Ab (Ac (Ac (Aa 3) (Aa 4) ixD) (fC (.int 1)) ixD) (Ab (Ac (Ac (Aa 1) (Aa 4) ixD) (fC (.int 2)) ixD) Ad)))) Ad)))))
 (Ao (nxD (AD (Ab (Ac (Aa 2) (fC (.str "left")) AL) (Ab (Ac (Aa 2) (fC (.str "right")) AL) Ad))))))))
def Ii (G0:Fn):M Out:=
 (Af (B9 3 (Ai G0 (Ab (Aa 0) (Ab (fC (.int 0)) (Ab (Ey [("left",(Aa 1)),("right",(Aa 2))]) (Ab (Ey [("left",(fC (.int 0))),("right",(fC (.int 0)))]) Ad))))))
 (Ao (nxD (AD (Ab (Ac (Aa 3) (fC (.int 0)) ixD) (Ab (Ac (Aa 3) (fC (.int 1)) ixD) (Ab (AD (Ab (Ac (Ac (Aa 3) (fC (.int 2)) ixD) (fC (.str "left")) AL) (Ab (Ac (Ac (Aa 3) (fC (.int 2)) ixD) (fC (.str "right")) AL) Ad))) Ad)))))))
def Fb (JX:Fn):M Out:=
 (Af (EX 4 (Bh Ad))
 (Af (AA 5 (Aa 1))
 (Af (AA 6 (fB (Ab (Aa 3) Ad) IF))
 (Af (Iy (Aq (Ac (Ac (Ac (Aa 0) (Aa 5) ixD) (fC (.int 0)) ixD) (Aa 2) (inS false)))
   (Af (AA 7 (Ac (Ac (Aa 0) (Aa 5) ixD) (fC (.int 0)) ixD))
 (Af (B9 8 (Ai JX (Ab (Ac (Aa 0) (Aa 5) ixD) (Ab (Ac (Aa 2) (Aa 7) AL) (Ab (Ac (Aa 6) (Aa 7) AL) Ad)))))
 (Af (ifS (Aq (Ac (Aa 8) (fC .non) isC))
   (ret .brk)
   Au)
 (Af (ownM 4 Dt (Ab (Ac (Aa 8) (fC (.int 0)) ixD) Ad))
 (Af (AA 5 (Ac (Aa 8) (fC (.int 1)) ixD))
 (Ce (Ac (Aa 8) (fC (.int 2)) ixD) (E3 (Aa 6) (Aa 7)))))))))
 (Ao (nxD (AD (Ab (Aa 4) (Ab (Aa 5) (Ab (Aa 6) Ad))))))))))
def EU (BB:Fn):M Out:=
 (Af (ifS (Aq (Ac (Aa 2) (fB (Ab (Aa 1) Ad) A0) geA))
   (Ao (nxD (fC .non)))
   Au)
 (Af (ifS (Aq (Ac (Ac (Aa 1) (Aa 2) ixD) (fB (Ab (Ac (Aa 0) (fC (.int 1)) ixD) Ad) A0) geA))
   (DL "Broken" (Ab (Aa 2) (Ab (Ac (Aa 0) (fC (.int 0)) ixD) Ad)))
   Au)
 (Af (AA 3 (Ac (Ac (Aa 0) (fC (.int 1)) ixD) (Ac (Aa 1) (Aa 2) ixD) ixD))
 (Af (EY (B9 4 (Ai BB (Ab (Ac (Aa 3) (fC (.int 1)) ixD) (Ab (Aa 1) (Ab (Ac (Aa 2) (fC (.int 1)) AW) Ad))))) (hNo "Short" (Ao (nxD (fC .non))) (hAs "Broken" 5 (DL "Broken" (Ab (bnd (Aa 5) (HG "at")) (Ab (Ac (Aa 0) (fC (.int 0)) ixD) Ad))) Tr)))
 (Ao (nxD (AD (Ab (AD (Ab (Ac (Aa 0) (fC (.int 0)) ixD) (Ab (Ac (Aa 3) (fC (.int 0)) ixD) (Ab (Ac (Aa 4) (fC (.int 0)) ixD) Ad)))) (Ab (Ac (Aa 3) (fC (.int 2)) ixD) (Ab (Ac (Aa 4) (fC (.int 1)) ixD) Ad))))))))))
def DY (Do Gj:Fn):M Out:=
 (Af (B9 2 (Ai Gj (Ab (Aa 0) (Ab (Aa 1) Ad))))
 (Af (ifS (Aq (Ac (fB (Ab (Aa 2) Ad) A0) (fC (.int 0)) (eqS id)))
   (Ao (nxD (fC (.int 0))))
   Au)
 (Ao (nxD (Ai Do (Ab (Aa 0) (Ab (Ac (Aa 2) (fUn (fC (.int 1)) Ng) ixD) Ad)))))))
def ES (E6:Fn):M Out:=
 (Ao (AX (B6 1 [] (DX (Aa 0)) (AB 0) Gv (fIf (Aq (Ai E6 (Ab (Aa 0) Ad))) (Aa 0) (AD (Ab (Ac (Aa 0) (fC (.int 0)) ixD) (Ab (AX (fBF (Ab (Ac (Aa 0) (fC (.int 1)) ixD) Ad) Hf)) Ad)))))))
def EB (JV:Fn):M Out:=
 (Af (B4 "grammar" (Ai JV (Ab (Aa 1) Ad)) (Aa 0))
 (Af (B4 "standing" (fC (.int 0)) (Aa 0))
 (Af (B4 "wires" (E8 []) (Aa 0))
 (Af (B4 "places" (E8 []) (Aa 0))
 (B8 (DX (Aa 2)) (AB 3)
   (Af (Ce (Gk (Bh Ad)) (E3 (Cg "wires" (Aa 0)) (Aa 3)))
 (Ce (fC (.int 0)) (E3 (Cg "places" (Aa 0)) (Aa 3)))))))))
def CZ:M Out:=
 (Ao (Cg "standing" (Aa 0)))
def Fh (G0:Fn):M Out:=
 (Af (BX (objM Ec (Ac (Cg "wires" (Aa 0)) (Aa 1) AL) (Ab (Aa 2) Ad)))
 (Af (B9 3 (Ai G0 (Ab (Cg "grammar" (Aa 0)) (Ab (Cg "standing" (Aa 0)) (Ab (Cg "wires" (Aa 0)) (Ab (Cg "places" (Aa 0)) Ad))))))
 (Af (B4 "standing" (Ac (Aa 3) (fC (.int 1)) ixD) (Aa 0))
 (Af (B4 "places" (Ac (Aa 3) (fC (.int 2)) ixD) (Aa 0))
 (Ao (nxD (Ac (Aa 3) (fC (.int 0)) ixD)))))))
def TL:M Out:=
 (Iy (Aq (fC (.bl true)))
   Au)
def FS:M Out:=
 (Ao (fIf (Aq (Ac (Aa 0) (fC (.str "left")) (eqS id))) (fC (.str "right")) (fC (.str "left"))))
def Ju (E6 Ex:Fn):M Out:=
 (Af (EY (B9 2 (Fv (Aa 0) (Ai Ex (Ab (Aa 0) (Ab (Aa 1) Ad))) ixD)) (hAs "NoTalk" 3 (Ao (AD (Ab (fC (.str "broke")) (Ab (bnd (Aa 3) (HG "at")) (Ab (Ac (Ac (Aa 1) (bnd (Aa 3) (HG "at")) ixD) (fC (.int 0)) ixD) Ad))))) Tr))
 (Ao (fIf (Aq (Ai E6 (Ab (Aa 2) Ad))) (AD (Ab (fC (.str "over")) Ad)) (AD (Ab (fC (.str "turn")) (Ab (Ac (Aa 2) (fC (.int 0)) ixD) Ad))))))
def Eg:M Out:=
 (Af (ifS (Aq (Ac (Aa 0) (Ac (fC (.int 10)) (fC (.int 18)) No) geA))
   (Ao (Aa 0))
   Au)
 (Af (AA 2 (Ac (Ac (Ac (Ac (Ac (Aa 0) (fC (.int 48271)) DZ) (Ac (Ac (fC (.int 7919)) (Aa 1) DZ) (Aa 1) DZ) AW) (Ac (fC (.int 104729)) (Aa 1) DZ) AW) (fC (.int 13)) AW) (fC (.int 2147483647)) Bl))
 (Af (AA 2 (Ac (Ac (Aa 2) (Aa 2) DZ) (fC (.int 2147483629)) Bl))
 (Ao (Ac (Ac (Ac (Ac (Aa 2) (Aa 2) DZ) (Aa 2) DZ) (Ac (fC (.int 1000003)) (Aa 2) DZ) AW) (Aa 0) AW)))))
def Cj (Cs:Fn):M Out:=
 (Af (AA 2 (Ac (Aa 0) (fC (.int 7)) Bl))
 (Af (AA 3 (Ac (Aa 0) (fC (.int 7)) Bc))
 (Af (ifS (Aq (Ac (Aa 2) (fC (.int 0)) (eqS id)))
   (Ao (AD (Ab (AD (Ab (fC (.str "nothing")) Ad)) (Ab (Aa 3) Ad))))
   Au)
 (Af (ifS (fOr (Aq (Ac (Aa 2) (fC (.int 3)) ltA)) (Jo (Aq (Ac (Aa 2) (fC (.int 3)) gtA)) (Aq (Ac (Aa 1) (fC (.int 0)) (eqS id)))))
   (Af (AA 4 (Ac (Ac (Aa 3) (fC (.int 9)) Bl) (fC (.int 4)) Dv))
 (Ao (AD (Ab (AD (Ab (fC (.str "number")) (Ab (Aa 4) (Ab (Ac (Aa 4) (Ac (AX (Bh (Ab (fC (.int 0)) (Ab (fC (.int 3)) (Ab (fC (.int 255)) (Ab (fC (.int 256)) (Ab (fC (.int 70000)) Ad))))))) (Ac (Ac (Aa 3) (fC (.int 9)) Bc) (fC (.int 5)) Bl) ixD) AW) Ad)))) (Ab (Ac (Aa 3) (fC (.int 45)) Bc) Ad)))))
   Au)
 (Af (ifS (Aq (Ac (Aa 2) (fC (.int 3)) (eqS id)))
   (Ao (AD (Ab (AD (Ab (fC (.str "text")) (Ab (Ac (Aa 3) (fC (.int 4)) Bl) Ad))) (Ab (Ac (Aa 3) (fC (.int 4)) Bc) Ad))))
   Au)
 (Af (Ce (Ai Cs (Ab (Aa 3) (Ab (Ac (Aa 1) (fC (.int 1)) Dv) Ad))) (unS 2 (AN (AB 5) (AN (AB 3) B2))))
 (Af (ifS (Aq (Ac (Aa 2) (fC (.int 4)) (eqS id)))
   (Ao (AD (Ab (AD (Ab (fC (.str "list")) (Ab (Aa 5) (Ab (Ac (Aa 3) (fC (.int 4)) Bl) Ad)))) (Ab (Ac (Aa 3) (fC (.int 4)) Bc) Ad))))
   Au)
 (Af (Ce (Ai Cs (Ab (Aa 3) (Ab (Ac (Aa 1) (fC (.int 1)) Dv) Ad))) (unS 2 (AN (AB 6) (AN (AB 3) B2))))
 (Ao (AD (Ab (Ac (AX (Bh (Ab (AD (Ab (fC (.str "pair")) (Ab (Aa 5) (Ab (Aa 6) Ad)))) (Ab (AD (Ab (fC (.str "choice")) (Ab (AD (Ab (Aa 5) (Ab (Aa 6) Ad))) Ad))) Ad)))) (Ac (Aa 2) (fC (.int 2)) Bl) ixD) (Ab (Aa 3) Ad))))))))))))
def Ei (Ct:Fn):M Out:=
 (Af (AA 2 (Ac (Aa 0) (fC (.int 0)) ixD))
 (Af (ifS (Aq (Ac (Aa 2) (fC (.str "nothing")) (eqS id)))
   (Ao (AD (Ab (fC .non) (Ab (Aa 1) Ad))))
   Au)
 (Af (ifS (Aq (Ac (Aa 2) (fC (.str "number")) (eqS id)))
   (Ao (AD (Ab (Ac (Ac (Aa 0) (fC (.int 1)) ixD) (Ac (Aa 1) (Ac (Ac (Ac (Aa 0) (fC (.int 2)) ixD) (Ac (Aa 0) (fC (.int 1)) ixD) Dv) (fC (.int 1)) AW) Bl) AW) (Ab (Ac (Aa 1) (Ac (Ac (Ac (Aa 0) (fC (.int 2)) ixD) (Ac (Aa 0) (fC (.int 1)) ixD) Dv) (fC (.int 1)) AW) Bc) Ad))))
   Au)
 (Af (ifS (Aq (Ac (Aa 2) (fC (.str "text")) (eqS id)))
   (Af (AA 3 (Ac (Aa 1) (Ac (Ac (Aa 0) (fC (.int 1)) ixD) (fC (.int 1)) AW) Bl))
 (Af (AA 4 (Ac (Aa 1) (Ac (Ac (Aa 0) (fC (.int 1)) ixD) (fC (.int 1)) AW) Bc))
 (Ao (AD (Ab (joinM (fC (.str "")) (Ab (AX (B6 1 [4] (CP (Ab (Aa 3) Ad)) (AB 0) Gv (Ac (fC (.str " a~z")) (Ac (Ac (Aa 1) (Ac (AX (Bh (Ab (fC (.int 1)) (Ab (fC (.int 4)) (Ab (fC (.int 16)) Ad))))) (Aa 0) ixD) Bc) (fC (.int 4)) Bl) ixD))) Ad)) (Ab (Ac (Aa 4) (fC (.int 64)) Bc) Ad))))))
   Au)
 (Af (ifS (Aq (Ac (Aa 2) (fC (.str "list")) (eqS id)))
   (Af (AA 3 (Ac (Aa 1) (Ac (Ac (Aa 0) (fC (.int 2)) ixD) (fC (.int 1)) AW) Bl))
 (Af (AA 4 (Ac (Aa 1) (Ac (Ac (Aa 0) (fC (.int 2)) ixD) (fC (.int 1)) AW) Bc))
 (Af (EX 5 (Bh Ad))
 (Af (B8 (CP (Ab (Aa 3) Ad)) (AB 6)
   (Af (Ce (Ai Ct (Ab (Ac (Aa 0) (fC (.int 1)) ixD) (Ab (Aa 4) Ad))) (unS 2 (AN (AB 7) (AN (AB 4) B2))))
 (ownM 5 Dt (Ab (Aa 7) Ad))))
 (Ao (AD (Ab (Aa 5) (Ab (Aa 4) Ad))))))))
   Au)
 (Af (ifS (Aq (Ac (Aa 2) (fC (.str "pair")) (eqS id)))
   (Af (Ce (Ai Ct (Ab (Ac (Aa 0) (fC (.int 1)) ixD) (Ab (Aa 1) Ad))) (unS 2 (AN (AB 7) (AN (AB 4) B2))))
 (Af (Ce (Ai Ct (Ab (Ac (Aa 0) (fC (.int 2)) ixD) (Ab (Aa 4) Ad))) (unS 2 (AN (AB 8) (AN (AB 4) B2))))
 (Ao (AD (Ab (AD (Ab (Aa 7) (Ab (Aa 8) Ad))) (Ab (Aa 4) Ad))))))
   Au)
 (Af (AA 9 (Ac (Aa 1) (fB (Ab (Ac (Aa 0) (fC (.int 1)) ixD) Ad) A0) Bl))
 (Af (Ce (Ai Ct (Ab (Ac (Ac (Aa 0) (fC (.int 1)) ixD) (Aa 9) ixD) (Ab (Ac (Aa 1) (fB (Ab (Ac (Aa 0) (fC (.int 1)) ixD) Ad) A0) Bc) Ad))) (unS 2 (AN (AB 7) (AN (AB 4) B2))))
 (Ao (AD (Ab (AD (Ab (fC (.str "of")) (Ab (Aa 9) (Ab (Aa 7) Ad)))) (Ab (Aa 4) Ad))))))))))))
def Eh (Cs LV:Fn):M Out:=
 (Af (AA 3 (Ai LV (Ab (Aa 0) (Ab (Aa 1) Ad))))
 (Af (ifS (Jo (Aq (Ac (Ac (Aa 3) (fC (.int 5)) Bl) (fC (.int 0)) (eqS id))) (fOr (Aq (Ac (Aa 1) (fC (.int 0)) gtA)) (Aq (Ac (Ac (Ac (Aa 3) (fC (.int 5)) Bc) (fC (.int 4)) Bl) (fC (.int 0)) (eqS id)))))
   (Ao (AD (Ab (fC (.str "end")) Ad)))
   Au)
 (Af (EX 4 (Bh Ad))
 (Af (AA 5 (Ac (AX (Bh (Ab (fC (.str "left")) (Ab (fC (.str "right")) Ad)))) (Ac (Ac (Aa 3) (fC (.int 5)) Bc) (fC (.int 2)) Bl) ixD))
 (Af (AA 6 (Ac (fC (.int 1)) (Ac (Ac (Aa 3) (fC (.int 10)) Bc) (fC (.int 3)) Bl) AW))
 (Af (AA 3 (Ac (Aa 3) (fC (.int 30)) Bc))
 (Af (B8 (DX (fSl (AX (Bh (Ab (fC (.str "go")) (Ab (fC (.str "no")) (Ab (fC (.str "ask")) Ad))))) fNo (D8 (Aa 6)) DO)) (AB 7)
   (Af (Ce (Ai Cs (Ab (Aa 3) (Ab (fC (.int 2)) Ad))) (unS 2 (AN (AB 8) (AN (AB 3) B2))))
 (Af (ownM 4 Dt (Ab (AD (Ab (Aa 7) (Ab (Aa 8) (Ab (Ac (Aa 3) (Aa 2) Bl) Ad)))) Ad))
 (AA 3 (Ac (Aa 3) (Aa 2) Bc)))))
 (Ao (AD (Ab (Aa 5) (Ab (Aa 4) Ad)))))))))))
def DH (LX:Fn):M Out:=
 (Ao (AX (B6 2 [0] (Pj (Ab (Aa 0) Ad)) (unS 2 (AN (AB 0) (AN (AB 1) B2))) Gv (Ai LX (Ab (Aa 1) (Ab (Aa 0) (Ab (fB (Ab (Aa 2) Ad) A0) Ad)))))))
def Go (KP Ct Dy:Fn):M Out:=
 (Af (AA 5 (Bj "Lasting" Dy (Ac (Aa 0) (Aa 2) AL) (ret [])))
 (ifS (Aq (Ac (Ac (Ac (Aa 1) (Aa 5) ixD) (fC (.int 0)) ixD) (Aa 2) (eqS id)))
   (Af (Ce (Ac (Ac (Ac (Aa 1) (Aa 5) ixD) (fC (.int 1)) ixD) (Ac (Aa 3) (fB (Ab (Ac (Ac (Aa 1) (Aa 5) ixD) (fC (.int 1)) ixD) Ad) A0) Bl) ixD) (unS 3 (AN (AB 6) (AN (AB 7) (AN (AB 8) B2)))))
 (Af (AA 9 (Ac (Ai Ct (Ab (Aa 7) (Ab (Ac (Aa 3) (fC (.int 3)) Bc) Ad))) (fC (.int 0)) ixD))
 (Af (Ce (Ac (Ac (Ac (Aa 4) (fC (.str "lying")) AL) (Aa 2) AL) (Bj "Lasting" (Dg KP) (Ac (Aa 0) (Aa 2) AL) (Ab (Aa 6) (Ab (Aa 9) Ad))) AW) (E3 (Ac (Aa 4) (fC (.str "lying")) AL) (Aa 2)))
 (BX (objM Dt (Ac (Aa 4) (fC (.str "talk")) AL) (Ab (AD (Ab (Aa 2) (Ab (Aa 6) (Ab (Aa 9) Ad)))) Ad))))))
   Au))
def ED (JT:Fn):M Out:=
 (Af (AA 5 (Ac (Ac (Aa 4) (fC (.str "lying")) AL) (Aa 2) AL))
 (Af (AA 6 (Ac (AX (Bh (Ab (fB (Ab (Aa 5) Ad) A0) (Ab (fC (.int 1)) (Ab (Ac (Ac (Aa 3) (fC (.int 3)) Bc) (Ac (fB (Ab (Aa 5) Ad) A0) (fC (.int 1)) AW) Bl) Ad))))) (Ac (Aa 3) (fC (.int 3)) Bl) ixD))
 (Af (AA 7 (Bj "Lasting" (Dg JT) (Ac (Aa 0) (Aa 1) AL) (Ab (fSl (Aa 5) fNo (D8 (Aa 6)) DO) Ad)))
 (Af (Ce (fSl (Aa 5) (D8 (Aa 6)) fNo DO) (E3 (Ac (Aa 4) (fC (.str "lying")) AL) (Aa 2)))
 (Ce (Ac (Ac (Ac (Aa 4) (fC (.str "told")) AL) (Aa 1) AL) (Aa 7) AW) (E3 (Ac (Aa 4) (fC (.str "told")) AL) (Aa 1)))))))
def FR (D2 B0:Fn):M Out:=
 (Af (AA 2 (Bj "Lasting" B0 (Ac (Aa 0) (fC (.str "left")) AL) (ret [])))
 (Af (AA 3 (Bj "Lasting" B0 (Ac (Aa 0) (fC (.str "right")) AL) (ret [])))
 (Af (Ce (Bj "Lasting" (Dg D2) (Ac (Aa 0) (fC (.str "left")) AL) (Ab (Aa 3) Ad)) (E3 (Ac (Aa 1) (fC (.str "lying")) AL) (fC (.str "left"))))
 (Ce (Bj "Lasting" (Dg D2) (Ac (Aa 0) (fC (.str "right")) AL) (Ab (Aa 2) Ad)) (E3 (Ac (Aa 1) (fC (.str "lying")) AL) (fC (.str "right")))))))
def Gn:M Out:=
 (Ao (AX (HS 1 [1] (Pk (Aa 0)) (AB 0) (Aq (Ac (Ac (Aa 0) (fC (.int 0)) ixD) (Aa 1) (eqS id))) (Aa 0))))
def ER (E1:Fn):M Out:=
 (Af (B8 (DX (AX (Bh (Ab (AD (Ab (fC (.str "left")) (Ab (fC (.str "right")) Ad))) (Ab (AD (Ab (fC (.str "right")) (Ab (fC (.str "left")) Ad))) Ad))))) (unS 2 (AN (AB 1) (AN (AB 2) B2)))
   (Af (AA 3 (Ai E1 (Ab (Ac (Aa 0) (fC (.str "talk")) AL) (Ab (Aa 2) Ad))))
 (ifS (Aq (Ac (Ac (Ac (Aa 0) (fC (.str "told")) AL) (Aa 1) AL) (fSl (Aa 3) fNo (D8 (fB (Ab (Ac (Ac (Aa 0) (fC (.str "told")) AL) (Aa 1) AL) Ad) A0)) DO) (eqS λb=>!b)))
   (Ao (fC (.bl false)))
   Au)))
 (Ao (fC (.bl true))))
def Ef (Qq Pe B0 NN Dy Ex E1 FH:Fn):M Out:=
 (Af (B8 (DX (AX (Bh (Ab (AD (Ab (fC (.str "left")) (Ab (fC (.str "right")) Ad))) (Ab (AD (Ab (fC (.str "right")) (Ab (fC (.str "left")) Ad))) Ad))))) (unS 2 (AN (AB 3) (AN (AB 4) B2)))
   (BX (Ai FH (Ab (Aa 0) (Ab (Aa 3) (Ab (Aa 4) (Ab (fC (.int 0)) (Ab (Aa 2) Ad))))))))
 (Af (AA 5 (Ac (Aa 2) (fC (.str "talk")) AL))
 (Af (ifS (fOr (Aq (Ac (Ac (Ac (Aa 2) (fC (.str "told")) AL) (fC (.str "left")) AL) (Ai E1 (Ab (Aa 5) (Ab (fC (.str "right")) Ad))) (eqS λb=>!b))) (Aq (Ac (Ac (Ac (Aa 2) (fC (.str "told")) AL) (fC (.str "right")) AL) (Ai E1 (Ab (Aa 5) (Ab (fC (.str "left")) Ad))) (eqS λb=>!b))))
   (Ao (fC (.bl false)))
   Au)
 (Af (AA 6 (Ai (Dg Ex) (Ab (Aa 1) (Ab (Aa 5) Ad))))
 (Af (ifS (fOr (Aq (Ac (Bj "Lasting" Dy (Ac (Aa 0) (fC (.str "left")) AL) (ret [])) (Aa 6) (eqS λb=>!b))) (Aq (Ac (Bj "Lasting" Dy (Ac (Aa 0) (fC (.str "right")) AL) (ret [])) (Aa 6) (eqS λb=>!b))))
   (Ao (fC (.bl false)))
   Au)
 (Af (Ce (Ai (Dg NN) (Ab (Aa 1) (Ab (Aa 5) Ad))) (unS 2 (AN (AB 7) (AN (AB 8) B2))))
 (Af (ifS (fOr (Aq (Ac (Bj "Lasting" B0 (Ac (Aa 0) (fC (.str "left")) AL) (ret [])) (fB (Ab (Aa 8) Ad) A0) (eqS λb=>!b))) (Aq (Ac (Bj "Lasting" B0 (Ac (Aa 0) (fC (.str "right")) AL) (ret [])) (fB (Ab (Aa 7) Ad) A0) (eqS λb=>!b))))
   (Ao (fC (.bl false)))
   Au)
 (Af (ifS (Aq (Ac (Ac (Ai (Dg Pe) (Ab (Aa 1) (Ab (Aa 7) (Ab (Aa 8) Ad)))) (fC (.int 0)) ixD) (Aa 5) (eqO λb=>!b)))
   (Ao (fC (.bl false)))
   Au)
 (Ao (Ac (Ai Qq (Ab (Aa 1) (Ab (Aa 5) Ad))) (Ac (AX (Bh (Ab (AD (Ab (fC (.str "turn")) (Ab (Ac (Ac (Aa 1) (Aa 6) ixD) (fC (.int 0)) ixD) Ad))) (Ab (AD (Ab (fC (.str "over")) Ad)) Ad)))) (fB (Ab (Ac (Ac (Ac (Aa 1) (Aa 6) ixD) (fC (.int 0)) ixD) (fC (.str "end")) (eqS id)) Ad) K6) ixD) (eqS id)))))))))))
def Ig (Jk KQ NM FH ME EI F9 JU:Fn):M Out:=
 (Af (AA 1 (Ai JU (Ab (AX (B6 1 [0] (CP (Ab (Ac (fC (.int 1)) (Ac (Ai F9 (Ab (Aa 0) (Ab (fC (.int 0)) Ad))) (fC (.int 6)) Bl) AW) Ad)) (AB 0) Gv (Ai F9 (Ab (Aa 1) (Ab (Ac (fC (.int 1)) (Aa 0) AW) Ad))))) Ad)))
 (Af (AA 2 (Ey [("left",(Ka "Lasting" EI (Ab (AX (fBF (Ab (Aa 1) Ad) Hf)) (Ab (fC (.str "left")) Ad)))),("right",(Ka "Lasting" EI (Ab (AX (fBF (Ab (Aa 1) Ad) Hf)) (Ab (fC (.str "right")) Ad))))]))
 (Af (AA 3 (Ey [("lying",(Ey [("left",(AX (Bh Ad))),("right",(AX (Bh Ad)))])),("talk",(Gk (Bh Ad))),("told",(Ey [("left",(AX (Bh Ad))),("right",(AX (Bh Ad)))]))]))
 (Af (B8 (DX (fSl (Aa 0) (D8 (fC (.int 8))) (D8 (fC (.int 56))) DO)) (AB 4)
   (Af (AA 5 (Ac (AX (Bh (Ab (fC (.str "left")) (Ab (fC (.str "right")) Ad)))) (Ac (Aa 4) (fC (.int 2)) Bl) ixD))
 (Af (AA 6 (Ac (AX (Bh (Ab (fC (.str "right")) (Ab (fC (.str "left")) Ad)))) (Ac (Aa 4) (fC (.int 2)) Bl) ixD))
 (Af (ifS (Aq (Ac (Ac (Ac (Aa 4) (fC (.int 2)) Bc) (fC (.int 5)) Bl) (fC (.int 2)) ltA))
   (BX (Ai NM (Ab (Aa 2) (Ab (Aa 1) (Ab (Aa 5) (Ab (Ac (Aa 4) (fC (.int 10)) Bc) (Ab (Aa 3) Ad)))))))
   (ifS (Aq (Ac (Ac (Ac (Aa 4) (fC (.int 2)) Bc) (fC (.int 5)) Bl) (fC (.int 4)) ltA))
   (BX (Ai FH (Ab (Aa 2) (Ab (Aa 5) (Ab (Aa 6) (Ab (Ac (Aa 4) (fC (.int 10)) Bc) (Ab (Aa 3) Ad)))))))
   (BX (Ai ME (Ab (Aa 2) (Ab (Aa 3) Ad))))))
 (ifS (C9 (Aq (Ai KQ (Ab (Aa 3) Ad))))
   (Ao (fC (.bl false)))
   Au)))))
 (Ao (Ai Jk (Ab (Aa 2) (Ab (Aa 1) (Ab (Aa 3) Ad)))))))))
def GF (C8:Fn):M Out:=
 (BX (Ai C8 (Ab (fC (.int 0)) Ad)))
def Fj (Fd HI:Fn):M Out:=
 (Af (BX (Ai HI (Ab (Aa 0) (Ab (Aa 1) (Ab (AD (Ab (Ai Fd (Ab (Aa 2) Ad)) Ad)) Ad)))))
 (B4 "side" (Aa 2) (Aa 0)))
def Pz (Fc:Fn):M Out:=
 (Ao (Bj "Lasting" Fc (Aa 0) (Ab (Aa 1) (Ab (Aa 2) Ad))))
def NP (EK:Fn):M Out:=
 (Ao (Bj "Lasting" EK (Aa 0) (Ab (Aa 1) Ad)))
def FP (Eb Do Fe:Fn):M Out:=
 (Af (AA 3 (Ac (Cg "grammar" (Aa 0)) (Cg "standing" (Aa 0)) ixD))
 (Af (AA 4 (Ai Fe (Ab (Aa 3) (Ab (AD (Ab (Cg "side" (Aa 0)) (Ab (Aa 1) (Ab (Aa 2) Ad)))) Ad))))
 (Af (ifS (Aq (Ac (Aa 4) (fC .non) isC))
   (Kn "NoTalk" (Ab (fC (.int 0)) Ad))
   Au)
 (Af (B4 "standing" (Ai Do (Ab (Cg "grammar" (Aa 0)) (Ab (AD (Ab (Cg "standing" (Aa 0)) (Ab (Aa 4) Ad))) Ad))) (Aa 0))
 (Ao (nxD (Ai Eb (Ab (Aa 3) (Ab (Aa 4) (Ab (Aa 2) Ad))))))))))
def Fk (Fd KO:Fn):M Out:=
 (Ao (Bj "Lasting" KO (Aa 0) (Ab (Ai Fd (Ab (Cg "side" (Aa 0)) Ad)) (Ab (Aa 1) Ad))))
def Lb (C8:Fn):M Out:=
 (BX (Ai C8 (Ab (fC (.int 1)) Ad)))
def La (C8:Fn):M Out:=
 (BX (Ai C8 (Ab (fC (.int 2)) Ad)))
def HA (C8:Fn):M Out:=
 (BX (Ai C8 (Ab (fC (.int 3)) Ad)))
def Js (C8:Fn):M Out:=
 (BX (Ai C8 (Ab (fC (.int 4)) Ad)))
def Ee (Jj:Fn):M Out:=
 (Af (BX (Ai Jj (Ab (Aa 0) (Ab (Aa 1) (Ab (Aa 2) Ad)))))
 (Af (B4 "said" (Gk (Bh Ad)) (Aa 0))
 (Af (B4 "taken" (fC (.int 0)) (Aa 0))
 (B4 "handed" (fC (.int 0)) (Aa 0)))))
def Fi (Fc:Fn):M Out:=
 (Af (B9 3 (Bj "Lasting" Fc (Aa 0) (Ab (Aa 1) (Ab (Aa 2) Ad))))
 (Af (BX (objM Ec (Cg "said" (Aa 0)) (Ab (Aa 3) Ad)))
 (Ao (nxD (Aa 3)))))
def EQ (EK:Fn):M Out:=
 (Af (B9 2 (Bj "Lasting" EK (Aa 0) (Ab (Aa 1) Ad)))
 (Af (B4 "taken" (Ac (Cg "taken" (Aa 0)) (fB (Ab (Aa 1) Ad) A0) AW) (Aa 0))
 (Ao (nxD (Aa 2)))))
def Ci:M Out:=
 (Ao (Cg "taken" (Aa 0)))
def C1 (BI:Fn):M Out:=
 (Af (ifS (C9 (Aq (Ai BI (Ab (Aa 1) (Ab (Cg "handed" (Aa 0)) (Ab (fB (Ab (Cg "said" (Aa 0)) Ad) A0) Ad))))))
   (F1 "NoName" (Ab (fC (.str "no such ticket can be handed now")) Ad))
   Au)
 (Af (B4 "handed" (Aa 1) (Aa 0))
 (Ao (nxD (fSl (Cg "said" (Aa 0)) (D8 (Aa 1)) fNo Lo)))))
end LW
namespace F2
open PySem L2
def W {α:Type}(m:M α)(t:T)(P:α->T->Prop):Prop:=∃a t',m t=some (a,t')/\P a t'
def Wf (g:Fn)(ds:List D)(S:List Ob)(P:D->List Ob->Prop):Prop:=∃r S',g ds S=some (r,S')/\P r S'
theorem W.mono {α:Type}{m:M α}{t:T}{P Q:α->T->Prop}(h:W m t P)(i:∀a t',P a t'->Q a t'):W m t Q:=by
 obtain ⟨a,t',e,p⟩:=h;exact ⟨a,t',e,i a t' p⟩
theorem Wf.mono {g:Fn}{ds:List D}{S:List Ob}{P Q:D->List Ob->Prop}(h:Wf g ds S P)(i:∀r S',P r S'->Q r S'):Wf g ds S Q:=by
 obtain ⟨a,t',e,p⟩:=h;exact ⟨a,t',e,i a t' p⟩
section
variable {α β:Type}
theorem Av {m:M α}{t:T}{P:α->T->Prop}{a:α}{t':T}(e:m t=some (a,t')):W m t P↔P a t':=by
 constructor
 ·rintro ⟨a',t1,e',p⟩;rw [e] at e';cases e';exact p
 ·exact λp=>⟨a,t',e,p⟩
theorem Ev {m:M α}{t:T}{P:α->T->Prop}(e:m t=none):W m t P↔False:=by
 constructor
 ·rintro ⟨a',t1,e',p⟩;rw [e] at e';cases e'
 ·exact False.elim
@[simp] theorem W_ret {a:α} {t:T} {P:α->T->Prop}:W (ret a) t P↔P a t:=Av rfl
@[simp] theorem W_fail {t:T} {P:α->T->Prop}:W (fail:M α) t P↔False:=Ev rfl
@[simp] theorem W_bnd {f:M α} {g:α->M β} {t:T} {P:β->T->Prop}:W (bnd f g) t P↔W f t λa t1=>W (g a) t1 P:=by
 constructor
 ·rintro ⟨b,t',e,p⟩;obtain ⟨a,t1,e1,e2⟩:=Ae e;exact ⟨a,t1,e1,b,t',e2,p⟩
 ·rintro ⟨a,t1,e1,b,t',e2,p⟩;exact ⟨b,t',by unfold bnd;rw [e1];exact e2,p⟩
@[simp] theorem UP {c:Prop} [Decidable c] {f g:M α} {t:T} {P:α->T->Prop}:W (if c then f else g) t P↔if c then W f t P else W g t P:=by split <;> rfl
@[simp] theorem eh {n:Nat} {a:α} {t:T} {P:α->T->Prop}:W (lim n a) t P↔n<=LIM/\P a t:=by
 unfold lim;constructor
 ·rintro ⟨a',t',e,p⟩
  split at e
  ·cases e;exact ⟨by assumption,p⟩
  ·cases e
 ·rintro ⟨h,p⟩;exact ⟨a,t,by simp only [h,if_true],p⟩
end
variable {t:T}{env:List (Option Sl)}{S:List Ob}
@[simp] theorem W_fC {d:D} {P:D->T->Prop}:W (fC d) t P↔P d t:=Av rfl
@[simp] theorem Qo {i:Nat} {P:D->T->Prop}:W (Aa i) t P↔match t.env[i]? with
 | some (some (.val d))=>P d t
 | some (some (.own ds))=>P (.lst ds) ⟨t.env.set i (some (.val (.lst ds))),t.S⟩
 | _=>False:=by
 cases e:t.env[i]? with
 | none=>exact Ev (by unfold Aa;simp [e])
 | some o=>
   cases o with
   | none=>exact Ev (by unfold Aa;simp [e])
   | some sl=>
     cases sl with
     | val d=>exact Av (by unfold Aa;simp [e])
     | own ds=>exact Av (by unfold Aa;simp [e])
@[simp] theorem W_fBin {f g:M D} {h:D->D->M D} {P:D->T->Prop}:W (Ac f g h) t P↔W f t λx t1=>W g t1 λy t2=>W (h x y) t2 P:=by simp [Ac]
@[simp] theorem W_fUn {f:M D} {h:D->M D} {P:D->T->Prop}:W (fUn f h) t P↔W f t λx t1=>W (h x) t1 P:=by simp [fUn]
@[simp] theorem W_toB {b:Bool} {P:Bool->T->Prop}:W (toB (.bl b)) t P↔P b t:=Av rfl
@[simp] theorem W_fTst {f:M D} {P:Bool->T->Prop}:W (Aq f) t P↔W f t λx t1=>W (toB x) t1 P:=by simp [Aq]
@[simp] theorem W_fChain {f g w:M D} {h h':D->D->M D} {P:D->T->Prop}:W (E7 f g w h h') t P↔W f t λx t1=>W g t1 λy t2=>W (h x y) t2 λk t3=>W (toB k) t3 λk t4=>if k=true then W w t4 λz t5=>W (h' y z) t5 P else P (.bl false) t4:=by
 simp [E7]
@[simp] theorem W_fAnd {f g:M Bool} {P:Bool->T->Prop}:W (Jo f g) t P↔W f t λk t1=>if k=true then W g t1 P else P false t1:=by simp [Jo]
@[simp] theorem W_fOr {f g:M Bool} {P:Bool->T->Prop}:W (fOr f g) t P↔W f t λk t1=>if k=true then P true t1 else W g t1 P:=by simp [fOr]
@[simp] theorem W_fNot {f:M Bool} {P:Bool->T->Prop}:W (C9 f) t P↔W f t λk t1=>P (!k) t1:=by simp [C9]
@[simp] theorem W_fAndV {f g:M D} {P:D->T->Prop}:W (Ft f g) t P↔W f t λx t1=>W (toB x) t1 λk t2=>if k=true then W g t2 P else P (.bl false) t2:=by simp [Ft]
@[simp] theorem d6 {f g:M D} {P:D->T->Prop}:W (XQ f g) t P↔W f t λx t1=>W (toB x) t1 λk t2=>if k=true then P (.bl true) t2 else W g t2 P:=by simp [XQ]
@[simp] theorem W_fNotV {f:M D} {P:D->T->Prop}:W (IG f) t P↔W f t λx t1=>W (toB x) t1 λk t2=>P (.bl (!k)) t2:=by simp [IG]
@[simp] theorem W_fIf {f:M Bool} {g h:M D} {P:D->T->Prop}:W (fIf f g h) t P↔W f t λk t1=>if k=true then W g t1 P else W h t1 P:=by simp [fIf]
@[simp] theorem W_fNil {P:List D->T->Prop}:W Ad t P↔P [] t:=Av rfl
@[simp] theorem W_fCons {f:M D} {g:M (List D)} {P:List D->T->Prop}:W (Ab f g) t P↔W f t λd t1=>W g t1 λds t2=>P (d :: ds) t2:=by simp [Ab]
@[simp] theorem W_fTup {f:M (List D)} {P:D->T->Prop}:W (AD f) t P↔W f t λds t1=>ds.length<=LIM/\P (.tup ds) t1:=by simp [AD]
@[simp] theorem W_fLst {f:M (List D)} {P:List D->T->Prop}:W (Bh f) t P↔W f t λds t1=>ds.length<=LIM/\P ds t1:=by simp [Bh]
@[simp] theorem W_fPure {f:M (List D)} {P:D->T->Prop}:W (AX f) t P↔W f t λds t1=>P (.lst ds) t1:=by simp [AX]
@[simp] theorem W_newOb {o:Ob} {P:D->T->Prop}:W (PJ o) t P↔P (.obj t.S.length) ⟨t.env,t.S++[o]⟩:=Av rfl
@[simp] theorem Xy {f:M (List D)} {P:D->T->Prop}:W (Gk f) t P↔W f t λds t1=>W (PJ (.lst ds)) t1 P:=by simp [Gk]
@[simp] theorem W_fCall {g:Fn} {f:M (List D)} {P:D->T->Prop}:W (Ai g f) t P↔W f t λds t1=>Wf g ds t1.S λr S'=>P r ⟨t1.env,S'⟩:=by
 unfold Ai;rw [W_bnd];constructor
 ·rintro ⟨ds,t1,e1,r,t',e2,p⟩;refine ⟨ds,t1,e1,?_⟩;dsimp only at e2
  cases e:g ds t1.S with
  | none=>rw [e] at e2;cases e2
  | some z=>obtain ⟨r',S'⟩:=z;rw [e] at e2;cases e2;exact ⟨r,_,e,p⟩
 ·rintro ⟨ds,t1,e1,r,S',e2,p⟩;exact ⟨ds,t1,e1,r,_,by simp only [e2],p⟩
@[simp] theorem W_fB {f:M (List D)} {h:List D->M D} {P:D->T->Prop}:W (fB f h) t P↔W f t λds t1=>W (h ds) t1 P:=by simp [fB]
@[simp] theorem W_fBF {f:M (List D)} {h:List D->M (List D)} {P:List D->T->Prop}:W (fBF f h) t P↔W f t λds t1=>W (h ds) t1 P:=by simp [fBF]
@[simp] theorem W_seqS {f g:M Out} {P:Out->T->Prop}:W (Af f g) t P↔W f t λo t1=>match o with
 | .next=>W g t1 P
 | .brk=>P .brk t1
 | .cont=>P .cont t1
 | .ret d=>P (.ret d) t1:=by
 unfold Af;constructor
 ·rintro ⟨o,t',e,p⟩;dsimp only at e
  cases e1:f t with
  | none=>rw [e1] at e;cases e
  | some z=>
    obtain ⟨o1,t1⟩:=z;rw [e1] at e;refine ⟨o1,t1,e1,?_⟩
    cases o1 with
    | next=>exact ⟨o,t',e,p⟩
    | brk=>cases e;exact p
    | cont=>cases e;exact p
    | ret d=>cases e;exact p
 ·rintro ⟨o,t1,e,p⟩
  cases o with
  | next=>obtain ⟨o,t',e',p⟩:=p;exact ⟨o,t',by simp only [e];exact e',p⟩
  | brk=>exact ⟨_,_,by simp only [e],p⟩
  | cont=>exact ⟨_,_,by simp only [e],p⟩
  | ret d=>exact ⟨_,_,by simp only [e],p⟩
@[simp] theorem W_skipS {P:Out->T->Prop}:W Au t P↔P .next t:=Av rfl
@[simp] theorem W_retS {f:M D} {P:Out->T->Prop}:W (Ao f) t P↔W f t λd t1=>P (.ret d) t1:=by simp [Ao]
@[simp] theorem W_dropS {f:M D} {P:Out->T->Prop}:W (BX f) t P↔W f t λd t1=>P .next t1:=by simp [BX]
@[simp] theorem W_ifS {f:M Bool} {g h:M Out} {P:Out->T->Prop}:W (ifS f g h) t P↔W f t λk t1=>if k=true then W g t1 P else W h t1 P:=by simp [ifS]
@[simp] theorem W_putV {i:Nat} {d:D} {P:Unit->T->Prop}:W (AB i d) t P↔P () ⟨t.env.set i (some (.val d)),t.S⟩:=Av rfl
@[simp] theorem W_setS {i:Nat} {f:M D} {P:Out->T->Prop}:W (AA i f) t P↔W f t λd t1=>P .next ⟨t1.env.set i (some (.val d)),t1.S⟩:=by
 simp only [AA,W_bnd,W_ret,W_putV]
@[simp] theorem W_ownS {i:Nat} {f:M (List D)} {P:Out->T->Prop}:W (EX i f) t P↔W f t λds t1=>P .next ⟨t1.env.set i (some (.own ds)),t1.S⟩:=by
 unfold EX;rw [W_bnd];have:∀(ds:List D) (t1:T),W (λt:T=>some (Out.next,({ t with env:=t.env.set i (some (.own ds)) }:T))) t1 P↔P .next ⟨t1.env.set i (some (.own ds)),t1.S⟩:=λds t1=>Av rfl;simp only [this]
@[simp] theorem W_asgS {f:M D} {g:D->M Unit} {P:Out->T->Prop}:W (Ce f g) t P↔W f t λd t1=>W (g d) t1 λ_ t2=>P .next t2:=by simp [Ce]
@[simp] theorem W_putNil {P:Unit->T->Prop}:W (B2 []) t P↔P () t:=Av rfl
@[simp] theorem W_putCons {f:D->M Unit} {g:List D->M Unit} {d:D} {ds:List D} {P:Unit->T->Prop}:W (AN f g (d :: ds)) t P↔W (f d) t λ_ t1=>W (g ds) t1 P:=by simp [AN]
@[simp] theorem bK {n:Nat} {g:List D->M Unit} {ds:List D} {P:Unit->T->Prop}:W (unS n g (.lst ds)) t P↔ds.length=n/\W (g ds) t P:=by
 unfold unS;simp only [UP,W_fail];split <;> simp [*]
@[simp] theorem W_unS_tup {n:Nat} {g:List D->M Unit} {ds:List D} {P:Unit->T->Prop}:W (unS n g (.tup ds)) t P↔ds.length=n/\W (g ds) t P:=by
 unfold unS;simp only [UP,W_fail];split <;> simp [*]
@[simp] theorem W_forS {f:M (List D)} {st:D->M Unit} {b:M Out} {P:Out->T->Prop}:W (B8 f st b) t P↔W f t λds t1=>W (CV st b ds) t1 P:=by simp [B8]
@[simp] theorem W_forL_nil {st:D->M Unit} {b:M Out} {P:Out->T->Prop}:W (CV st b []) t P↔P .next t:=Av rfl
theorem W_forL_cons {st:D->M Unit}{b:M Out}{d:D}{r:List D}{P:Out->T->Prop}:W (CV st b (d :: r)) t P↔W (st d) t λ_ t1=>W b t1 λo t2=>match o with
 | .next=>W (CV st b r) t2 P
 | .cont=>W (CV st b r) t2 P
 | .brk=>P .next t2
 | .ret x=>P (.ret x) t2:=by
 constructor
 ·rintro ⟨o,t',e,p⟩;unfold CV at e
  cases e1:st d t with
  | none=>rw [e1] at e;cases e
  | some z=>
    obtain ⟨u,t1⟩:=z;rw [e1] at e
    try dsimp only at e
    refine ⟨u,t1,e1,?_⟩
    cases e2:b t1 with
    | none=>rw [e2] at e;cases e
    | some z=>
      obtain ⟨o2,t2⟩:=z;rw [e2] at e
      try dsimp only at e
      refine ⟨o2,t2,e2,?_⟩
      cases o2 with
      | next=>exact ⟨o,t',e,p⟩
      | cont=>exact ⟨o,t',e,p⟩
      | brk=>cases e;exact p
      | ret x=>cases e;exact p
 ·rintro ⟨u,t1,e1,o,t2,e2,p⟩
  cases o with
  | next=>obtain ⟨o,t',e',p⟩:=p;exact ⟨o,t',by unfold CV;simp only [e1,e2];exact e',p⟩
  | cont=>obtain ⟨o,t',e',p⟩:=p;exact ⟨o,t',by unfold CV;simp only [e1,e2];exact e',p⟩
  | brk=>exact ⟨_,_,by unfold CV;simp only [e1,e2],p⟩
  | ret x=>exact ⟨_,_,by unfold CV;simp only [e1,e2],p⟩
theorem Dx {st:D->M Unit}{b:M Out}{P:Out->T->Prop}(I:List D->T->Prop):∀(ds:List D) (t:T),I ds t->
 (∀d r t,I (d :: r) t->d∈ds->W (st d) t λ_ t1=>W b t1 λo t2=>match o with
   | .next=>I r t2
   | .cont=>I r t2
   | .brk=>P .next t2
   | .ret x=>P (.ret x) t2)->(∀t,I [] t->P .next t)->W (CV st b ds) t P
 | [],t,h,_,fin=>W_forL_nil.mpr (fin t h)
 | d :: r,t,h,turn,fin=>by
   rw [W_forL_cons];refine (turn d r t h uf0).mono λ_ t1 h1=>h1.mono λo t2 h2=>?_
   cases o with
   | next=>exact Dx I r t2 h2 (λd' r' t' h' m=>turn d' r' t' h' (ud8 _ m)) fin
   | cont=>exact Dx I r t2 h2 (λd' r' t' h' m=>turn d' r' t' h' (ud8 _ m)) fin
   | brk=>exact h2
   | ret x=>exact h2
@[simp] theorem W_fComp {n:Nat} {fr:List Nat} {f:M (List D)} {st:D->M Unit} {tst:M Bool} {elt:M D} {P:List D->T->Prop}:W (B6 n fr f st tst elt) t P↔W f t λds t1=>W (B5 st tst elt ds) ⟨cenv n fr t1.env,t1.S⟩ λxs t'=>xs.length<=LIM/\P xs ⟨t1.env,t'.S⟩:=by
 unfold B6;rw [W_bnd];constructor
 ·rintro ⟨ds,t1,e1,xs,t',e2,p⟩;refine ⟨ds,t1,e1,?_⟩;dsimp only at e2
  cases e:B5 st tst elt ds ⟨cenv n fr t1.env,t1.S⟩ with
  | none=>rw [e] at e2;cases e2
  | some z=>
    obtain ⟨ys,t3⟩:=z;rw [e] at e2;dsimp only at e2
    split at e2
    ·cases e2;exact ⟨_,_,e,by assumption,p⟩
    ·cases e2
 ·rintro ⟨ds,t1,e1,xs,t',e2,h,p⟩;exact ⟨ds,t1,e1,xs,_,by simp only [e2,h,if_true],p⟩
@[simp] theorem W_compL_nil {st:D->M Unit} {tst:M Bool} {elt:M D} {P:List D->T->Prop}:W (B5 st tst elt []) t P↔P [] t:=Av rfl
theorem Mx {st:D->M Unit}{tst:M Bool}{elt:M D}{d:D}{r:List D}{P:List D->T->Prop}:W (B5 st tst elt (d :: r)) t P↔W (st d) t λ_ t1=>W tst t1 λk t2=>
 if k=true then W elt t2 λx t3=>W (B5 st tst elt r) t3 λxs t4=>P (x :: xs) t4 else W (B5 st tst elt r) t2 P:=by
 rw [B5];simp
theorem HF {st:D->M Unit}{tst:M Bool}{elt:M D}{P:List D->T->Prop}(I:List D->List D->T->Prop):∀(ds:List D) (acc:List D) (t:T),I acc ds t->
 (∀acc d r t,I acc (d :: r) t->d∈ds->W (st d) t λ_ t1=>W tst t1 λk t2=>if k=true then W elt t2 λx t3=>I (acc++[x]) r t3 else I acc r t2)->
 (∀acc t,I acc [] t->P acc t)->W (B5 st tst elt ds) t λxs t'=>P (acc++xs) t'
 | [],acc,t,h,_,fin=>W_compL_nil.mpr (by rw [ui8];exact fin acc t h)
 | d :: r,acc,t,h,turn,fin=>by
   rw [Mx];have turn':∀acc d' r' t',I acc (d' :: r') t'->d'∈r->_:=λacc d' r' t' h' m=>turn acc d' r' t' h' (ud8 _ m);refine (turn acc d r t h uf0).mono λ_ t1 h1=>h1.mono λk t2 h2=>?_
   cases k with
   | true=>
     rw [if_pos rfl] at h2 ⊢;refine h2.mono λx t3 h3=>(HF I r (acc++[x]) t3 h3 turn' fin).mono λxs t4 h4=>?_;rw [ug4] at h4;exact h4
   | false=>
     rw [if_neg uf1] at h2 ⊢;exact HF I r acc t2 h2 turn' fin
theorem An {n m:Nat}{g:M Out}{ds:List D}{P:D->List Ob->Prop}(h:ds.length=n)(w:W g ⟨env0 m ds,S⟩ λo t=>match o with
 | .ret r=>P r t.S
 | .next=>P .non t.S
 | _=>False):Wf (fnOf n m g) ds S P:=by
 obtain ⟨o,t,e,p⟩:=w
 cases o with
 | ret r=>exact ⟨r,t.S,by unfold fnOf;rw [if_pos h,e],p⟩
 | next=>exact ⟨.non,t.S,by unfold fnOf;rw [if_pos h,e],p⟩
 | brk=>exact p.elim
 | cont=>exact p.elim
@[simp] theorem W_tTru {P:Bool->T->Prop}:W Gv t P↔P true t:=Av rfl
@[simp] theorem d5 {P:D->T->Prop}:W bZ t P↔P .dic t:=Av rfl
end F2
namespace F2
open PySem L2
variable {t:T}{P:D->T->Prop}
theorem L9 {α β:Type}{o:Option β}{g:β->α×T}{Q:α->T->Prop}{m:M α}(e:m t=o.map g):W m t Q↔∃b,o=some b/\Q (g b).1 (g b).2:=by
 constructor
 ·rintro ⟨a,t',e',p⟩;rw [e] at e';obtain ⟨b,h1,h2⟩:=uc6.mp e';exact ⟨b,h1,by rw [h2];exact p⟩
 ·rintro ⟨b,h,p⟩;exact ⟨_,_,by rw [e,h];rfl,p⟩
theorem Pb {α:Type}{c:Prop}[Decidable c]{z:α×T}{Q:α->T->Prop}{m:M α}(e:m t=if c then some z else none):W m t Q↔c/\Q z.1 z.2:=by
 constructor
 ·rintro ⟨a,t',e',p⟩;rw [e] at e'
  split at e'
  ·cases e';exact ⟨by assumption,p⟩
  ·cases e'
 ·rintro ⟨h,p⟩;exact ⟨_,_,by rw [e,if_pos h],p⟩
theorem My {α β:Type}{o:Option β}(f:β->α){Q:α->T->Prop}{m:M α}(e:m t=o.map λb=>(f b,t)):W m t Q↔∃b,o=some b/\Q (f b) t:=L9 (g:=λb=>(f b,t)) e
theorem JO {α:Type}{c:Prop}[Decidable c]{a:α}{Q:α->T->Prop}{m:M α}(e:m t=if c then some (a,t) else none):W m t Q↔c/\Q a t:=Pb (z:=(a,t)) e
@[simp] theorem W_ix_tup {ds:List D} {i:Int}:W (ixD (.tup ds) (.int i)) t P↔∃d,atI ds i=some d/\P d t:=My id rfl
@[simp] theorem W_ix_lst {ds:List D} {i:Int}:W (ixD (.lst ds) (.int i)) t P↔∃d,atI ds i=some d/\P d t:=My id rfl
@[simp] theorem W_ix_scr {ns:List Int} {i:Int}:W (ixD (.scr ns) (.int i)) t P↔∃n,atI ns i=some n/\P (.int n) t:=My D.int rfl
@[simp] theorem W_ix_str {x:Str} {i:Int}:W (ixD (.str x) (.int i)) t P↔x.length<=LIM/\∃n,atI x.cps.toList i=some n/\P (.str ⟨#[n]⟩) t:=by
 by_cases h:x.length<=LIM
 ·have:ixD (.str x) (.int i) t=(atI x.cps.toList i).map λn=>(.str ⟨#[n]⟩,t):=by simp only [ixD,h,if_true]
  rw [L9 this];simp [h]
 ·rw [Ev (by simp only [ixD,h,if_false])];simp [h]
@[simp] theorem W_ix_obj {k:Nat} {i:Int}:W (ixD (.obj k) (.int i)) t P↔∃ds,t.S[k]?=some (.lst ds)/\∃d,atI ds i=some d/\P d t:=by
 cases e:t.S[k]? with
 | none=>rw [Ev (by simp only [ixD,e])];simp
 | some o=>
   cases o with
   | dct _ | ins _ _=>rw [Ev (by simp only [ixD,e])];simp
   | lst ds=>
     have:ixD (.obj k) (.int i) t=(atI ds i).map λd=>(d,t):=by simp only [ixD,e]
     rw [L9 this];simp
@[simp] theorem Fs {α:Type} {a:α} {r:List α}:atI (a :: r) 0=some a:=by simp [atI,ixN]
@[simp] theorem UQ {α:Type} {a b:α} {r:List α}:atI (a :: b :: r) 1=some b:=by
 have:(1:Int) < ((a :: b :: r).length:Nat):=by simp;lia
 simp only [atI,ixN,this,if_true,show (0:Int)<=1 by decide];rfl
@[simp] theorem UR {α:Type} {a b c:α} {r:List α}:atI (a :: b :: c :: r) 2=some c:=by
 have:(2:Int) < ((a :: b :: c :: r).length:Nat):=by simp;lia
 simp only [atI,ixN,this,if_true,show (0:Int)<=2 by decide];rfl
@[simp] theorem W_len_lst {ds:List D}:W (A0 [.lst ds]) t P↔P (.int ds.length) t:=Av rfl
@[simp] theorem W_len_tup {ds:List D}:W (A0 [.tup ds]) t P↔P (.int ds.length) t:=Av rfl
@[simp] theorem W_len_scr {ds:List Int}:W (A0 [.scr ds]) t P↔P (.int ds.length) t:=Av rfl
@[simp] theorem W_len_str {x:Str}:W (A0 [.str x]) t P↔x.length<=LIM/\P (.int x.length) t:=by simp [A0]
@[simp] theorem W_len_obj {k:Nat}:W (A0 [.obj k]) t P↔∃ds,t.S[k]?=some (.lst ds)/\P (.int ds.length) t:=by
 cases e:t.S[k]? with
 | none=>rw [Ev (by simp only [A0,e])];simp
 | some o=>
   cases o with
   | dct _ | ins _ _=>rw [Ev (by simp only [A0,e])];simp
   | lst ds=>rw [Av (a:=.int ds.length) (t':=t) (by simp only [A0,e])];simp
@[simp] theorem W_isi {d:D} {m:String}:W (Du [d,.ty m]) t P↔∃n,tyD d=some n/\∃b,K8 n m=some b/\P (.bl b) t:=by
 cases e:tyD d with
 | none=>rw [Ev (by simp only [Du,e])];simp
 | some n=>
   have:Du [d,.ty m] t=(K8 n m).map λb=>(.bl b,t):=by simp only [Du,e]
   rw [L9 this];simp
noncomputable def Hd:D->Bool
 | .non=>true
 | _=>false
noncomputable def cr (b:Bool):D->Bool
 | .bl c=>c == b
 | _=>false
@[simp] theorem W_is_non {x:D}:W (isC x .non) t P↔P (.bl (Hd x)) t:=Av (by cases x <;> rfl)
@[simp] theorem dZ {x:D} {b:Bool}:W (isC x (.bl b)) t P↔P (.bl (cr b x)) t:=Av (by cases x <;> rfl)
@[simp] theorem dY {x y:D}:W (Q2 x y) t P↔W (isC x y) t λd t1=>W (toB d) t1 λb t2=>P (.bl (!b)) t2:=by
 unfold Q2;rw [W_bnd];constructor
 ·exact λh=>h.mono λd t1 h1=>by
   cases d with
   | bl b=>simpa using h1
   | _=>exact (W_fail.mp h1).elim
 ·exact λh=>h.mono λd t1 h1=>by
   cases d with
   | bl b=>simpa using h1
   | _=>obtain ⟨_,_,e,_⟩:=h1;cases e
@[simp] theorem W_add_int {i j:Int}:W (AW (.int i) (.int j)) t P↔P (.int (i + j)) t:=Av rfl
@[simp] theorem W_sub_int {i j:Int}:W (Dv (.int i) (.int j)) t P↔P (.int (i - j)) t:=Av rfl
@[simp] theorem W_lt_int {i j:Int}:W (ltA (.int i) (.int j)) t P↔P (.bl (decide (i < j))) t:=Av rfl
@[simp] theorem W_le_int {i j:Int}:W (leA (.int i) (.int j)) t P↔P (.bl (decide (i<=j))) t:=Av rfl
@[simp] theorem W_gt_int {i j:Int}:W (gtA (.int i) (.int j)) t P↔P (.bl (decide (j < i))) t:=Av rfl
@[simp] theorem W_ge_int {i j:Int}:W (geA (.int i) (.int j)) t P↔P (.bl (decide (j<=i))) t:=Av rfl
@[simp] theorem bP {i j:Str}:W (ltA (.str i) (.str j)) t P↔P (.bl (decide (i.cps.toList < j.cps.toList))) t:=Av rfl
@[simp] theorem bN {i j:Str}:W (gtA (.str i) (.str j)) t P↔P (.bl (decide (j.cps.toList < i.cps.toList))) t:=Av rfl
@[simp] theorem W_neg {i:Int}:W (Ng (.int i)) t P↔P (.int (-i)) t:=Av rfl
@[simp] theorem W_fdiv {i j:Int}:W (Bc (.int i) (.int j)) t P↔(0 < j/\j < 1073741824)/\P (.int (i / j)) t:=by
 rw [Pb (m:=Bc (.int i) (.int j)) (c:=Ma i j=true) (z:=(.int (i / j),t)) rfl];simp [Ma]
@[simp] theorem W_mod {i j:Int}:W (Bl (.int i) (.int j)) t P↔0 < j/\P (.int (i % j)) t:=by
 rw [Pb (m:=Bl (.int i) (.int j)) (c:=decide (0 < j)=true) (z:=(.int (i % j),t)) rfl];simp
@[simp] theorem W_pow {i j:Int}:W (No (.int i) (.int j)) t P↔Mg i j=true/\P (.int (i ^ j.toNat)) t:=JO rfl
@[simp] theorem W_mul_int {i j:Int}:W (DZ (.int i) (.int j)) t P↔Fy i j=true/\P (.int (i * j)) t:=JO rfl
theorem V5 {i j:Int}(h1 : -18446744073709551616 < i)(h2:i < 18446744073709551616):Fy i j=true:=by simp [Fy,h1,h2]
theorem Op {i j:Int}(h1 : -18446744073709551616 < j)(h2:j < 18446744073709551616):Fy i j=true:=by simp [Fy,h1,h2]
theorem Cn {k:Int}(h1 : -4611686018427387904<=k)(h2:k < 4611686018427387904):CF k=true:=by simp [CF,h1,h2]
@[simp] theorem W_add_str {x y:Str}:W (AW (.str x) (.str y)) t P↔x.length + y.length<=LIM/\P (.str (x++y)) t:=by
 have:AW (.str x) (.str y)=lim (x.length + y.length) (.str (x++y)):=rfl;rw [this];simp
@[simp] theorem W_add_lst {x y:List D}:W (AW (.lst x) (.lst y)) t P↔x.length + y.length<=LIM/\P (.lst (x++y)) t:=by
 have:AW (.lst x) (.lst y)=lim (x.length + y.length) (.lst (x++y)):=rfl;rw [this];simp
@[simp] theorem bG {d:D} {x y:List D}:W (AW (.tup (d :: x)) (.tup y)) t P↔x.length + 1 + y.length<=LIM/\P (.tup (d :: x++y)) t:=by
 have:AW (.tup (d :: x)) (.tup y) t=if (d :: x).isEmpty=false/\(d :: x).length + y.length<=LIM then some (.tup (d :: x++y),t) else none:=rfl;rw [Pb this];simp
@[simp] theorem ZW {y:List D}:W (AW (.tup []) (.tup y)) t P↔P (.tup y) t:=Av rfl
@[simp] theorem W_cat {x y:List D} {Q:List D->T->Prop}:W (Jm (.lst x) (.lst y)) t Q↔x.length + y.length<=LIM/\Q (x++y) t:=by
 have:Jm (.lst x) (.lst y)=lim (x.length + y.length) (x++y):=rfl;rw [this];simp
@[simp] theorem ee {i:Int}:W (bS [.int i]) t P↔P (.int (if i < 0 then -i else i)) t:=Av rfl
@[simp] theorem eA {i j:Int}:W (cA [.int i,.int j]) t P↔P (.int (if j < i then j else i)) t:=Av rfl
@[simp] theorem ei {i j:Int}:W (cz [.int i,.int j]) t P↔P (.int (if j > i then j else i)) t:=Av rfl
@[simp] theorem bH {i:Int}:W (K6 [.int i]) t P↔P (.int i) t:=Av rfl
@[simp] theorem W_int_bl {b:Bool}:W (K6 [.bl b]) t P↔P (.int (if b then 1 else 0)) t:=Av rfl
@[simp] theorem W_ord {x:Str}:W (JB [.str x]) t P↔x.length=1/\P (.int (x.cps.getD 0 0:Nat)) t:=JO rfl
@[simp] theorem bJ {ds:List D}:W (cT [.lst ds]) t P↔P (.tup ds) t:=Av rfl
@[simp] theorem W_lst_lst {ds:List D} {Q:List D->T->Prop}:W (Hf [.lst ds]) t Q↔Q ds t:=Av rfl
@[simp] theorem bI {ds:List D} {Q:List D->T->Prop}:W (Hf [.tup ds]) t Q↔Q ds t:=Av rfl
@[simp] theorem W_eq_str {g:Bool->Bool} {x y:Str}:W (eqS g (.str x) (.str y)) t P↔P (.bl (g (x == y))) t:=Av rfl
@[simp] theorem W_eq_int {g:Bool->Bool} {x y:Int}:W (eqS g (.int x) (.int y)) t P↔P (.bl (g (x == y))) t:=Av rfl
@[simp] theorem dX {g:Bool->Bool} {x y:Bool}:W (eqS g (.bl x) (.bl y)) t P↔P (.bl (g (x == y))) t:=Av rfl
@[simp] theorem bM {g:Bool->Bool} {x:List D}:W (eqS g (.lst x) (.lst [])) t P↔P (.bl (g x.isEmpty)) t:=by
 refine Av ?_
 cases x <;> rfl
theorem Il {a b:String}:Str.ofString a=Str.ofString b↔a=b:=by
 constructor
 ·intro h;rw [Str.ofString_eq_toList,Str.ofString_eq_toList] at h;injection h with h
  have h:=congrArg Array.toList h;simp only at h;have hinj:∀xs ys:List Char,xs.map Char.toNat=ys.map Char.toNat->xs=ys:=by
   intro xs
   induction xs with
   | nil=>intro ys h;cases ys with | nil=>rfl | cons _ _=>simp at h
   | cons x xs ih=>
     intro ys h
     cases ys with
     | nil=>simp at h
     | cons y ys=>
       simp only [uk9,List.cons.injEq] at h;rw [ih ys h.2,Char.toNat_inj.mp h.1]
  exact String.toList_inj.mp (hinj _ _ (by simpa using h))
 ·exact λh=>by rw [h]
@[simp] theorem Yt {a b:String}:(Str.ofString a == Str.ofString b)=(a == b):=by
 rw [Bool.eq_iff_iff,beq_iff_eq,beq_iff_eq,Il]
@[simp] theorem W_sl_lst {ds:List D} {lo hi:Option Int}:W (DO (.lst ds) lo hi) t P↔P (.lst (Bx ds lo hi)) t:=Av rfl
@[simp] theorem W_sl_scr {ds:List Int} {lo hi:Option Int}:W (DO (.scr ds) lo hi) t P↔P (.lst ((Bx ds lo hi).map .int)) t:=Av rfl
@[simp] theorem bQ {x:Str} {lo hi:Option Int}:W (DO (.str x) lo hi) t P↔x.length<=LIM/\P (.str (Txt.slice x lo hi)) t:=by
 have:DO (.str x) lo hi=lim x.length (.str (Txt.slice x lo hi)):=rfl;rw [this];simp
@[simp] theorem bR {ds:List D} {lo hi:Option Int}:W (DO (.tup ds) lo hi) t P↔P (.tup (Bx ds lo hi)) t:=Av rfl
@[simp] theorem W_fSl {f:M D} {l u:M (Option Int)} {h:D->Option Int->Option Int->M D}:W (fSl f l u h) t P↔W f t λx t1=>W l t1 λlo t2=>W u t2 λhi t3=>W (h x lo hi) t3 P:=by simp [fSl]
@[simp] theorem W_fNo {Q:Option Int->T->Prop}:W fNo t Q↔Q none t:=Av rfl
@[simp] theorem W_asI {i:Int} {Q:Option Int->T->Prop}:W (asI (.int i)) t Q↔Q (some i) t:=Av rfl
@[simp] theorem W_fPart {f:M D} {Q:Option Int->T->Prop}:W (D8 f) t Q↔W f t λx t1=>W (asI x) t1 Q:=by simp [D8]
@[simp] theorem W_fItA {f:M D} {Q:List D->T->Prop}:W (DX f) t Q↔W f t λx t1=>W (DG x) t1 Q:=by simp [DX]
@[simp] theorem W_it_lst {ds:List D} {Q:List D->T->Prop}:W (DG (.lst ds)) t Q↔Q ds t:=Av rfl
@[simp] theorem W_it_tup {ds:List D} {Q:List D->T->Prop}:W (DG (.tup ds)) t Q↔Q ds t:=Av rfl
@[simp] theorem bO {ds:List Int} {Q:List D->T->Prop}:W (DG (.scr ds)) t Q↔Q (ds.map .int) t:=Av rfl
@[simp] theorem W_it_str {x:Str} {Q:List D->T->Prop}:W (DG (.str x)) t Q↔Q (x.cps.toList.map λc=>.str ⟨#[c]⟩) t:=Av rfl
@[simp] theorem W_fRng1 {f:M (List D)} {Q:List D->T->Prop}:W (CP f) t Q↔W f t λx t1=>W (Lk x) t1 Q:=by simp [CP]
@[simp] theorem W_fRng2 {f:M (List D)} {Q:List D->T->Prop}:W (G6 f) t Q↔W f t λx t1=>W (Ll x) t1 Q:=by simp [G6]
@[simp] theorem W_rng1 {j:Int} {Q:List D->T->Prop}:W (Lk [.int j]) t Q↔CF j=true/\Q (Bd 0 j.toNat) t:=JO rfl
@[simp] theorem W_rng2 {i j:Int} {Q:List D->T->Prop}:W (Ll [.int i,.int j]) t Q↔(CF i && CF j)=true/\Q (Bd i (j - i).toNat) t:=JO rfl
@[simp] theorem W_ownM {i:Nat} {h:List D->List D->Option (List D)} {g:M (List D)} {Q:Out->T->Prop}:W (ownM i h g) t Q↔(∃xs,t.env[i]?=some (some (.own xs)))/\W g t λds t1=>∃xs,t1.env[i]?=some (some (.own xs))/\∃ys,h xs ds=some ys/\Q .next ⟨t1.env.set i (some (.own ys)),t1.S⟩:=by
 constructor
 ·rintro ⟨o,t',e,p⟩;unfold ownM at e
  split at e
  ·next xs e0=>
   refine ⟨⟨xs,e0⟩,?_⟩;obtain ⟨ds,t1,e1,e⟩:=Ae e;refine ⟨ds,t1,e1,?_⟩
   split at e
   ·next ys e2=>
    obtain ⟨zs,e3,e4⟩:=uc6.mp e
    cases e4
    exact ⟨ys,e2,zs,e3,p⟩
   ·cases e
  ·cases e
 ·rintro ⟨⟨xs,e0⟩,ds,t1,e1,ys,e2,zs,e3,p⟩;exact ⟨_,_,by unfold ownM bnd;simp only [e0,e1,e2,e3,uj5],p⟩
@[simp] theorem app1_one {xs:List D} {d:D} {ys:List D}:Dt xs [d]=some ys↔xs.length < LIM/\xs++[d]=ys:=by
 unfold Dt;split <;> simp [*]
@[simp] theorem eB {f g:M D} {d:D} {Q:Unit->T->Prop}:W (stD f g d) t Q↔W f t λo t1=>W g t1 λi t2=>W (Zr o i d) t2 Q:=by simp [stD]
end F2
namespace F2
open PySem L2
variable {t:T}{P:D->T->Prop}{Q:List D->T->Prop}{R:Out->T->Prop}{B:Bool->T->Prop}{U:Unit->T->Prop}
def FO (k:Bool)(A B:Prop):Prop:=if k=true then A else B
theorem Gm {k:Bool}{A B:Prop}(h:k=true)(a:A):FO k A B:=by unfold FO;rw [if_pos h];exact a
theorem EA {k:Bool}{A B:Prop}(h:k=false)(b:B):FO k A B:=by unfold FO;rw [if_neg (by rw [h];exact uf1)];exact b
theorem Cp {k:Bool}{A B:Prop}(a:k=true->A)(b:k=false->B):FO k A B:=by cases h:k with
 | true=>exact Gm rfl (a h)
 | false=>exact EA rfl (b h)
def DM (g:M Out)(R:Out->T->Prop)(o:Out)(t1:T):Prop:=match o with
 | .next=>W g t1 R
 | o=>R o t1
variable {g:M Out}{t1:T}
theorem Eo (h:W g t1 R):DM g R .next t1:=h
theorem Us {d:D}(h:R (.ret d) t1):DM g R (.ret d) t1:=h
theorem dL {f:M Out}(h:W f t (DM g R)):W (Af f g) t R:=W_seqS.mpr (h.mono λo t1 h1=>by cases o <;> exact h1)
theorem Qd (h:R .next t):W Au t R:=W_skipS.mpr h
variable {f:M D}
theorem dJ (h:W f t λd t1=>R (.ret d) t1):W (Ao f) t R:=W_retS.mpr h
theorem ba (h:W f t λd t1=>R .next t1):W (BX f) t R:=W_dropS.mpr h
theorem wIf {f:M Bool}{h:M Out}(w:W f t λk t1=>FO k (W g t1 R) (W h t1 R)):W (ifS f g h) t R:=W_ifS.mpr w
theorem dM {i:Nat}(h:W f t λd t1=>R .next ⟨t1.env.set i (some (.val d)),t1.S⟩):W (AA i f) t R:=W_setS.mpr h
theorem dH {i:Nat}{f:M (List D)}(h:W f t λd t1=>R .next ⟨t1.env.set i (some (.own d)),t1.S⟩):W (EX i f) t R:=W_ownS.mpr h
theorem cX {g:D->M Unit}(h:W f t λd t1=>W (g d) t1 λ_ t2=>R .next t2):W (Ce f g) t R:=W_asgS.mpr h
theorem c7 {f:M (List D)}{st:D->M Unit}{b:M Out}(h:W f t λds t1=>W (CV st b ds) t1 R):W (B8 f st b) t R:=W_forS.mpr h
theorem wC {d:D}(h:P d t):W (fC d) t P:=W_fC.mpr h
theorem Fr {i:Nat}{d:D}(e:t.env[i]?=some (some (.val d)))(h:P d t):W (Aa i) t P:=by rw [Qo,e];exact h
variable {ds:List D}
theorem bD {i:Nat}(e:t.env[i]?=some (some (.own ds)))(h:P (.lst ds) ⟨t.env.set i (some (.val (.lst ds))),t.S⟩):W (Aa i) t P:=by rw [Qo,e];exact h
theorem Lr {g:M D}{h:D->D->M D}(w:W f t λx t1=>W g t1 λy t2=>W (h x y) t2 P):W (Ac f g h) t P:=W_fBin.mpr w
theorem wUn {h:D->M D}(w:W f t λx t1=>W (h x) t1 P):W (fUn f h) t P:=W_fUn.mpr w
theorem Cq {α β:Type}{f:M α}{g:α->M β}{K:β->T->Prop}(w:W f t λx t1=>W (g x) t1 K):W (bnd f g) t K:=W_bnd.mpr w
theorem Qe {b:Bool}(h:B b t):W (toB (.bl b)) t B:=W_toB.mpr h
theorem Qf (h:W f t λx t1=>W (toB x) t1 B):W (Aq f) t B:=W_fTst.mpr h
theorem ZH {g w:M D}{h h':D->D->M D}(q:W f t λx t1=>W g t1 λy t2=>W (h x y) t2 λk t3=>W (toB k) t3 λk t4=>FO k (W w t4 λz t5=>W (h' y z) t5 P) (P (.bl false) t4)):W (E7 f g w h h') t P:=W_fChain.mpr q
theorem cU {f g:M Bool}(h:W f t λk t1=>FO k (W g t1 B) (B false t1)):W (Jo f g) t B:=W_fAnd.mpr h
theorem wOr {f g:M Bool}(h:W f t λk t1=>FO k (B true t1) (W g t1 B)):W (fOr f g) t B:=W_fOr.mpr h
theorem dF {f:M Bool}(h:W f t λk t1=>B (!k) t1):W (C9 f) t B:=W_fNot.mpr h
theorem aW {g:M D}(h:W f t λx t1=>W (toB x) t1 λk t2=>FO k (W g t2 P) (P (.bl false) t2)):W (Ft f g) t P:=W_fAndV.mpr h
theorem br (h:W f t λx t1=>W (toB x) t1 λk t2=>P (.bl (!k)) t2):W (IG f) t P:=W_fNotV.mpr h
theorem de {f:M Bool}{g h:M D}(w:W f t λk t1=>FO k (W g t1 P) (W h t1 P)):W (fIf f g h) t P:=W_fIf.mpr w
theorem JJ (h:Q [] t):W Ad t Q:=W_fNil.mpr h
theorem D9 {g:M (List D)}(h:W f t λd t1=>W g t1 λds t2=>Q (d :: ds) t2):W (Ab f g) t Q:=W_fCons.mpr h
def He (n:Nat)(A:Prop):Prop:=n<=LIM/\A
variable {n:Nat}
theorem CK {A:Prop}(h:n<=LIM)(a:A):He n A:=⟨h,a⟩
theorem dS {f:M (List D)}(h:W f t λds t1=>He ds.length (P (.tup ds) t1)):W (AD f) t P:=W_fTup.mpr h
theorem dC {f:M (List D)}(h:W f t λds t1=>He ds.length (Q ds t1)):W (Bh f) t Q:=W_fLst.mpr h
theorem bw {f:M (List D)}(h:W f t λds t1=>P (.lst ds) t1):W (AX f) t P:=W_fPure.mpr h
theorem dG {f:M (List D)}(h:W f t λds t1=>P (.obj t1.S.length) ⟨t1.env,t1.S++[.lst ds]⟩):W (Gk f) t P:=by rw [Xy];exact h.mono λds t1 h=>W_newOb.mpr h
theorem KA {g:Fn}{f:M (List D)}(h:W f t λds t1=>Wf g ds t1.S λr S'=>P r ⟨t1.env,S'⟩):W (Ai g f) t P:=W_fCall.mpr h
theorem wB {f:M (List D)}{h:List D->M D}(w:W f t λds t1=>W (h ds) t1 P):W (fB f h) t P:=W_fB.mpr w
theorem wBF {f:M (List D)}{h:List D->M (List D)}(w:W f t λds t1=>W (h ds) t1 Q):W (fBF f h) t Q:=W_fBF.mpr w
theorem UK {i:Nat}{d:D}(h:U () ⟨t.env.set i (some (.val d)),t.S⟩):W (AB i d) t U:=W_putV.mpr h
theorem Xj (h:U () t):W (B2 []) t U:=W_putNil.mpr h
theorem UL {f:D->M Unit}{g:List D->M Unit}{d:D}(h:W (f d) t λ_ t1=>W (g ds) t1 U):W (AN f g (d :: ds)) t U:=W_putCons.mpr h
theorem dU {g:List D->M Unit}(e:ds.length=n)(h:W (g ds) t U):W (unS n g (.tup ds)) t U:=W_unS_tup.mpr ⟨e,h⟩
theorem a9 {fr:List Nat}{f:M (List D)}{st:D->M Unit}{tst:M Bool}{elt:M D}(h:W f t λds t1=>W (B5 st tst elt ds) ⟨cenv n fr t1.env,t1.S⟩ λxs t'=>He xs.length (Q xs ⟨t1.env,t'.S⟩)):W (B6 n fr f st tst elt) t Q:=W_fComp.mpr h
theorem ZP (h:B true t):W Gv t B:=W_tTru.mpr h
variable {i:Int}
theorem EZ {d:D}(e:atI ds i=some d)(h:P d t):W (ixD (.tup ds) (.int i)) t P:=W_ix_tup.mpr ⟨d,e,h⟩
theorem Bb {d:D}(e:atI ds i=some d)(h:P d t):W (ixD (.lst ds) (.int i)) t P:=W_ix_lst.mpr ⟨d,e,h⟩
theorem Qb (h:P (.int ds.length) t):W (A0 [.lst ds]) t P:=W_len_lst.mpr h
theorem Ve (h:P (.int ds.length) t):W (A0 [.tup ds]) t P:=W_len_tup.mpr h
theorem bn {ds:List Int}(h:P (.int ds.length) t):W (A0 [.scr ds]) t P:=W_len_scr.mpr h
theorem KB {k:Nat}(e:t.S[k]?=some (.lst ds))(h:P (.int ds.length) t):W (A0 [.obj k]) t P:=W_len_obj.mpr ⟨ds,e,h⟩
theorem Vd {x:Str}(e:x.length<=LIM)(h:P (.int x.length) t):W (A0 [.str x]) t P:=W_len_str.mpr ⟨e,h⟩
theorem dg {d:D}{m n:String}{b:Bool}(e:tyD d=some n)(e':K8 n m=some b)(h:P (.bl b) t):W (Du [d,.ty m]) t P:=W_isi.mpr ⟨n,e,b,e',h⟩
theorem df {x:D}(h:P (.bl (Hd x)) t):W (isC x .non) t P:=W_is_non.mpr h
variable {j:Int}
theorem aT (h:P (.int (i + j)) t):W (AW (.int i) (.int j)) t P:=W_add_int.mpr h
theorem bB (h:P (.int (i - j)) t):W (Dv (.int i) (.int j)) t P:=W_sub_int.mpr h
theorem dD (h:P (.bl (decide (i < j))) t):W (ltA (.int i) (.int j)) t P:=W_lt_int.mpr h
theorem dB (h:P (.bl (decide (i<=j))) t):W (leA (.int i) (.int j)) t P:=W_le_int.mpr h
theorem c9 (h:P (.bl (decide (j < i))) t):W (gtA (.int i) (.int j)) t P:=W_gt_int.mpr h
theorem c8 (h:P (.bl (decide (j<=i))) t):W (geA (.int i) (.int j)) t P:=W_ge_int.mpr h
theorem dE (h:P (.int (-i)) t):W (Ng (.int i)) t P:=W_neg.mpr h
theorem JI (h1:0 < j)(h2:j < 1073741824)(h:P (.int (i / j)) t):W (Bc (.int i) (.int j)) t P:=W_fdiv.mpr ⟨⟨h1,h2⟩,h⟩
theorem Iw (h1:0 < j)(h:P (.int (i % j)) t):W (Bl (.int i) (.int j)) t P:=W_mod.mpr ⟨h1,h⟩
theorem dI (h1:Mg i j=true)(h:P (.int (i ^ j.toNat)) t):W (No (.int i) (.int j)) t P:=W_pow.mpr ⟨h1,h⟩
theorem Qc (h1:Fy i j=true)(h:P (.int (i * j)) t):W (DZ (.int i) (.int j)) t P:=W_mul_int.mpr ⟨h1,h⟩
theorem aV {x y:Str}(h:He (x.length + y.length) (P (.str (x++y)) t)):W (AW (.str x) (.str y)) t P:=W_add_str.mpr h
theorem aU {x y:List D}(h:He (x.length + y.length) (P (.lst (x++y)) t)):W (AW (.lst x) (.lst y)) t P:=W_add_lst.mpr h
theorem cY {x y:List D}(h:He (x.length + y.length) (Q (x++y) t)):W (Jm (.lst x) (.lst y)) t Q:=W_cat.mpr h
theorem bg {i:Bool}(h:P (.int (if i then 1 else 0)) t):W (K6 [.bl i]) t P:=W_int_bl.mpr h
theorem ZM {x:Str}(e:x.length=1)(h:P (.int (x.cps.getD 0 0:Nat)) t):W (JB [.str x]) t P:=W_ord.mpr ⟨e,h⟩
theorem bo (h:Q ds t):W (Hf [.lst ds]) t Q:=W_lst_lst.mpr h
theorem UI {g:Bool->Bool}{x y:Str}(h:P (.bl (g (x == y))) t):W (eqS g (.str x) (.str y)) t P:=W_eq_str.mpr h
theorem ZJ {g:Bool->Bool}{x y:Int}(h:P (.bl (g (x == y))) t):W (eqS g (.int x) (.int y)) t P:=W_eq_int.mpr h
theorem dO {lo hi:Option Int}(h:P (.lst (Bx ds lo hi)) t):W (DO (.lst ds) lo hi) t P:=W_sl_lst.mpr h
theorem dQ {ds:List Int}{lo hi:Option Int}(h:P (.lst ((Bx ds lo hi).map .int)) t):W (DO (.scr ds) lo hi) t P:=W_sl_scr.mpr h
theorem wSl {l u:M (Option Int)}{h:D->Option Int->Option Int->M D}(w:W f t λx t1=>W l t1 λlo t2=>W u t2 λhi t3=>W (h x lo hi) t3 P):W (fSl f l u h) t P:=W_fSl.mpr w
variable {K:Option Int->T->Prop}
theorem wNo (h:K none t):W fNo t K:=W_fNo.mpr h
theorem cW (h:K (some i) t):W (asI (.int i)) t K:=W_asI.mpr h
theorem bv (h:W f t λx t1=>W (asI x) t1 K):W (D8 f) t K:=W_fPart.mpr h
theorem dh (h:W f t λx t1=>W (DG x) t1 Q):W (DX f) t Q:=W_fItA.mpr h
theorem dj (h:Q ds t):W (DG (.lst ds)) t Q:=W_it_lst.mpr h
theorem dq (h:Q ds t):W (DG (.tup ds)) t Q:=W_it_tup.mpr h
theorem dm {x:Str}(h:Q (x.cps.toList.map λc=>.str ⟨#[c]⟩) t):W (DG (.str x)) t Q:=W_it_str.mpr h
theorem bx {f:M (List D)}(h:W f t λx t1=>W (Lk x) t1 Q):W (CP f) t Q:=W_fRng1.mpr h
theorem bz {f:M (List D)}(h:W f t λx t1=>W (Ll x) t1 Q):W (G6 f) t Q:=W_fRng2.mpr h
theorem Gw (e:CF j=true)(h:Q (Bd 0 j.toNat) t):W (Lk [.int j]) t Q:=W_rng1.mpr ⟨e,h⟩
theorem ZN (e:(CF i && CF j)=true)(h:Q (Bd i (j - i).toNat) t):W (Ll [.int i,.int j]) t Q:=W_rng2.mpr ⟨e,h⟩
theorem bu {i:Nat}{xs:List D}{h:List D->List D->Option (List D)}{g:M (List D)}(e:t.env[i]?=some (some (.own xs)))(w:W g t λds t1=>∃xs,t1.env[i]?=some (some (.own xs))/\∃ys,h xs ds=some ys/\R .next ⟨t1.env.set i (some (.own ys)),t1.S⟩):W (ownM i h g) t R:=W_ownM.mpr ⟨⟨xs,e⟩,w⟩
theorem cV {i:Nat}{xs:List D}{d:D}{A:List D->Prop}(e:t1.env[i]?=some (some (.own xs)))(w:He (xs.length + 1) (A (xs++[d]))):∃xs,t1.env[i]?=some (some (.own xs))/\∃ys,Dt xs [d]=some ys/\A ys:=
 ⟨xs,e,_,app1_one.mpr ⟨w.1,rfl⟩,w.2⟩
end F2
namespace F2
open PySem L2
variable {i:Nat}{g:Fn}{d':D}
section
variable {t:T}{P:D->T->Prop}{B:Bool->T->Prop}{Q:List D->T->Prop}
theorem bC {n:Int}{ds:List D}{d:D}(e:t.env[i]?=some (some (.val (.tup ds))))(a:atI ds n=some d)(h:P d t):W (Ac (Aa i) (fC (.int n)) ixD) t P:=Lr (Fr e (wC (EZ a h)))
theorem bj {x y:Str}{ds:List D}{g:Bool->Bool}(e:t.env[i]?=some (some (.val (.tup (.str y :: ds)))))(h:B (g (y == x)) t):W (Aq (Ac (Ac (Aa i) (fC (.int 0)) ixD) (fC (.str x)) (eqS g))) t B:=Qf (Lr (Lr (Fr e (wC (EZ Fs (wC (UI (Qe h))))))))
theorem ZR {x y:Str}{g:Bool->Bool}(e:t.env[i]?=some (some (.val (.str y))))(h:B (g (y == x)) t):W (Aq (Ac (Aa i) (fC (.str x)) (eqS g))) t B:=Qf (Lr (Fr e (wC (UI (Qe h)))))
theorem ZQ {x y:Int}{g:Bool->Bool}(e:t.env[i]?=some (some (.val (.int y))))(h:B (g (y == x)) t):W (Aq (Ac (Aa i) (fC (.int x)) (eqS g))) t B:=Qf (Lr (Fr e (wC (ZJ (Qe h)))))
theorem Xf {d:D}(e:t.env[i]?=some (some (.val d)))(h:Wf g [d] t.S λr S'=>P r ⟨t.env,S'⟩):W (Ai g (Ab (Aa i) Ad)) t P:=KA (D9 (Fr e (JJ h)))
theorem Xg {j:Nat}{d:D}(e:t.env[i]?=some (some (.val d)))(e':t.env[j]?=some (some (.val d')))(h:Wf g [d,d'] t.S λr S'=>P r ⟨t.env,S'⟩):W (Ai g (Ab (Aa i) (Ab (Aa j) Ad))) t P:=KA (D9 (Fr e (D9 (Fr e' (JJ h)))))
theorem Xi {d:D}(e:t.env[i]?=some (some (.val d)))(h:Wf g [d,d'] t.S λr S'=>P r ⟨t.env,S'⟩):W (Ai g (Ab (Aa i) (Ab (fC d') Ad))) t P:=KA (D9 (Fr e (D9 (wC (JJ h)))))
theorem Xh {j k:Nat}{d d'':D}(e:t.env[i]?=some (some (.val d)))(e':t.env[j]?=some (some (.val d')))(e'':t.env[k]?=some (some (.val d'')))(h:Wf g [d,d',d''] t.S λr S'=>P r ⟨t.env,S'⟩):W (Ai g (Ab (Aa i) (Ab (Aa j) (Ab (Aa k) Ad)))) t P:=KA (D9 (Fr e (D9 (Fr e' (D9 (Fr e'' (JJ h)))))))
end
end F2
set_option maxHeartbeats 1000000
namespace LW
open PySem L2 F2
set_option compiler.extract_closed false
local macro_rules | `(tactic| clear 31 $t*)=>`(tactic| with_reducible first $[| refine $t ?_]*)
local macro_rules | `(tactic| clear 32 $t*)=>`(tactic| ((with_reducible first $[| refine' $t ?wv ?_]*);(case wv=>exact rfl)))
local macro_rules | `(tactic| clear 33 $t*)=>`(tactic| ((with_reducible first $[| refine' $t ?wv ?_]*);(case wv=>decide)))
local macro_rules | `(tactic| walk_at "w1")=>`(tactic| first
 | clear 32 bj ZR Xf
 | clear 32 ZQ Xi
 | ((with_reducible refine' bC ?wv ?wu ?_);(case wv=>exact rfl);(case wu=>first | exact rfl | exact Fs | exact UQ | exact UR))
 | ((with_reducible refine' Xg ?wv ?wu ?_);(case wv=>exact rfl);(case wu=>exact rfl))
 | ((with_reducible refine' Xh ?wv ?wu ?wt ?_);(case wv=>exact rfl);(case wu=>exact rfl);(case wt=>exact rfl))
 | clear 31 dL Eo Us dM Lr wC D9 JJ wIf Qf Qe dJ KA UI ZJ wEqB aT bB Qd wB wBF bw dS dC dG cX c7 cU wOr dF aW wOrV br de ZH wUn dE df wIsB wIsNot dD dB c9 c8 wLtS wGtS Qb Ve bn wAbs wMin wMax wInt bg wTupL bo wLstT aV aU wAddT wAddT0 cY wEqNil wSl wNo bv cW dO dQ wSlS wSlT dh dj dq wItR dm bx bz UK Xj UL a9 ZP wDic dH Cq ba wStD
 | clear 32 Fr Gm wUnL bu cV
 | clear 32 EA bD dU
 | ((with_reducible first | refine' EZ ?wv ?_ | refine' Bb ?wv ?_);(case wv=>first | exact rfl | exact Fs | exact UQ | exact UR))
 | ((with_reducible refine CK ?wv ?_);(case wv=>exact ud5 rfl))
 | ((with_reducible refine' dg ?wv ?wu ?_);(case wv=>exact rfl);(case wu=>exact rfl))
 | ((with_reducible refine JI ?wv ?wu ?_);(case wv=>decide);(case wu=>decide))
 | clear 33 dI Iw Gw ZN)
local macro_rules | `(tactic| right)=>`(tactic| repeat (walk_at "w1"))
structure DeckAt (k c:Nat)(S:List Ob):Prop where
 ne:k≠c
 at_:∃(cells:List Int) (par pos:Int),S[k]?=some (.lst [.obj c,.int par,.int pos])/\S[c]?=some (.lst (cells.map .int))/\cells≠[]/\0<=pos
def eG (k c:Nat)(S S':List Ob):Prop:=S'.length=S.length/\∀j:Nat,j≠k->j≠c->S'[j]?=S[j]?
variable {n:Nat}
theorem Ds {i:Int}(h0:0<=i)(h1:i < n):ixN n i=some i.toNat:=by simp [ixN,h0,h1]
variable {S:List Ob}
theorem II {k:Nat}{o o':Ob}(h:S[k]?=some o):(S.set k o')[k]?=some o':=by
 obtain ⟨hl,_⟩:=ua8.mp h;exact uc1 hl
inductive Sh where
 | nothing | number (lo hi:Int) | text (m:Int) | list (s:Sh) (m:Int) | pair (s r:Sh) | choice (ss:List Sh)
mutual
noncomputable def Sh.d:Sh->D
 | .nothing=>.tup [.str "nothing"]
 | .number lo hi=>.tup [.str "number",.int lo,.int hi]
 | .text m=>.tup [.str "text",.int m]
 | .list s m=>.tup [.str "list",s.d,.int m]
 | .pair s r=>.tup [.str "pair",s.d,r.d]
 | .choice ss=>.tup [.str "choice",.tup (shD ss)]
noncomputable def shD:List Sh->List D
 | []=>[]
 | s :: r=>s.d :: shD r
end
mutual
noncomputable def Sh.depth:Sh->Nat
 | .nothing=>1
 | .number _ _=>1
 | .text _=>1
 | .list s _=>s.depth + 1
 | .pair s r=>max s.depth r.depth + 1
 | .choice ss=>Fz ss + 1
noncomputable def Fz:List Sh->Nat
 | []=>0
 | s :: r=>max s.depth (Fz r)
end
theorem DW:∀ss:List Sh,(shD ss).length=ss.length
 | []=>rfl
 | s :: r=>by simp [shD,DW r]
theorem GN:∀(ss:List Sh) (k:Nat),(shD ss)[k]?=(ss[k]?).map Sh.d
 | [],k=>by simp [shD]
 | s :: r,0=>by simp [shD]
 | s :: r,k + 1=>by simp [shD,GN r k]
theorem CD:∀(ss:List Sh) (k:Nat) (s:Sh),ss[k]?=some s->s.depth<=Fz ss
 | [],k,s,h=>by simp at h
 | s :: r,0,s',h=>by simp at h;subst h;simp [Fz];lia
 | s :: r,k + 1,s',h=>by
   have:=CD r k s' (by simpa using h);simp [Fz];lia
theorem Sh.depth_pos (s:Sh):1<=s.depth:=by cases s <;> simp [Sh.depth]
noncomputable def BY (n:Nat):Bool:=decide (32<=n) && decide (n<=126) && decide (n≠37)
noncomputable def HX:Str->Bool:=λo=>o == ("of" : Str)
mutual
def Ak:Sh->D->Bool
 | .nothing,d=>Hd d
 | .number lo hi,d=>match d with
   | .int i=>decide (lo<=i) && decide (i<=hi)
   | _=>false
 | .text m,d=>match d with
   | .str x=>decide ((x.length:Int)<=m) && x.cps.toList.all BY
   | _=>false
 | .list s m,d=>match d with
   | .lst ds=>decide ((ds.length:Int)<=m) && ds.all λe=>Ak s e
   | _=>false
 | .pair s r,d=>match d with
   | .tup [a,b]=>Ak s a && Ak r b
   | _=>false
 | .choice ss,d=>match d with
   | .tup [.str o,.int k,x]=>HX o && (decide (0<=k) && decide (k < ss.length)) && Kc ss k.toNat x
   | _=>false
def Kc:List Sh->Nat->D->Bool
 | [],_,_=>false
 | s :: _,0,d=>Ak s d
 | _ :: r,k + 1,d=>Kc r k d
end
theorem Cy:∀(ss:List Sh) (k:Nat) (s:Sh) (d:D),ss[k]?=some s->Kc ss k d=Ak s d
 | [],k,s,d,h=>by simp at h
 | s :: r,0,s',d,h=>by simp at h;subst h;simp [Kc]
 | s :: r,k + 1,s',d,h=>by rw [Kc];exact Cy r k s' d (by simpa using h)
mutual
noncomputable def okD:D->Bool
 | .str x=>decide (x.length<=90000)
 | .tup xs=>oks xs
 | .lst xs=>oks xs
 | .obj _=>false
 | .scr _=>false
 | .exc _ _=>false
 | .ty _=>false
 | _=>true
noncomputable def oks:List D->Bool
 | []=>true
 | d :: r=>okD d && oks r
end
theorem IR:∀{xs:List D},oks xs=true->∀d∈xs,okD d=true
 | x :: r,h,d,m=>by
   rw [oks,uh5] at h;rcases uk8.mp m with z | z
   ·subst z;exact h.1
   ·exact IR h.2 d z
abbrev Pure1 (f:Fn)(ds:List D)(r:D):Prop:=∀S,Wf f ds S λv S'=>v=r/\S'=S
variable {ds:List D}
theorem Pure1.use {f:Fn}{r:D}(h:Pure1 f ds r){S:List Ob}{P:D->List Ob->Prop}(p:P r S):Wf f ds S P:=(h S).mono λ_ _ ⟨e1,e2⟩=>by subst e1 e2;exact p
noncomputable def Q1:D->Bool
 | .int _=>true
 | _=>false
theorem M6 {d:D}(h:okD d=true):Pure1 (fnOf 1 1 Gu) [d] (.bl (Q1 d)):=by
 intro S;refine An rfl ?_;unfold Gu
 cases d <;> first | (simp [okD] at h;done) | (right;exact ⟨rfl,rfl⟩)
noncomputable def Eu (lo hi:Int):D->Bool
 | .int i=>decide (lo<=i) && decide (i<=hi)
 | _=>false
def N0 (f:Fn):Prop:=∀d,okD d=true->Pure1 f [d] (.bl (Q1 d))
def FF (f:Fn):Prop:=∀d lo hi,okD d=true->Pure1 f [d,.int lo,.int hi] (.bl (Eu lo hi d))
variable {c:Fn}
theorem Sw (hc:N0 c):FF (fnOf 3 3 (DI c)):=by
 intro d lo hi h S;refine An rfl ?_;unfold DI;right;refine (hc d h).use ?_
 cases d with
 | int i=>
   right;refine Cp (λe=>?_) λe=>?_
   ·right;exact ⟨by simp only [Eu,e,ul3],rfl⟩
   ·exact ⟨by simp only [Eu,e,uk3],rfl⟩
 | _=>right;exact ⟨rfl,rfl⟩
def JL (f:Fn):Prop:=∀n:Nat,Pure1 f [.int n] (.bl (BY n))
theorem Pv:JL (fnOf 1 1 Ie):=by
 intro n S;refine An rfl ?_;unfold Ie;right;have c1:decide ((32:Int)<=n)=decide (32<=n):=decide_eq_decide.mpr (by lia);have c2:decide ((n:Int)<=126)=decide (n<=126):=decide_eq_decide.mpr (by lia);have c3:(!((n:Int) == 37))=decide (n≠37):=by
  by_cases h:n=37
  ·subst h;rfl
  ·have:¬((n:Int)=37):=by lia
   simp [h,this]
 rw [c1];refine Cp (λe=>?_) λe=>?_
 ·right;rw [c2];refine Cp (λe'=>?_) λe'=>?_
  ·right;exact ⟨by simp only [BY,e,e',c3,ul3],rfl⟩
  ·exact ⟨by simp only [BY,e,e',uk3,uk4],rfl⟩
 ·right;exact ⟨by simp only [BY,e,uk3],rfl⟩
def Mt (f:Fn):Prop:=∀m d,okD d=true->Pure1 f [(Sh.text m).d,d] (.bl (Ak (.text m) d))
theorem M3 (hc:JL c):Mt (fnOf 2 3 (Gs c)):=by
 intro m d h S;refine An rfl ?_;unfold Gs;rw [Sh.d]
 cases d with
 | str x=>
   have hx:x.length<=LIM:=um0 (by simpa [okD] using h) (show 90000<=LIM by decide);right;refine Vd hx ?_;right;refine Cp (λe=>?_) λe=>?_
   ·right;have:¬((x.length:Int)<=m):=by have:=ug9 e;lia
    exact ⟨by simp [Ak,this],rfl⟩
   ·right;have e':(x.length:Int)<=m:=by have:=of_decide_eq_false e;lia
    refine Dx (λr t=>t.S=S/\∃cs:List Nat,r=cs.map (λc=>D.str ⟨#[c]⟩)/\(x.cps.toList.all BY=cs.all BY)/\∃z,t.env=[some (.val (.tup [.str "text",.int m])),some (.val (.str x)),z]) _ _ ⟨rfl,x.cps.toList,rfl,rfl,_,rfl⟩ ?_ ?_
    ·rintro d r t ⟨hs,cs,hr,hall,z,ht⟩ _;obtain ⟨env,S2⟩:=t;subst hs ht
     cases cs with
     | nil=>simp at hr
     | cons c cs=>
       simp only [uk9,List.cons.injEq] at hr;obtain ⟨rfl,rfl⟩:=hr;right;refine ZM rfl ?_;right;refine (hc c).use ?_;right;refine Cp (λq=>?_) λq=>?_
       ·right;have q':BY c=false:=by simpa using q
        refine ⟨?_,rfl⟩;simp only [Ak,hall,ul2,q',uk3,uk4]
       ·right;have q':BY c=true:=by simpa using q
        exact ⟨rfl,cs,rfl,by rw [hall,ul2,q',ul3],_,rfl⟩
    ·rintro t ⟨hs,cs,hr,hall,z,ht⟩;obtain ⟨env,S2⟩:=t;subst hs ht;have:cs=[]:=by cases cs with | nil=>rfl | cons _ _=>simp at hr
     subst this;right;exact ⟨by simp [Ak,e',hall],rfl⟩
 | obj _=>simp [okD] at h
 | scr _=>simp [okD] at h
 | ty _=>simp [okD] at h
 | exc _ _=>simp [okD] at h
 | _=>right;exact ⟨by simp [Ak],rfl⟩
def Gx (f:Fn)(n:Nat):Prop:=∀s:Sh,s.depth<=n->∀d,okD d=true->Pure1 f [s.d,d] (.bl (Ak s d))
def Qj (f:Fn)(n:Nat):Prop:=∀(s:Sh) (m:Int),s.depth<=n->∀d,okD d=true->Pure1 f [(Sh.list s m).d,d] (.bl (Ak (.list s m) d))
theorem M1 (hc:Gx c n):Qj (fnOf 2 3 (Gp c)) n:=by
 intro s m hs d h S;refine An rfl ?_;unfold Gp;rw [Sh.d]
 cases d with
 | lst ds=>
   have hx:∀d∈ds,okD d=true:=IR (by simpa [okD] using h);right;refine Cp (λe=>?_) λe=>?_
   ·right;have:¬((ds.length:Int)<=m):=by have:=ug9 e;lia
    exact ⟨by simp [Ak,this],rfl⟩
   ·right;have e':(ds.length:Int)<=m:=by have:=of_decide_eq_false e;lia
    refine Dx (λr t=>t.S=S/\(ds.all (λe=>Ak s e)=r.all λe=>Ak s e)/\∃z,t.env=[some (.val (.tup [.str "list",s.d,.int m])),some (.val (.lst ds)),z]) _ _ ⟨rfl,rfl,_,rfl⟩ ?_ ?_
    ·rintro d r t ⟨hS,hall,z,ht⟩ hm;obtain ⟨env,S2⟩:=t;subst hS ht;right;refine (hc s hs d (hx d hm)).use ?_;right;refine Cp (λq=>?_) λq=>?_
     ·right;have q':Ak s d=false:=by simpa using q
      refine ⟨?_,rfl⟩;simp only [Ak,hall,ul2,q',uk3,uk4]
     ·right;have q':Ak s d=true:=by simpa using q
      exact ⟨rfl,by rw [hall,ul2,q',ul3],_,rfl⟩
    ·rintro t ⟨hS,hall,z,ht⟩;obtain ⟨env,S2⟩:=t;subst hS ht;right;exact ⟨by simp only [Ak,e',decide_true,hall,List.all_nil,ul3],rfl⟩
 | obj _=>simp [okD] at h
 | scr _=>simp [okD] at h
 | ty _=>simp [okD] at h
 | exc _ _=>simp [okD] at h
 | _=>right;exact ⟨by simp [Ak],rfl⟩
def Qn (f:Fn)(n:Nat):Prop:=∀(s r:Sh),s.depth<=n->r.depth<=n->∀d,okD d=true->Pure1 f [(Sh.pair s r).d,d] (.bl (Ak (.pair s r) d))
theorem M2 (hc:Gx c n):Qn (fnOf 2 2 (Gq c)) n:=by
 intro s r hs hr d h S;refine An rfl ?_;unfold Gq;rw [Sh.d]
 cases d with
 | tup ds=>
   have hx:∀d∈ds,okD d=true:=IR (by simpa [okD] using h);right
   match ds,hx with
   | [],_=>right;exact ⟨by simp [Ak],rfl⟩
   | [a],_=>right;exact ⟨by simp [Ak],rfl⟩
   | [a,b],hx=>
     right;refine (hc s hs a (hx a (by simp))).use ?_;right;refine Cp (λe=>?_) λe=>?_
     ·right;refine (hc r hr b (hx b (by simp))).use ?_;exact ⟨by simp only [Ak,e,ul3],rfl⟩
     ·exact ⟨by simp only [Ak,e,uk3],rfl⟩
   | a :: b :: e :: l,_=>
     refine Gm ?_ ?_
     ·show (!(((a :: b :: e :: l).length:Int) == 2))=true;simp;lia
     right;exact ⟨by simp [Ak],rfl⟩
 | obj _=>simp [okD] at h
 | scr _=>simp [okD] at h
 | ty _=>simp [okD] at h
 | exc _ _=>simp [okD] at h
 | _=>right;exact ⟨by simp [Ak],rfl⟩
def Mm (f:Fn)(n:Nat):Prop:=∀(ss:List Sh),Fz ss<=n->∀d,okD d=true->Pure1 f [(Sh.choice ss).d,d] (.bl (Ak (.choice ss) d))
theorem K4 {c':Fn}(hc:Gx c n)(hw:FF c'):Mm (fnOf 2 2 (Fl c c')) n:=by
 intro ss hs d h S;refine An rfl ?_;unfold Fl;rw [Sh.d]
 cases d with
 | tup ds=>
   have hx:∀d∈ds,okD d=true:=IR (by simpa [okD] using h);right
   match ds,hx with
   | [],_=>right;exact ⟨by simp [Ak],rfl⟩
   | [a],_=>right;exact ⟨by simp [Ak],rfl⟩
   | [a,b],_=>right;exact ⟨by simp [Ak],rfl⟩
   | [a,b,e],hx=>
     right;have ha:=hx a (by simp)
     cases a with
     | str o=>
       right;refine Cp (λq=>?_) λq=>?_
       ·right;have q':HX o=false:=by simpa [HX] using q
        refine ⟨?_,rfl⟩
        cases b <;> simp only [Ak,q',uk3]
       ·right;have q':HX o=true:=by simpa [HX] using q
        refine (hw b 0 _ (hx b (by simp))).use ?_;right
        cases b with
        | int k=>
          refine Cp (λq=>?_) λq=>?_
          ·right;refine ⟨?_,rfl⟩;have:(decide (0<=k) && decide (k < (ss.length:Int)))=false:=by
            have q2:k < 0\/((shD ss).length:Int) - 1 < k:=by simpa [Eu] using q
            rw [DW] at q2;simp;lia
           simp only [Ak,this,uk3,uk4]
          ·have q2:0<=k/\k<=((shD ss).length:Int) - 1:=by simpa [Eu] using q
           have q3:=q2;rw [DW] at q3;have hk:k.toNat < ss.length:=by lia
           have e1:ss[k.toNat]?=some ss[k.toNat]:=ub3 hk;have e2:atI (shD ss) k=some (ss[k.toNat]).d:=by
            unfold atI;rw [DW,Ds q3.1 (by lia)];simp [GN,e1]
           right;refine EZ e2 ?_;right;refine (hc _ (um0 (CD ss _ _ e1) hs) e (hx e (by simp))).use ?_;refine ⟨?_,rfl⟩;have:(decide (0<=k) && decide (k < (ss.length:Int)))=true:=by simp;lia
           simp only [Ak,q',this,ul3,Cy ss _ _ e e1]
        | _=>
          right;exact ⟨by simp [Ak],rfl⟩
     | obj _=>simp [okD] at ha
     | scr _=>simp [okD] at ha
     | ty _=>simp [okD] at ha
     | exc _ _=>simp [okD] at ha
     | _=>right;exact ⟨by simp [Ak],rfl⟩
   | a :: b :: e :: f :: l,_=>
     refine Gm ?_ ?_
     ·show (!(((a :: b :: e :: f :: l).length:Int) == 3))=true;simp;lia
     right;exact ⟨by simp [Ak],rfl⟩
 | obj _=>simp [okD] at h
 | scr _=>simp [okD] at h
 | ty _=>simp [okD] at h
 | exc _ _=>simp [okD] at h
 | _=>right;exact ⟨by simp [Ak],rfl⟩
variable {cc cp cl ct cw:Fn}
theorem VF (h1:Mm cc n)(h2:Qn cp n)(h3:Qj cl n)(h4:Mt ct)(h5:FF cw):Gx (fnOf 2 3 (Nc cc cp cl ct cw)) (n + 1):=by
 intro s hs d h S;refine An rfl ?_;unfold Nc
 cases s with
 | nothing=>
   rw [Sh.d];right;exact ⟨by rw [Ak],rfl⟩
 | number lo hi=>
   rw [Sh.d];right;refine (h5 d lo hi h).use ⟨?_,rfl⟩
   cases d <;> simp [Ak,Eu]
 | text m=>
   rw [Sh.d];right;exact (h4 m d h).use ⟨rfl,rfl⟩
 | list s m=>
   rw [Sh.depth] at hs;have q:=h3 s m (by lia) d h;rw [Sh.d] at q ⊢;right;exact q.use ⟨rfl,rfl⟩
 | pair s r=>
   rw [Sh.depth] at hs;have q:=h2 s r (by lia) (by lia) d h;rw [Sh.d] at q ⊢;right;exact q.use ⟨rfl,rfl⟩
 | choice ss=>
   rw [Sh.depth] at hs;have q:=h1 ss (by lia) d h;rw [Sh.d] at q ⊢;right;exact q.use ⟨rfl,rfl⟩
theorem Ge (x:Str):x.length=x.cps.toList.length:=by simp [Str.length]
theorem Lu (x y:Str):(x++y).cps.toList=x.cps.toList++y.cps.toList:=by
 show (x.cps++y.cps).toList=_;simp
variable {elt:M D}
theorem F8 {f:D->D}{fr:List (Option Sl)}{z:Option Sl}(h:∀d∈ds,W elt ⟨some (.val d) :: fr,S⟩ λx t'=>x=f d/\t'=⟨some (.val d) :: fr,S⟩) :
 W (B5 (AB 0) Gv elt ds) ⟨z :: fr,S⟩ λxs t'=>xs=ds.map f/\t'.S=S:=by
 refine (HF (P:=λxs t'=>xs=ds.map f/\t'.S=S) (λacc r t=>acc++r.map f=ds.map f/\∃z,t=⟨z :: fr,S⟩) ds [] _ ⟨rfl,z,rfl⟩ ?_ ?_).mono λxs t' h=>h
 ·rintro acc d r t ⟨h1,z,rfl⟩ hm;refine UK (ZP ?_);rw [if_pos rfl];refine (h d hm).mono λx t' z9=>?_;obtain ⟨e1,e2⟩:=z9;subst e1 e2;exact ⟨by rw [ug4];exact h1,_,rfl⟩
 ·rintro acc t ⟨h1,z,rfl⟩;exact ⟨by simpa using h1,rfl⟩
mutual
noncomputable def sz:D->Nat
 | .tup xs=>szs xs + 1
 | .lst xs=>szs xs + 1
 | _=>1
noncomputable def szs:List D->Nat
 | []=>0
 | d :: r=>sz d + szs r
end
theorem Xc {x y:Str}(h:x.cps.toList=y.cps.toList):x=y:=by
 cases x;cases y
 congr
 exact Array.toList_inj.mp h
mutual
noncomputable def wf:Sh->Bool
 | .nothing=>true
 | .number lo hi=>decide (-1000000000000000000 < lo) && decide (lo<=hi) && decide (hi < 1000000000000000000)
 | .text m=>decide (0<=m) && decide (m<=250)
 | .list s m=>decide (0<=m) && decide (m<=250) && wf s
 | .pair s r=>wf s && wf r
 | .choice ss=>decide (1<=ss.length) && decide (ss.length<=9) && wfs ss
noncomputable def wfs:List Sh->Bool
 | []=>true
 | s :: r=>wf s && wfs r
end
mutual
noncomputable def cnt:Sh->Nat
 | .list s _=>cnt s + 1
 | .pair s r=>cnt s + cnt r + 1
 | .choice ss=>XI ss + 1
 | _=>1
noncomputable def XI:List Sh->Nat
 | []=>0
 | s :: r=>cnt s + XI r
end
theorem Et:∀{ss:List Sh},wfs ss=true->∀s∈ss,wf s=true
 | x :: r,h,s,m=>by
   rw [wfs,uh5] at h;rcases uk8.mp m with z | z
   ·subst z;exact h.1
   ·exact Et h.2 s z
def OX (k c l:Nat)(S S':List Ob):Prop:=S'.length=S.length/\∀j:Nat,j≠k->j≠c->j≠l->S'[j]?=S[j]?
noncomputable def P4 (deep:Int):Int:=if deep < 2 then 0 else 2 * deep + 4
def bd (deep x:Int):Int:=if deep < 2 then 1 else max x 1 + P4 deep - (if deep + 1<=x then 1 else 0)
def tb (deep y i:Int):Int:=if deep=2 then i else if i=0 then 0 else y + P4 (deep - 1) + i - 1 - (if deep<=y then 1 else 0)
structure ShapeRes (k c l:Nat)(S:List Ob)(deep x:Int)(s:Sh)(S':List Ob):Prop where
 w:wf s=true
 dep:(s.depth:Int)<=max deep 1
 lft:S'[l]?=some (.lst [.int (x - cnt s)])
 one:x<=1->cnt s=1
 few:(cnt s:Int)<=max x 1 + P4 deep
 deck:DeckAt k c S'
 kp:OX k c l S S'
 few2:(cnt s:Int)<=bd deep x
structure Sep (ks:List (Nat×Nat)):Prop where
 sep:∀p∈ks,∀q∈ks,p=q\/(q.1≠p.1/\q.1≠p.2/\q.2≠p.1/\q.2≠p.2)
mutual
noncomputable def dpt:D->Nat
 | .lst ds=>SX ds + 1
 | .tup ds=>SX ds + 1
 | _=>1
noncomputable def SX:List D->Nat
 | []=>0
 | d :: r=>max (dpt d) (SX r)
end
mutual
noncomputable def smD:D->Bool
 | .str x=>decide (x.length<=300)
 | .int i=>decide (-1000000000000000000000000 < i) && decide (i < 1000000000000000000000000)
 | .tup xs=>decide (xs.length<=300) && sms xs
 | .lst xs=>decide (xs.length<=300) && sms xs
 | .obj _=>false
 | .scr _=>false
 | .ty _=>false
 | .exc _ _=>false
 | _=>true
noncomputable def sms:List D->Bool
 | []=>true
 | d :: r=>smD d && sms r
end
theorem HN {f:D->D->Option Bool}:∀{xs:List D},(∀d∈xs,f d d=some true)->DC f xs xs=some true
 | [],_=>rfl
 | x :: r,h=>by
   rw [DC,h x uf0,HN λd m=>h d (ud8 _ m)];rfl
variable {t:T}{P:D->T->Prop}
theorem FC {d:D}{g:Bool->Bool}(h0:Ty d=false)(h:eqN EQD d d=some true)(p:P (.bl (g true)) t):W (eqS g d d) t P:=⟨_,_,by simp [eqS,h0,h],p⟩
variable {f:M D}
theorem bi {g:M (List D)}(h:W f t λo t1=>W g t1 λas t2=>∃z ds ys,o = .str z/\as=[.lst ds]/\F7 ds=some ys/\(z.length<=8/\ys.length<=1048576)/\P (.str (Txt.join z ys)) t2):W (joinM f g) t P:=by
 refine Cq (h.mono λo t1 h1=>Cq (h1.mono λas t2 h2=>?_));obtain ⟨z,ds,ys,rfl,rfl,e,hl,p⟩:=h2;refine ⟨_,_,?_,p⟩;simp only [e];rw [if_pos hl]
theorem Iv:∀ns:List Nat,F7 (ns.map λn=>D.str ⟨#[n]⟩)=some (ns.map λn=>(⟨#[n]⟩:Str))
 | []=>rfl
 | n :: r=>by
   rw [uk9,F7,if_pos (ud5 rfl),Iv r];rfl
theorem Ke:∀(ns:List Nat) (acc:Array Nat),((ns.map λn=>(⟨#[n]⟩:Str)).foldl (λacc p=>acc++(Str.ofString "").cps++p.cps) acc).toList=acc.toList++ns
 | [],acc=>by simp
 | n :: r,acc=>by
   have e:(Str.ofString "").cps=#[]:=by decide +kernel
   rw [uk9,uj1,Ke r,e];simp
theorem Pw (ns:List Nat):(Txt.join (Str.ofString "") (ns.map λn=>(⟨#[n]⟩:Str))).cps.toList=ns:=by
 show (List.foldl (λ(acc:Array Nat) (p:Str)=>acc++(Str.ofString "").cps++p.cps) (((ns.map λn=>(⟨#[n]⟩:Str)).headD Str.empty).cps) ((ns.map λn=>(⟨#[n]⟩:Str)).drop 1)).toList=ns
 cases ns with
 | nil=>rfl
 | cons n r=>
   rw [uk9,List.drop_one,List.tail_cons,Ke];rfl
structure ValueRes (k c l:Nat)(S:List Ob)(s:Sh)(r:D)(S':List Ob):Prop where
 fit:Ak s r=true
 lft:∃a b:Int,S'[l]?=some (.lst [.int a,.int b])
 deck:DeckAt k c S'
 kp:OX k c l S S'
theorem IX {f:M (List D)}{P:Out->T->Prop}(h:W f t λds t1=>P (.ret (.lst ds)) t1):W (Ho f) t P:=W_bnd.mpr (h.mono λ_ _ p=>W_ret.mpr p)
theorem GP {g:Fn}{f:M (List D)}{P:List D->T->Prop}(h:W f t λds t1=>Wf g ds t1.S λr S'=>∃rs,r = .lst rs/\P rs ⟨t1.env,S'⟩):W (D3 g f) t P:=by
 refine W_bnd.mpr (h.mono λds t1 z9=>?_);obtain ⟨r,S',e,rs,er,p⟩:=z9;subst er;exact ⟨rs,⟨t1.env,S'⟩,by simp only [e],p⟩
variable {i:Nat}{xs:List D}
theorem Xm {P:Out->T->Prop}(e:t.env[i]?=some (some (.own xs)))(h:P (.ret (.lst xs)) ⟨t.env.set i none,t.S⟩):W (GL i) t P:=⟨_,_,by simp only [GL,e],h⟩
theorem aZ {i:Int}(h:P (.int (Builtin.Int.intBits i:Nat)) t):W (JR (.int i)) t P:=⟨_,_,rfl,h⟩
theorem dN {i j:Int}(h0:0<=j)(h:P (.int (i / 2 ^ j.toNat)) t):W (NC (.int i) (.int j)) t P:=⟨_,_,by simp [NC,i2C,h0],h⟩
variable {ys:List D}{t1:T}
theorem c6 {A:List D->Prop}(e:t1.env[i]?=some (some (.own xs)))(l:xs.length + ys.length<=LIM)(w:A (xs++ys)):∃xs,t1.env[i]?=some (some (.own xs))/\∃zs,Ec xs [.lst ys]=some zs/\A zs:=
 ⟨xs,e,xs++ys,by simp [Ec,l],w⟩
theorem GW {f:M Bool}{b:M Out}{P:Out->T->Prop}(I:Nat->T->Prop)(turn:∀n t,I n t->W f t λk t1=>match k with
 | true=>∃m,n=m + 1/\W b t1 λo t2=>match o with
   | .next=>I m t2
   | .cont=>I m t2
   | .brk=>P .next t2
   | .ret x=>P (.ret x) t2
 | false=>P .next t1):∀(fuel n:Nat) (t:T),n < fuel->I n t->W (Dp f b fuel) t P
 | 0,n,t,h,_=>absurd h (Nat.not_lt_zero _)
 | fuel + 1,n,t,h,i=>by
   obtain ⟨k,t1,e1,p⟩:=turn n t i
   cases k with
   | false=>exact ⟨_,_,by simp only [Dp,e1],p⟩
   | true=>
     obtain ⟨m,rfl,o,t2,e2,p⟩:=p
     cases o with
     | next=>obtain ⟨o,t',e',p⟩:=GW I turn fuel m t2 (by lia) p;exact ⟨o,t',by simp only [Dp,e1,e2];exact e',p⟩
     | cont=>obtain ⟨o,t',e',p⟩:=GW I turn fuel m t2 (by lia) p;exact ⟨o,t',by simp only [Dp,e1,e2];exact e',p⟩
     | brk=>exact ⟨_,_,by simp only [Dp,e1,e2],p⟩
     | ret x=>exact ⟨_,_,by simp only [Dp,e1,e2],p⟩
noncomputable def wid (n:Nat):Nat:=if n=0 then 0 else n.log2 / 8 + 1
theorem Rc (h:2<=n):n.log2=(n / 2).log2 + 1:=by rw [Nat.log2_def,if_pos h]
theorem TH (h:n < 2):n.log2=0:=by rw [Nat.log2_def,if_neg (by lia)]
theorem M8:∀(k:Nat) {n:Nat},2 ^ k<=n->n.log2=(n / 2 ^ k).log2 + k
 | 0,n,_=>by rw [Nat.pow_zero,Nat.div_one,Nat.add_zero]
 | k + 1,n,h=>by
   have h2:2 ^ k * 2<=n:=by rw [<-um4];exact h
   have h3:2<=n / 2 ^ k:=(Nat.le_div_iff_mul_le (Nat.pow_pos (by decide))).mpr (by rw [um2];exact h2);rw [M8 k (um0 (Nat.le_mul_of_pos_right _ (by decide)) h2),Rc h3,uc8,<-um4,ul4,Nat.add_comm 1 k]
theorem TD (h:256<=n):n.log2=(n / 256).log2 + 8:=M8 8 h
theorem TF (h:n < 256):n.log2 < 8:=by
 by_cases z:n=0
 ·subst z;rw [TH (by lia)];lia
 ·exact (Nat.log2_lt z).mpr h
theorem JK (h:0 < n):wid n=wid (n / 256) + 1:=by
 unfold wid;rw [if_neg (by lia)]
 by_cases z:n < 256
 ·have:=TF z;rw [if_pos (by lia)];lia
 ·rw [if_neg (by lia),TD (by lia)];lia
theorem KD:∀(k n:Nat),n < 256 ^ k->wid n<=k
 | 0,n,h=>by
   have:n=0:=by simpa using h
   subst this;decide
 | k + 1,n,h=>by
   by_cases z:n=0
   ·subst z;exact um9 _
   ·rw [JK (by lia)];have:=KD k (n / 256) (Nat.div_lt_of_lt_mul (by rw [um4] at h;lia));lia
theorem SN (n:Nat):((Builtin.Int.intBits (n:Int):Nat) + 7) / 8=wid n:=by
 unfold Builtin.Int.intBits wid
 by_cases z:n=0
 ·subst z;rfl
 ·have:((n:Int) == 0)=false:=by simp;exact z
  rw [this,if_neg (by simp),if_neg z,Int.natAbs_natCast];lia
noncomputable def nb:Nat->Nat->List D
 | 0,_=>[]
 | w + 1,n=>nb w (n / 256)++[.int ((n % 256:Nat):Int)]
theorem Nf:∀w n,(nb w n).length=w
 | 0,n=>rfl
 | w + 1,n=>by rw [nb,uf4,Nf];rfl
theorem Ro:∀w n:Nat,(List.range w).map (λk=>D.int ((n / 2 ^ (8 * (w - 1 - k)) % 256:Nat):Int))=nb w n
 | 0,n=>rfl
 | w + 1,n=>by
   rw [List.range_succ,uj7,nb,<-Ro w (n / 256)]
   congr 1
   ·refine ue6 λk hk=>?_;rw [uk2] at hk;have e:8 * (w + 1 - 1 - k)=8 + 8 * (w - 1 - k):=by lia
    rw [e,Nat.pow_add,uc8]
   ·simp
mutual
def AC:Sh->D->List D
 | .nothing,_=>[]
 | .number lo hi,d=>match d with
   | .int i=>nb (wid (hi - lo).toNat) (i - lo).toNat
   | _=>[]
 | .text _,d=>match d with
   | .str x=>.int (x.length:Nat) :: x.cps.toList.map λn=>D.int (n:Nat)
   | _=>[]
 | .list s _,d=>match d with
   | .lst ds=>.int (ds.length:Nat) :: (ds.map λd=>AC s d).flatten
   | _=>[]
 | .pair s r,d=>match d with
   | .tup [a,b]=>AC s a++AC r b
   | _=>[]
 | .choice ss,d=>match d with
   | .tup [_,.int k,x]=>.int k :: JS ss k.toNat x
   | _=>[]
def JS:List Sh->Nat->D->List D
 | [],_,_=>[]
 | s :: _,0,d=>AC s d
 | _ :: r,k + 1,d=>JS r k d
end
theorem E5:∀(ss:List Sh) (k:Nat) (s:Sh) (d:D),ss[k]?=some s->JS ss k d=AC s d
 | [],k,s,d,h=>by simp at h
 | s :: r,0,s',d,h=>by simp at h;subst h;simp [JS]
 | s :: r,k + 1,s',d,h=>by rw [JS];exact E5 r k s' d (by simpa using h)
def IC (f:Fn)(n:Nat):Prop:=∀(s:Sh),s.depth<=n->wf s=true->∀d,Ak s d=true->(AC s d).length<=LIM->Pure1 f [s.d,d] (.lst (AC s d))
def HB (f:Fn):Prop:=∀(n j:Nat),j<=1000->Pure1 f [.int n,.int j] (.int ((n / 2 ^ (8 * j):Nat):Int))
theorem VX:HB (fnOf 2 2 Ih):=by
 intro n j hj S;refine An rfl ?_;unfold Ih;right;refine Qc (V5 (by decide) (by decide)) ?_;refine dN (by lia) ?_;refine ⟨?_,rfl⟩;have:(8 * (j:Int)).toNat=8 * j:=by lia
 rw [this];simp
def JP (f:Fn):Prop:=∀n:Nat,n < 256 ^ 9->Pure1 f [.int n] (.int (wid n:Nat))
theorem UN:JP (fnOf 1 1 Fp):=by
 intro n _ S;refine An rfl ?_;unfold Fp;right;refine aZ ?_;right;refine ⟨?_,rfl⟩;rw [<-SN];simp
def Mp (f:Fn):Prop:=∀(n w:Nat),w<=1000->Pure1 f [.int n,.int w] (.lst (nb w n))
theorem OG (i:Int)(n:Nat):Bd i n=(List.range n).map λk:Nat=>D.int (i + k):=by
 rfl
theorem Wa (hc:HB c):Mp (fnOf 2 2 (ET c)):=by
 intro n w hw S;have hL:LIM=100000:=rfl;refine An rfl ?_;unfold ET;refine IX ?_;right;refine ZN (by rw [Cn (by decide) (by decide),Cn (by lia) (by lia)];rfl) ?_;refine (F8 (f:=λd=>match d with | .int k=>.int ((n / 2 ^ (8 * (w - k.toNat)) % 256:Nat):Int) | _=>d) (fr:=[some (.val (.int n)),some (.val (.int w))]) ?_).mono ?_
 ·intro d m;rw [OG] at m;obtain ⟨k,hk,rfl⟩:=um5.mp m;rw [uk2] at hk;right;have e:((w:Int) - (1 + (k:Int)))=((w - (1 + k):Nat):Int):=by lia
  rw [e];refine (hc n (w - (1 + k)) (by lia)).use ?_;right;refine ⟨?_,rfl⟩;have e2:(1 + (k:Int)).toNat=1 + k:=by lia
  dsimp only;rw [e2];simp
 ·rintro xs t' ⟨rfl,hS⟩;have hn:((w:Int) + 1 - 1).toNat=w:=by lia
  rw [OG,hn];refine CK (by simp only [ui6,List.length_range,hL];lia) ?_;refine ⟨?_,hS⟩;rw [<-Ro w n,List.map_map]
  congr 1
  refine ue6 λk hk=>?_;rw [uk2] at hk;have e2:(1 + (k:Int)).toNat=1 + k:=by lia
  have e3:w - (1 + k)=w - 1 - k:=by lia
  simp only [Function.comp,e2,e3]
theorem OO {lo hi:Int}(h:wf (.number lo hi)=true):(hi - lo).toNat < 256 ^ 9:=by
 simp only [wf,uh5,ug8] at h;have:(256:Nat) ^ 9=4722366482869645213696:=by decide
 lia
theorem Qu (x:Str):(x.cps.toList.map λc=>D.str ⟨#[c]⟩).map (λd=>match d with | .str y=>D.int (y.cps.getD 0 0:Nat) | _=>d)=x.cps.toList.map λn=>D.int (n:Nat):=by
 rw [List.map_map];refine ue6 λn _=>?_;rfl
variable {cn:Fn}
theorem VD (hc:IC c n)(hw:JP cw)(hn:Mp cn):IC (fnOf 2 5 (EE c cw cn)) (n + 1):=by
 intro s hs hwf d hf hlen S;have hL:LIM=100000:=rfl;refine An rfl ?_;unfold EE
 cases s with
 | nothing=>
   rw [Sh.d];right;refine IX ?_;right;exact ⟨by rw [AC],rfl⟩
 | number lo hi=>
   have hsp:=OO hwf;have hwd:=KD 9 _ hsp;simp only [wf,uh5,ug8] at hwf
   cases d <;> simp [Ak] at hf
   rename_i i;rw [Sh.d];right;refine IX (GP ?_);right;have e1:hi - lo=(((hi - lo).toNat:Nat):Int):=by lia
   have e2:i - lo=(((i - lo).toNat:Nat):Int):=by lia
   rw [e1,e2];refine (hw _ hsp).use ?_;right;refine (hn _ _ (by lia)).use ?_;exact ⟨_,rfl,by rw [AC],rfl⟩
 | text q=>
   simp only [wf,uh5,ug8] at hwf
   cases d <;> simp [Ak] at hf
   rename_i x;rw [Sh.d];right;refine IX ?_;refine Cq ?_;right;refine Vd (by rw [hL];lia) ?_;right;refine (F8 (f:=λd=>match d with | .str y=>D.int (y.cps.getD 0 0:Nat) | _=>d) (fr:=[]) ?_).mono ?_
   ·intro d m;obtain ⟨k,hk,rfl⟩:=um5.mp m;right;refine ZM rfl ?_;exact ⟨rfl,rfl⟩
   ·rintro xs t' ⟨rfl,hS⟩;rw [Qu];have hl:x.cps.toList.length<=250:=by rw [<-Ge];lia
    refine CK (by rw [ui6,hL];lia) ?_;right;refine CK (by simp only [ui6,uh1,uj4,hL];lia) ?_;exact ⟨by rw [AC];rfl,hS⟩
 | list s q=>
   simp only [wf,uh5,ug8] at hwf;rw [Sh.depth] at hs
   cases d <;> simp only [Ak,uf5] at hf
   rename_i ds;rw [uh5,ug8,uh9] at hf;rw [AC] at hlen ⊢;rw [Sh.d];right;refine Dx (λr t=>∃(z:Option Sl) (acc:List D),t=⟨[some (.val (.tup [.str "list",s.d,.int q])),some (.val (.lst ds)),some (.val (.str "list")),some (.own acc),z],S⟩/\acc++(r.map λd=>AC s d).flatten = .int (ds.length:Nat) :: (ds.map λd=>AC s d).flatten) _ _ ⟨_,_,rfl,rfl⟩ ?_ ?_
   ·rintro d r t ⟨z,acc,rfl,hacc⟩ m;rw [uk9,ug3,<-ug4] at hacc;have hl:acc.length + (AC s d).length<=LIM:=by
     have:=congrArg List.length hacc;rw [uf4,uf4] at this;lia
    right;refine GP ?_;right;refine (hc s (uc9 hs) hwf.2 d (hf.2 d m) (um0 (Nat.le_add_left _ _) hl)).use ⟨_,rfl,?_⟩;right;refine c6 rfl hl ?_;exact ⟨_,_,rfl,hacc⟩
   ·rintro t ⟨z,acc,rfl,hacc⟩;rw [um3,List.flatten_nil,ui8] at hacc;right;refine Xm rfl ?_;exact ⟨by rw [hacc],rfl⟩
 | pair s r=>
   simp only [wf,uh5] at hwf;rw [Sh.depth] at hs;unfold Ak at hf
   split at hf
   case h_2=>cases hf
   case h_1 a b=>
    rw [uh5] at hf;rw [AC] at hlen ⊢;rw [uf4] at hlen;rw [Sh.d];right;refine IX ?_;refine Cq ?_;right;refine GP ?_;right;refine (hc s (um0 (Nat.le_max_left _ _) (uc9 hs)) hwf.1 a hf.1 (um0 (uh8 _ _) hlen)).use ⟨_,rfl,?_⟩;refine Cq ?_;right;refine GP ?_;right;refine (hc r (um0 (Nat.le_max_right _ _) (uc9 hs)) hwf.2 b hf.2 (um0 (Nat.le_add_left _ _) hlen)).use ⟨_,rfl,?_⟩;right;refine CK hlen ?_;exact ⟨rfl,rfl⟩
 | choice ss=>
   simp only [wf,uh5,ug8] at hwf;rw [Sh.depth] at hs;unfold Ak at hf
   split at hf
   case h_2=>cases hf
   case h_1 o k x=>
    simp only [uh5,ug8] at hf;obtain ⟨⟨ho,k0,k1⟩,hf⟩:=hf;have hk:k.toNat < ss.length:=by lia
    have e1:ss[k.toNat]?=some ss[k.toNat]:=ub3 hk;have hl:=DW ss;have e2:atI (shD ss) k=some (ss[k.toNat]).d:=by
     unfold atI;rw [Ds k0 (by lia)];show (shD ss)[k.toNat]?=_;rw [GN,e1];rfl
    rw [Cy ss _ _ _ e1] at hf;rw [AC] at hlen ⊢;rw [E5 ss _ _ _ e1] at hlen ⊢;rw [uh1] at hlen;rw [Sh.d];right;refine IX ?_;right;refine GP ?_;right;refine EZ e2 ?_;right;refine (hc _ (um0 (CD ss _ _ e1) (uc9 hs)) (Et hwf.2 _ (ui1 hk)) x hf (Nat.le_of_succ_le hlen)).use ⟨_,rfl,?_⟩;right;refine CK (by simp only [uh1,uj4];lia) ?_;exact ⟨rfl,rfl⟩
theorem Kq (a:Int)(n:Nat):(Bd a n).length=n:=by simp [Bd]
variable {j:Nat}{r:List D}
theorem Li {a:Int}{d:D}(e:d :: r=(Bd a n).drop j):d = .int (a + j)/\r=(Bd a n).drop (j + 1)/\j < n:=by
 have hj:j < (Bd a n).length:=by
  rcases Nat.lt_or_ge j (Bd a n).length with h | h
  ·exact h
  ·rw [ud0 h] at e;cases e
 rw [ub0 hj] at e;injection e with e1 e2
 rw [Kq] at hj;refine ⟨?_,e2,hj⟩;rw [e1];simp [Bd]
noncomputable def sgs:Str:=" !\"#$ &'()*+,-./0123456789:;<=>?@ABCDEFGHIJKLMNOPQRSTUVWXYZ[\\]^_`abcdefghijklmnopqrstuvwxyz{|}~"
theorem Zp {c:Nat}(h:BY c=true):atI sgs.cps.toList ((c:Int) - 32)=some c:=by
 have hl:sgs.cps.toList.length=95:=by decide +kernel
 have hall:(List.range 127).all (λc=>!BY c || decide (sgs.cps.toList[c - 32]?=some c))=true:=by decide +kernel
 have h':=h;simp only [BY,uh5,ug8] at h';have:=uh9.mp hall c (uk2.mpr (by lia));rw [h,Bool.not_true,Bool.false_or,ug8] at this;rw [show ((c:Int) - 32)=((c - 32:Nat):Int) by lia];exact IE this
variable {n':Str}
section
variable {t:T}{P:D->T->Prop}{R:Out->T->Prop}
def UF (h:D->M Out)(R:Out->T->Prop)(o:Out)(t1:T):Prop:=match o with
 | .ret (.exc n ds)=>n∈Bn/\W (h (.exc n ds)) t1 R
 | o=>R o t1
theorem dR {b:M Out}{h:D->M Out}(w:W b t (UF h R)):W (EY b h) t R:=by
 obtain ⟨o,t1,e,q⟩:=w;have rest:∀d,Bf d=false->o = .ret d->W (EY b h) t R:=λd hd ho=>by
  subst ho;refine ⟨.ret d,t1,?_,?_⟩
  ·unfold EY;rw [e];cases d <;> first | rfl | cases hd
  ·cases d <;> first | exact q | cases hd
 cases o with
 | next=>exact ⟨.next,t1,by unfold EY;rw [e],q⟩
 | brk=>exact ⟨.brk,t1,by unfold EY;rw [e],q⟩
 | cont=>exact ⟨.cont,t1,by unfold EY;rw [e],q⟩
 | ret d=>
   cases d with
   | exc n ds=>
     obtain ⟨hn,o2,t2,e2,q2⟩:=q;exact ⟨o2,t2,by unfold EY;rw [e];dsimp only;rw [if_pos hn,e2],q2⟩
   | _=>exact rest _ rfl rfl
theorem Sj {h:D->M Out}(q:R .next t1):UF h R .next t1:=q
theorem Xe {h:D->M Out}{n:Str}(e:n∈Bn)(q:W (h (.exc n ds)) t1 R):UF h R (.ret (.exc n ds)) t1:=⟨e,q⟩
def xK (d:D)(A B:Prop):Prop:=if Bf d=true then A else B
theorem Vf {d:D}{A B:Prop}(e:Bf d=false)(b:B):xK d A B:=by unfold xK;rw [if_neg (by rw [e];decide)];exact b
theorem bE {d:D}{A B:Prop}(e:Bf d=true)(a:A):xK d A B:=by unfold xK;rw [if_pos e];exact a
theorem bA (w:W f t λd t1=>xK d (R (.ret d) t1) (R .next ⟨t1.env.set i (some (.val d)),t1.S⟩)):W (B9 i f) t R:=by
 refine Cq (w.mono λd t1 q=>?_);unfold xK at q
 split at q
 ·next h=>rw [if_pos h];exact ⟨_,_,rfl,q⟩
 ·next h=>rw [if_neg h];exact ⟨_,_,rfl,q⟩
theorem wNx (w:W f t λd t1=>Bf d=false/\P d t1):W (nxD f) t P:=by
 refine Cq (w.mono λd t1 z9=>?_);obtain ⟨h,q⟩:=z9;rw [if_neg (by rw [h];decide)];exact ⟨_,_,rfl,q⟩
theorem a7 {g:M D}{h:D->M D}(w:W g t λy t1=>xK y (P y t1) (W (h y) t1 λd t2=>Bf d=false/\P d t2)):W (KN g h) t P:=by
 refine Cq (w.mono λy t1 q=>?_);unfold xK at q
 split at q
 ·next z=>rw [if_pos z];exact ⟨_,_,rfl,q⟩
 ·next z=>rw [if_neg z];exact wNx q
theorem aY {g:M D}{h:D->D->M D}(w:W f t λx t1=>W (KN g (h x)) t1 P):W (Fv f g h) t P:=Cq w
theorem Xk {n:Str}{f:M (List D)}(w:W f t λds t1=>ds.length<=1000/\R (.ret (.exc n [])) t1):W (F1 n f) t R:=
 Cq (w.mono λds t1 ⟨e,q⟩=>by rw [if_pos e];exact ⟨_,_,rfl,q⟩)
theorem Xl {n:Str}(w:W f t λ_ t1=>R (.ret (.exc n [])) t1):W (F1 n (Ab f Ad)) t R:=Xk (D9 (w.mono λd t1 q=>JJ ⟨by show 1<=1000;decide,q⟩))
theorem da {n:Str}{s:M Out}{r:D->M Out}(e:EH n n'=true)(w:W s { t with env:=t.env.set i (some (.val (.exc n ds))) } λo t2=>R o (unE i t2)):W (hAs n' i s r (.exc n ds)) t R:=by
 obtain ⟨o,t2,e1,q⟩:=w;exact ⟨o,unE i t2,by unfold hAs;dsimp only;rw [if_pos e,e1],q⟩
theorem db {n:Str}{s:M Out}{r:D->M Out}(e:EH n n'=true)(w:W s t R):W (hNo n' s r (.exc n ds)) t R:=by
 obtain ⟨o,t2,e1,q⟩:=w;exact ⟨o,t2,by unfold hNo;dsimp only;rw [if_pos e,e1],q⟩
theorem bf {n:Str}{s:M Out}{r:D->M Out}(e:EH n n'=false)(w:W (r (.exc n ds)) t R):W (hNo n' s r (.exc n ds)) t R:=by
 obtain ⟨o,t2,e1,q⟩:=w;exact ⟨o,t2,by unfold hNo;dsimp only;rw [if_neg (by rw [e];decide),e1],q⟩
theorem aX {m n:Str}{d:D}(e:m∈Bn)(l:((Jr m).zip ds).lookup n=some d)(q:P d t):W (HG n (.exc m ds)) t P:=⟨_,_,by unfold HG;dsimp only;rw [if_pos e,l];rfl,q⟩
theorem GX {g:Fn}{Q:D->List Ob->Prop}(w:Wf g ds S λr S'=>Bf r=false/\Q r S'):Wf (Dg g) ds S Q:=by
 obtain ⟨r,S',e,h,q⟩:=w;exact ⟨r,S',by unfold Dg;rw [e];dsimp only;rw [if_neg (by rw [h];decide)],q⟩
end
theorem Ls {n:Str}{g:M D}{R:Out->T->Prop}(w:W f t λa t1=>W g t1 λb t2=>R (.ret (.exc n [a,b])) t2):W (DL n (Ab f (Ab g Ad))) t R:=
 Cq (D9 (w.mono λa t1 q=>D9 (q.mono λb t2 q=>JJ ⟨_,_,rfl,q⟩)))
local macro_rules | `(tactic| walk_at "x1")=>`(tactic| first
 | walk_at "w1"
 | clear 31 dR bA wDropX wAsgX wNx aY wBinY a7 wCallY Sj
 | clear 33 Xe | clear 32 Vf | clear 32 bE
 | clear 31 wRaiseT Xl | clear 33 da | clear 33 wHAsN | clear 33 db | clear 33 bf
 | clear 33 wIsiX | clear 31 wIsiXN | ((with_reducible refine' aX ?wv ?wu ?_);(case wv=>decide);(case wu=>exact rfl)))
local macro_rules | `(tactic| left)=>`(tactic| repeat (walk_at "x1"))
inductive Rd where
 | done (v:D)
 | need (ok:Nat->Bool) (nx:Nat->Rd)
inductive RR where
 | told (v:D) (a:Nat)
 | short
 | broken (a:Nat)
noncomputable def Rd.run:Rd->List Nat->Nat->RR
 | .done v,_,a=>.told v a
 | .need ok nx,w,a=>match w[a]? with
   | none=>.short
   | some b=>if ok b=true then (nx b).run w (a + 1) else .broken a
noncomputable def Rd.bnd:Rd->(D->Rd)->Rd
 | .done v,k=>k v
 | .need ok nx,k=>.need ok λb=>(nx b).bnd k
def RR.thn (r:RR)(w:List Nat)(k:D->Rd):RR:=match r with
 | .told v a=>(k v).run w a
 | .short=>.short
 | .broken a=>.broken a
variable {w:List Nat}{a:Nat}
theorem CO {ok:Nat->Bool}{nx:Nat->Rd}(h:w[a]?=none):(Rd.need ok nx).run w a = .short:=by rw [Rd.run,h]
theorem Bt {ok:Nat->Bool}{nx:Nat->Rd}{b:Nat}(h:w[a]?=some b):(Rd.need ok nx).run w a=if ok b=true then (nx b).run w (a + 1) else .broken a:=by rw [Rd.run,h]
theorem En (k:D->Rd)(w:List Nat):∀(p:Rd) (a:Nat),(p.bnd k).run w a=(p.run w a).thn w k:=by
 intro p
 induction p with
 | done v=>intro a;rfl
 | need ok nx ih=>
   intro a;rw [Rd.bnd]
   cases h:w[a]? with
   | none=>rw [CO h,CO h];rfl
   | some b=>
     rw [Bt h,Bt h]
     by_cases q:ok b=true
     ·rw [if_pos q,if_pos q];exact ih b (a + 1)
     ·rw [if_neg q,if_neg q];rfl
variable {v:D}
theorem Lp {b:Nat}:∀(p:Rd) (a:Nat),a<=w.length->p.run w a = .told v b->a<=b/\b<=w.length:=by
 intro p
 induction p with
 | done v'=>intro a ha h;cases h;exact ⟨um8 _,ha⟩
 | need ok nx ih=>
   intro a ha h
   cases e:w[a]? with
   | none=>rw [CO e] at h;cases h
   | some c=>
     rw [Bt e] at h;have hl:=(ua8.mp e).1
     by_cases q:ok c=true
     ·rw [if_pos q] at h;have:=ih c (a + 1) hl h;lia
     ·rw [if_neg q] at h;cases h
def Rd.good:Rd->Prop
 | .done _=>True
 | .need ok nx=>(ok 0=true\/ok 32=true)/\∀b,ok b=true->(nx b).good
noncomputable def Hk (lo:Int)(M:Nat):Nat->Nat->Rd
 | 0,x=>.done (.int (lo + x))
 | r + 1,x=>.need (λb=>decide (x * 256 + b<=M / 2 ^ (8 * r))) λb=>Hk lo M r (x * 256 + b)
def Io:Nat->List Nat->Rd
 | 0,cs=>.done (.str ⟨cs.toArray⟩)
 | n + 1,cs=>.need BY λc=>Io n (cs++[c])
def Hj (p:Rd):Nat->List D->Rd
 | 0,ds=>.done (.lst ds)
 | n + 1,ds=>p.bnd λv=>Hj p n (ds++[v])
def pSh:Nat->Sh->Rd
 | 0,_=>.done .non
 | _ + 1,.nothing=>.done .non
 | _ + 1,.number lo hi=>Hk lo (hi - lo).toNat (wid (hi - lo).toNat) 0
 | _ + 1,.text q=>.need (λb=>decide ((b:Int)<=q)) λb=>Io b []
 | n + 1,.list s q=>.need (λb=>decide ((b:Int)<=q)) λb=>Hj (pSh n s) b []
 | n + 1,.pair s r=>(pSh n s).bnd λv=>(pSh n r).bnd λu=>.done (.tup [v,u])
 | n + 1,.choice ss=>.need (λb=>decide (b < ss.length)) λb=>(pSh n (ss.getD b .nothing)).bnd λv=>.done (.tup [.str "of",.int b,v])
mutual
noncomputable def plD:D->Bool
 | .lst xs=>pls xs
 | .tup xs=>pls xs
 | .obj _=>false
 | .scr _=>false
 | .ty _=>false
 | .exc _ _=>false
 | .dic=>false
 | _=>true
noncomputable def pls:List D->Bool
 | []=>true
 | d :: r=>plD d && pls r
end
noncomputable def pos (i:Int):Int:=if 0 < i then i else 0
structure ValueRes2 (k c l:Nat)(S:List Ob)(s:Sh)(a b:Int)(r:D)(S':List Ob):Prop where
 fit:Ak s r=true
 lft:∃a' b':Int,S'[l]?=some (.lst [.int a',.int b'])/\((AC s r).length:Int)<=9 * (a - a') + (pos b - pos b')/\pos b'<=pos b/\1<=a - a'/\a - a'<=cnt s + (14 * (s.depth:Int)) * pos a
 deck:DeckAt k c S'
 kp:OX k c l S S'
mutual
noncomputable def szE:D->Nat
 | .lst xs=>1 + UB xs
 | .tup xs=>1 + UB xs
 | _=>1
noncomputable def UB:List D->Nat
 | []=>0
 | d :: r=>szE d + UB r
end
structure VOk (s:Sh)(v:D):Prop where
 fit:Ak s v=true
 len:(AC s v).length<=14809
local macro_rules | `(tactic| walk_at "y1")=>`(tactic| first | walk_at "x1" | clear 31 Ls)
local macro_rules | `(tactic| symm)=>`(tactic| repeat (walk_at "y1"))
noncomputable def wD (w:List Nat):List D:=w.map λ(n:Nat)=>D.int (n:Int)
theorem A6 (w:List Nat):(wD w).length=w.length:=by unfold wD;rw [ui6]
theorem So {b:Nat}(h:w[a]?=some b):(wD w)[a]?=some (.int (b:Int)):=by unfold wD;rw [ug1,h];rfl
abbrev exS:D:=.exc "Short" []
abbrev exB (a:Nat):D:=.exc "Broken" [.int (a:Int),.non]
noncomputable def rrD:RR->D
 | .told v b=>.tup [v,.int (b:Int)]
 | .short=>exS
 | .broken a=>exB a
noncomputable def byX:Option Nat->D
 | none=>exS
 | some b=>.int (b:Int)
noncomputable def upX (m:Int)(a:Nat):Option Nat->D
 | none=>exS
 | some b=>if (b:Int)<=m then .int (b:Int) else exB a
def sgX (a:Nat):Option Nat->D
 | none=>exS
 | some c=>if BY c=true then .str ⟨#[c]⟩ else exB a
def RX (c:Fn)(s:Sh)(p:Rd):Prop:=∀(w:List Nat) (a:Nat),a<=w.length->Pure1 c [s.d,.lst (wD w),.int (a:Int)] (rrD (p.run w a))
noncomputable def seg (w:List Nat)(a b:Nat):List Nat:=(w.drop a).take (b - a)
theorem GQ (x y:List Nat):wD (x++y)=wD x++wD y:=by unfold wD;rw [uj7]
theorem Oq:∀(r y:Nat),nb (r + 1) y = .int ((y / 256 ^ r % 256:Nat):Int) :: nb r y
 | 0,y=>by rw [nb,nb,nb,Nat.pow_zero,Nat.div_one];rfl
 | r + 1,y=>by
   rw [show nb (r + 1 + 1) y=nb (r + 1) (y / 256)++[.int ((y % 256:Nat):Int)] from rfl,Oq r (y / 256),ui2,show nb (r + 1) y=nb r (y / 256)++[.int ((y % 256:Nat):Int)] from rfl,uc8,show 256 * 256 ^ r=256 ^ (r + 1) by rw [um4,um2]]
variable {kvs:List (Key×D)}
theorem AH {x:Str}{d:D}(e:t.S[n]?=some (.dct kvs))(e2:AU kvs (.inr x)=some d)(h:P d t):W (AL (.obj n) (.str x)) t P:=
 ⟨d,t,by simp only [AL,e,e2];rfl,h⟩
theorem KC {g:M D}{d:D}{U:Unit->T->Prop}(h:W f t λo t1=>W g t1 λi t2=>W (GO o i d) t2 U):W (E3 f g d) t U:=Cq (h.mono λo t1 h1=>Cq h1)
theorem Dm {x:Str}{d:D}{U:Unit->T->Prop}(e:t.S[n]?=some (.dct kvs))(hl:kvs.length < LIM)(h:U () ⟨t.env,t.S.set n (.dct (Br kvs (.inr x) d))⟩):W (GO (.obj n) (.str x) d) t U:=
 ⟨(),_,by simp only [GO,e,if_pos hl],h⟩
theorem Hw {l:List (Str×M D)}(h:W (D4 l) ⟨t.env,t.S++[.dct []]⟩ λps t1=>t1.S[t.S.length]?=some (.dct [])/\ps.length<=15/\P (.obj t.S.length) ⟨t1.env,t1.S.set t.S.length (.dct (Bi ps))⟩):W (Ey l) t P:=by
 obtain ⟨ps,t1,e1,e2,e3,p⟩:=h;refine ⟨_,_,?_,p⟩;unfold Ey bnd;simp only [e1];unfold FB;simp only [e2,if_pos e3]
theorem DQ {Q:List (Key×D)->T->Prop}(h:Q [] t):W (D4 []) t Q:=⟨_,_,rfl,h⟩
theorem Bg {k:Str}{r:List (Str×M D)}{Q:List (Key×D)->T->Prop}(h:W f t λd t1=>W (D4 r) t1 λps t2=>Q ((.inr k,d) :: ps) t2):W (D4 ((k,f) :: r)) t Q:=
 Cq (h.mono λd t1 h1=>Cq (h1.mono λps t2 h2=>⟨_,_,rfl,h2⟩))
structure St where
 rest:Int
 mixed:Bool
 turn:Int
noncomputable def St.ob (s:St):Ob:=.dct [(.inr (Str.ofString "rest"),.int s.rest),(.inr (Str.ofString "mixed"),.bl s.mixed),(.inr (Str.ofString "turn"),.int s.turn)]
noncomputable def take (s:St)(m:Int):Int×St:=
 if s.mixed=false then (s.rest % m,⟨s.rest / m,s.mixed,s.turn⟩)
 else
  let stir:=(s.rest % 2147483579 + 70001 * (s.turn + 1)) % 2147483579
  let rest:=(stir * stir % 2147483563 * 50021 + 7) % 2147483579
  (rest / 5 % m,⟨rest,s.mixed,s.turn + 1⟩)
theorem Dl (a:Int)(n:Nat):(Bd a n).length=n:=by simp [Bd]
inductive GS where
 | fin
 | st (side:Str) (ws:List (Str×Sh×Int))
def wdD (w:Str×Sh×Int):D:=.tup [.str w.1,w.2.1.d,.int w.2.2]
def GS.d:GS->D
 | .fin=>.tup [.str (Str.ofString "end")]
 | .st side ws=>.tup [.str side,.lst (ws.map wdD)]
noncomputable def GS.isFin:GS->Bool
 | .fin=>true
 | _=>false
theorem F4 {a:Int}{d:D}(e:d :: r=(Bd a n).drop j):d = .int (a + j)/\r=(Bd a n).drop (j + 1)/\j < n:=by
 have hj:j < (Bd a n).length:=by
  rcases Nat.lt_or_ge j (Bd a n).length with h | h
  ·exact h
  ·rw [ud0 h] at e;cases e
 rw [ub0 hj] at e;injection e with e1 e2
 rw [Dl] at hj;refine ⟨?_,e2,hj⟩;rw [e1];simp [Bd]
structure WOk (n:Int)(w:Str×Sh×Int):Prop where
 ok:wf w.2.1=true
 dep:w.2.1.depth<=3
 lo:0<=w.2.2
 hi:w.2.2 < n
 nm:w.1.length<=90000
inductive GSOk (n:Int):GS->Prop
 | fin:GSOk n .fin
 | st {side:Str} {ws:List (Str×Sh×Int)}:(side=Str.ofString "left"\/side=Str.ofString "right")->0 < ws.length->ws.length<=9->(ws.map (·.1)).Nodup->(∀w∈ws,WOk n w)->GSOk n (.st side ws)
structure GOk (g:List GS):Prop where
 ne:0 < g.length
 le:g.length<=30
 all:∀x∈g,GSOk g.length x
def Gy (f:Fn):Prop:=∀(n:Int) (x:GS),GSOk n x->Pure1 f [x.d] (.bl x.isFin)
theorem Q3:Gy (fnOf 1 1 Jt):=by
 intro n x hx S;refine An rfl ?_;unfold Jt
 cases hx with
 | fin=>
   rw [GS.d];right;exact ⟨by simp [GS.isFin],rfl⟩
 | st hs _ _ _ _=>
   rw [GS.d];right;refine ⟨?_,rfl⟩;rcases hs with rfl | rfl <;> simp [GS.isFin]
def GS.words:GS->D
 | .fin=>.tup []
 | .st _ ws=>.lst (ws.map wdD)
noncomputable def GS.ws:GS->List (Str×Sh×Int)
 | .fin=>[]
 | .st _ ws=>ws
def KL (f:Fn):Prop:=∀(n:Int) (x:GS),GSOk n x->Pure1 f [x.d] x.words
variable {ce:Fn}
theorem UO (he:Gy ce):KL (fnOf 1 1 (Hg ce)):=by
 intro n x hx S;refine An rfl ?_;unfold Hg
 cases x with
 | fin=>
   right;refine (he n .fin hx).use ?_;right;exact ⟨rfl,rfl⟩
 | st side ws=>
   right;refine (he n (.st side ws) hx).use ?_;rw [GS.d];right;exact ⟨rfl,rfl⟩
def Nn:Option Nat->D
 | some i=>.int i
 | none=>.non
def Jg (f:Fn):Prop:=∀(n:Int) (x:GS) (nm:Str),GSOk n x->Pure1 f [x.d,.str nm] (Nn (x.ws.findIdx? λw=>w.1 == nm))
variable {α:Type}
theorem HU {p:α->Bool}{l:List α}(h:∀i (hi:i < l.length),i < j->p l[i]=false){x:α}(hx:l[j]?=some x)(hp:p x=true):l.findIdx? p=some j:=by
 obtain ⟨hj,e⟩:=ua8.mp hx;rw [List.findIdx?_eq_some_iff_getElem];exact ⟨hj,by rw [e];exact hp,λi hi=>by simpa using h i (by lia) hi⟩
theorem Lg (hw:KL cw):Jg (fnOf 2 4 (Fm cw)):=by
 intro n x nm hx S;refine An rfl ?_;unfold Fm;right;refine (hw n x hx).use ?_;have key:∀(ws:List (Str×Sh×Int)) (d:D),ws.length<=9->(∀(t:T) (P:D->T->Prop),P (.int ws.length) t->W (A0 [d]) t P)->(∀(t:T) (P:D->T->Prop) (i:Nat) (w:Str×Sh×Int),ws[i]?=some w->P (wdD w) t->W (ixD d (.int i)) t P)->
  W (Af (B8 (CP (Ab (fB (Ab (Aa 2) Ad) A0) Ad)) (AB 3)
  (ifS (Aq (Ac (Ac (Ac (Aa 2) (Aa 3) ixD) (fC (.int 0)) ixD) (Aa 1) (eqS id)))
  (Ao (Aa 3))
  Au))
 (Ao (fC .non))) ⟨[some (.val x.d),some (.val (.str nm)),some (.val d),none],S⟩ λo t=>match o with
   | .ret r=>r=Nn (ws.findIdx? λw=>w.1 == nm)/\t.S=S
   | .next=>D.non=Nn (ws.findIdx? λw=>w.1 == nm)/\t.S=S
   | _=>False:=by
   intro ws d hl len ix;right;refine len _ _ ?_;right;refine Gw (Cn (by lia) (by lia)) ?_;refine Dx (λr t=>∃(j:Nat) (e3:Option Sl),(∀i (hi:i < ws.length),i < j->(ws[i].1 == nm)=false)/\j<=ws.length/\r=(Bd 0 ((ws.length:Nat):Int).toNat).drop j/\t=⟨[some (.val x.d),some (.val (.str nm)),some (.val d),e3],S⟩) _ _ ⟨0,none,λi hi h=>absurd h (by lia),by lia,rfl,rfl⟩ ?_ ?_
   ·rintro d' r t ⟨j,e3,hj,hjl,hr,rfl⟩ _;obtain ⟨rfl,hr',hjn⟩:=F4 hr;rw [ug2] at hjn;have e:ws[j]?=some ws[j]:=ub3 hjn;rw [um6];right;refine ix _ _ j _ e ?_;unfold wdD;right;refine Cp (λq=>?_) λq=>?_
    ·right;refine ⟨?_,rfl⟩;rw [HU hj e q];rfl
    ·right;refine ⟨j + 1,_,λi hi hij=>?_,by lia,hr',rfl⟩;rcases Nat.lt_or_ge i j with h | h
     ·exact hj i hi h
     ·have:i=j:=by lia
      subst this;exact q
   ·rintro t ⟨j,e3,hj,hjl,hr,rfl⟩;have hj':j=ws.length:=by
     have:=congrArg List.length hr;rw [uj4,uh4,Dl,ug2] at this;lia
    subst hj';right;refine ⟨?_,rfl⟩;rw [List.findIdx?_eq_none_iff.mpr]
    ·rfl
    ·intro w hw';obtain ⟨i,hi,rfl⟩:=List.mem_iff_getElem.mp hw';exact hj i hi hi
 cases hx with
 | fin=>
   refine Eo ?_;refine key [] (.tup []) (by decide) (λt P h=>Ve h) λt P i w e h=>?_;simp at e
 | @st side ws h1 h2 h3 h4 h5=>
   refine Eo ?_;refine key ws (.lst (ws.map wdD)) h3 (λt P h=>Qb (by rw [ui6];exact h)) λt P i w e h=>?_;obtain ⟨hi,_⟩:=ua8.mp e;refine Bb ?_ h;unfold atI;rw [Ds (by lia) (by rw [ui6];lia)];show (ws.map wdD)[(i:Int).toNat]?=_;rw [ug2,ug1,e];rfl
noncomputable def GS.side:GS->Str
 | .fin=>Str.ofString "end"
 | .st s _=>s
noncomputable def Aw (g:List GS)(q:Nat):GS:=g.getD q .fin
def wdAt (g:List GS)(q p:Nat):Str×Sh×Int:=(Aw g q).ws.getD p (Str.ofString "",.nothing,0)
def BR (g:List GS)(q p:Nat):Nat:=(wdAt g q p).2.2.toNat
def DJ (g:List GS)(q p:Nat)(v:D):D:=.tup [.str (Aw g q).side,.str (wdAt g q p).1,v]
abbrev Mv:=Nat×D
def Ap (g:List GS):Nat->List Mv->Nat
 | q,[]=>q
 | q,(p,_) :: r=>Ap g (BR g q p) r
def AO (g:List GS):Nat->List Mv->List D
 | _,[]=>[]
 | q,(p,v) :: r=>DJ g q p v :: AO g (BR g q p) r
def Bv (g:List GS):Nat->List Mv->List D
 | _,[]=>[]
 | q,(p,_) :: r=>.tup [.int q,.int p] :: Bv g (BR g q p) r
structure MvOk (g:List GS)(q:Nat)(p:Nat)(v:D):Prop where
 lt:q < g.length
 pl:p < (Aw g q).ws.length
 fit:Ak (wdAt g q p).2.1 v=true
def okQ (g:List GS):Nat->List Mv->Prop
 | _,[]=>True
 | q,(p,v) :: r=>MvOk g q p v/\okQ g (BR g q p) r
theorem C5 (g:List GS):∀(q:Nat) (a b:List Mv),Ap g q (a++b)=Ap g (Ap g q a) b
 | q,[],b=>rfl
 | q,(p,v) :: r,b=>by rw [ui2,Ap,Ap,C5 g _ r b]
theorem LI (g:List GS):∀(q:Nat) (a b:List Mv),AO g q (a++b)=AO g q a++AO g (Ap g q a) b
 | q,[],b=>rfl
 | q,(p,v) :: r,b=>by rw [ui2,AO,AO,Ap,LI g _ r b];rfl
theorem Hr (g:List GS):∀(q:Nat) (a b:List Mv),Bv g q (a++b)=Bv g q a++Bv g (Ap g q a) b
 | q,[],b=>rfl
 | q,(p,v) :: r,b=>by rw [ui2,Bv,Bv,Ap,Hr g _ r b];rfl
theorem Em (g:List GS):∀(q:Nat) (a b:List Mv),okQ g q (a++b)↔okQ g q a/\okQ g (Ap g q a) b
 | q,[],b=>by simp [okQ,Ap]
 | q,(p,v) :: r,b=>by rw [ui2,okQ,okQ,Ap,Em g _ r b,and_assoc]
theorem DK (g:List GS):∀(q:Nat) (a:List Mv),(AO g q a).length=a.length
 | q,[]=>rfl
 | q,(p,v) :: r=>by rw [AO,uh1,DK g _ r,uh1]
theorem EG (g:List GS):∀(q:Nat) (a:List Mv),(Bv g q a).length=a.length
 | q,[]=>rfl
 | q,(p,v) :: r=>by rw [Bv,uh1,EG g _ r,uh1]
theorem Ik (g:List GS):∀(q:Nat) (a:List Mv) (i:Nat) (p:Nat) (v:D),a[i]?=some (p,v)->(AO g q a)[i]?=some (DJ g (Ap g q (a.take i)) p v)
 | q,[],i,p,v,h=>by simp at h
 | q,(p',v') :: r,0,p,v,h=>by
   simp at h;obtain ⟨rfl,rfl⟩:=h;rfl
 | q,(p',v') :: r,i + 1,p,v,h=>by
   rw [AO,ub9,Ik g _ r i p v (by simpa using h),ue8,Ap]
variable {g:List GS}{q:Nat}
theorem TU {a:List Mv}(h:okQ g q a)(i:Nat):okQ g q (a.take i):=by
 rw [<-ud7 i a,Em] at h;exact h.1
theorem Ou {a:List Mv}(h:okQ g q a){i p:Nat}{v:D}(e:a[i]?=some (p,v)):MvOk g (Ap g q (a.take i)) p v:=by
 obtain ⟨hi,e'⟩:=ua8.mp e;have hd:a.drop i=(p,v) :: a.drop (i + 1):=by rw [ub0 hi,e']
 rw [<-ud7 i a,Em,hd,okQ] at h;exact h.2.1
theorem CW (h:GOk g){q:Nat}(hq:q < g.length):GSOk g.length (Aw g q):=by
 unfold Aw;rw [ua7,ub3 hq];exact h.all _ (ui1 hq)
theorem CJ (hq:q < g.length):atI (g.map GS.d) q=some (Aw g q).d:=by
 unfold atI;rw [Ds (by lia) (by rw [ui6];lia)];show (g.map GS.d)[(q:Int).toNat]?=_;unfold Aw;rw [ug2,ug1,ua7,ub3 hq];rfl
theorem E4 {p:Nat}(hp:p < (Aw g q).ws.length):∃side ws,Aw g q = .st side ws/\p < ws.length/\ws[p]?=some (wdAt g q p):=by
 unfold wdAt
 cases e:Aw g q with
 | fin=>rw [e] at hp;simp [GS.ws] at hp
 | st side ws=>
   rw [e] at hp;have hp:p < ws.length:=hp;refine ⟨side,ws,rfl,hp,?_⟩;show ws[p]?=some (ws.getD p _);rw [ua7,ub3 hp];rfl
theorem Iz {ws:List (Str×Sh×Int)}{p:Nat}{w:Str×Sh×Int}(e:ws[p]?=some w):atI (ws.map wdD) p=some (wdD w):=by
 obtain ⟨hp,_⟩:=ua8.mp e;unfold atI;rw [Ds (by lia) (by rw [ui6];lia)];show (ws.map wdD)[(p:Int).toNat]?=_;rw [ug2,ug1,e];rfl
theorem FA (h:GOk g){q p:Nat}(hq:q < g.length)(hp:p < (Aw g q).ws.length):WOk g.length (wdAt g q p):=by
 obtain ⟨side,ws,e,hp',e2⟩:=E4 hp;have:=CW h hq;rw [e] at this
 cases this with
 | st _ _ _ _ h5=>exact h5 _ (ue0 e2)
theorem Os (h:GOk g){q p:Nat}(hq:q < g.length)(hp:p < (Aw g q).ws.length):BR g q p < g.length:=by
 have:=FA h hq hp;unfold BR;have h1:=this.lo;have h2:=this.hi;lia
theorem GC {g:List GS}(h:GOk g):∀{a:List Mv} {q:Nat},q < g.length->okQ g q a->Ap g q a < g.length
 | [],q,hq,_=>hq
 | (p,v) :: r,q,hq,hk=>by
   rw [okQ] at hk;rw [Ap];exact GC h (Os h hq hk.1.pl) hk.2
theorem Pq {ws:List (Str×Sh×Int)}(nd:(ws.map (·.1)).Nodup){p:Nat}{w:Str×Sh×Int}(e:ws[p]?=some w):(ws.findIdx? λx=>x.1 == w.1)=some p:=by
 obtain ⟨hp,ep⟩:=ua8.mp e;refine HU (λi hi hip=>?_) e (by simp);rw [<-ep];have hne:¬ws[i].1=ws[p].1:=λz=>by
  have h1:i < (ws.map (·.1)).length:=by rw [ui6];exact hi
  have h2:p < (ws.map (·.1)).length:=by rw [ui6];exact hp
  have:(ws.map (·.1))[i]=(ws.map (·.1))[p]:=by rw [List.getElem_map,List.getElem_map];exact z
  have:=(uh0 nd).mp this;lia
 simpa using hne
theorem Ov:∀{xs:List D},(∀d∈xs,okD d=true)->oks xs=true
 | [],_=>by rw [oks]
 | d :: r,h=>by rw [oks,h d uf0,Ov λx m=>h x (ud8 _ m)];rfl
theorem FL:∀(n:Nat) (s:Sh),s.depth<=n->wf s=true->∀v,Ak s v=true->okD v=true
 | 0,s,h,_,_,_=>absurd s.depth_pos (by lia)
 | n + 1,s,hd,hw,v,h=>by
   cases s with
   | nothing=>cases v <;> first | rfl | (simp [Ak,Hd] at h;done)
   | number lo hi=>cases v <;> first | rfl | (simp [Ak] at h;done)
   | text q=>
     simp only [wf,uh5,ug8] at hw
     cases v <;> simp only [Ak,uf5] at h
     simp only [uh5,ug8] at h;rw [okD,ug8];lia
   | list s q=>
     rw [Sh.depth] at hd;simp only [wf,uh5,ug8] at hw
     cases v <;> simp only [Ak,uf5] at h
     simp only [uh5,ug8,uh9] at h;rw [okD];exact Ov λd m=>FL n s (by lia) hw.2 d (h.2 d m)
   | pair a b=>
     rw [Sh.depth] at hd;simp only [wf,uh5] at hw;unfold Ak at h
     split at h
     ·rw [uh5] at h;rw [okD,oks,oks,oks,FL n a (by lia) hw.1 _ h.1,FL n b (by lia) hw.2 _ h.2];rfl
     ·cases h
   | choice ss=>
     rw [Sh.depth] at hd;simp only [wf,uh5,ug8] at hw;unfold Ak at h
     split at h
     ·next o k x=>
      simp only [uh5,ug8] at h;have hk:k.toNat < ss.length:=by lia
      have e1:ss[k.toNat]?=some ss[k.toNat]:=ub3 hk;have h2:=h.2;rw [Cy ss _ _ _ e1] at h2;have ho:o=("of" : Str):=eq_of_beq h.1.1;have hx:=FL n _ (um0 (CD ss _ _ e1) (by lia)) (Et hw.2 _ (ui1 hk)) x h2;subst ho;have hl:okD (.str ("of" : Str))=true:=by decide +kernel
      rw [okD,oks,oks,oks,oks,hl,hx];rfl
     ·cases h
def GU (f:Fn):Prop:=∀(g:List GS) (q p:Nat) (v:D),GOk g->MvOk g q p v->Pure1 f [(Aw g q).d,DJ g q p v] (.int p)
theorem LZ {cf:Fn}(hf:Gx cf 3)(hp:Jg cp):GU (fnOf 2 3 (FT cf cp)):=by
 intro g q p v hg hm S;refine An rfl ?_;unfold FT;obtain ⟨side,ws,e,hpl,ew⟩:=E4 hm.pl;have hgs:=CW hg hm.lt;have hw:=FA hg hm.lt hm.pl;have hfit:=hm.fit;unfold DJ;rw [e] at hgs ⊢;generalize wdAt g q p=w at ew hw hfit ⊢;have hov:okD v=true:=FL 3 w.2.1 hw.dep hw.ok v hfit;show W _ ⟨[some (.val (.tup [.str side,.lst (ws.map wdD)])),some (.val (.tup [.str side,.str w.1,v])),none],S⟩ _;right;refine EA (by simp) ?_;right;have hpn:=hp g.length (.st side ws) w.1 hgs;have hidx:((GS.st side ws).ws.findIdx? λx=>x.1 == w.1)=some p:=by
  cases hgs with
  | st _ _ _ h4 _=>exact Pq h4 ew
 rw [hidx] at hpn;refine hpn.use ?_;show DM _ _ .next ⟨[some (.val (.tup [.str side,.lst (ws.map wdD)])),some (.val (.tup [.str side,.str w.1,v])),some (.val (.int p))],S⟩;right;refine Bb (Iz ew) ?_;unfold wdD;right;refine (hf w.2.1 hw.dep v hov).use ?_;rw [hfit];right;exact ⟨rfl,rfl⟩
def HC (f:Fn):Prop:=∀(g:List GS) (q p:Nat),GOk g->q < g.length->p < (Aw g q).ws.length->Pure1 f [.lst (g.map GS.d),.tup [.int q,.int p]] (.int (BR g q p))
theorem V8:HC (fnOf 2 2 FV):=by
 intro g q p hg hq hp S;refine An rfl ?_;unfold FV;obtain ⟨side,ws,e,hpl,ew⟩:=E4 hp;have hw:=FA hg hq hp;have hlo:=hw.lo;right;refine Bb (CJ hq) ?_;rw [e,GS.d];right;refine Bb (Iz ew) ?_;unfold wdD;right;refine ⟨?_,rfl⟩;unfold BR
 congr 1
 lia
variable {y:D}
theorem t7 {a0 a1 e4 e5 e6:Option Sl}{x:D}{X Y:List D}(h:x=y)(h2:X=Y):(⟨[a0,a1,some (.val x),some (.own X),e4,e5,e6],S⟩:T)=⟨[a0,a1,some (.val y),some (.own Y),e4,e5,e6],S⟩:=by subst h h2;rfl
abbrev kR:Key:=.inr (Str.ofString "rest")
abbrev kM:Key:=.inr (Str.ofString "mixed")
abbrev kC:Key:=.inr (Str.ofString "count")
abbrev aC (a b c:D):List (Key×D):=[(kR,a),(kM,b),(kC,c)]
def Room (k r:Nat)(S:List Ob):Prop:=∃(a c:Int) (b:Bool),S[k]?=some (.dct (aC (.int a) (.bl b) (.int c)))/\0<=c/\c + r<=1000000000000000000000000000000
theorem A7 {k:Nat}{o o':Ob}(h:S[k]?=some o):(S.set k o')[k]?=some o':=II h
theorem CT {x:Ob}:(S++[x])[S.length]?=some x:=by simp
noncomputable def cs:Nat->Nat
 | 0=>10
 | d + 1=>10 + 3 * cs d
structure Drawn (k r:Nat)(dp:Nat)(v:D)(S':List Ob):Prop where
 ex:∃s:Sh,v=s.d/\s.depth<=dp/\wf s=true
 pool:Room k r S'
noncomputable def vB:Nat->Nat
 | 0=>10
 | m + 1=>10 + vB m * 3
structure Val (k r:Nat)(s:Sh)(c:Nat)(v:D)(S':List Ob):Prop where
 fit:Ak s v=true
 len:(AC s v).length<=c
 pool:Room k r S'
def hd1 (x:Str):Option Nat:=x.cps.toList.head?
def okB (g:List GS):Nat->List Mv->Prop
 | _,[]=>True
 | q,(p,v) :: r=>(AC (wdAt g q p).2.1 v).length<=400/\okB g (BR g q p) r
structure TOk (g:List GS)(mv:List Mv):Prop where
 ok:okQ g 0 mv
 bd:okB g 0 mv
 len:mv.length<=60
theorem Mj {k:Nat}{h:List D->List D->Option (List D)}{g:M (List D)}(w:W f t λo t1=>o = .obj k/\∃xs0,t1.S[k]?=some (.lst xs0)/\W g t1 λds t2=>∃xs ys,t2.S[k]?=some (.lst xs)/\h xs ds=some ys/\P .non ⟨t2.env,t2.S.set k (.lst ys)⟩):W (objM h f g) t P:=by
 unfold objM;refine W_bnd.mpr (w.mono λo t1 z9=>?_);obtain ⟨e,xs0,e1,w⟩:=z9;subst e;obtain ⟨ds,t2,e2,xs,ys,e3,e4,p⟩:=w;refine ⟨_,_,?_,p⟩;simp only [e1,bnd,e2,e3,e4];rfl
def Am (g:List GS)(sd:Str):Nat->List Mv->List D
 | _,[]=>[]
 | q,(p,v) :: r=>(if (Aw g q).side=sd then .int p :: AC (wdAt g q p).2.1 v else [])++Am g sd (BR g q p) r
theorem CH (g:List GS)(sd:Str):∀(q:Nat) (a b:List Mv),Am g sd q (a++b)=Am g sd q a++Am g sd (Ap g q a) b
 | q,[],b=>rfl
 | q,(p,v) :: r,b=>by rw [ui2,Am,Am,Ap,CH g sd _ r b,ug4]
theorem Kv (g:List GS):∀(q:Nat) (a:List Mv) (i:Nat) (p:Nat) (v:D),a[i]?=some (p,v)->(Bv g q a)[i]?=some (.tup [.int (Ap g q (a.take i)),.int p])
 | q,[],i,p,v,h=>by simp at h
 | q,(p',v') :: r,0,p,v,h=>by
   simp at h;obtain ⟨rfl,rfl⟩:=h;rfl
 | q,(p',v') :: r,i + 1,p,v,h=>by
   rw [Bv,ub9,Kv g _ r i p v (by simpa using h),ue8,Ap]
abbrev kL:Key:=.inr (Str.ofString "left")
abbrev kRt:Key:=.inr (Str.ofString "right")
theorem kLR:¬kL=kRt:=by intro h;injection h with h;rw [Il] at h;exact absurd h (by decide)
theorem kRL:¬kRt=kL:=λh=>kLR h.symm
theorem sLR:¬Str.ofString "left" = Str.ofString "right":=λh=>kLR (congrArg Sum.inr h)
variable {b:D}
theorem IN {a:D}:AU [(kL,a),(kRt,b)] kL=some a:=by simp [AU,uj3]
theorem IP {a:D}:AU [(kL,a),(kRt,b)] kRt=some b:=by
 unfold AU;rw [uj3,show decide (kL=kRt)=false from uk1 kLR];simp [uj3]
theorem EM {a:D}:Bi [(kL,a),(kRt,b)]=[(kL,a),(kRt,b)]:=by
 unfold Bi;simp only [uj1,List.foldl_nil];have e1:Br [] kL a=[(kL,a)]:=by simp [Br]
 rw [e1];unfold Br;rw [if_neg (by simp only [ul1,List.any_nil,ul0,ug8];exact kLR)];rfl
theorem VZ {a d:D}:Br [(kL,a),(kRt,b)] kL d=[(kL,d),(kRt,b)]:=by
 unfold Br;rw [if_pos (by simp)];simp only [uk9,um3,if_true,if_neg kRL]
theorem V0 {a d:D}:Br [(kL,a),(kRt,b)] kRt d=[(kL,a),(kRt,d)]:=by
 unfold Br;rw [if_pos (by simp)];simp only [uk9,um3,if_true,if_neg kLR]
theorem Ln (hg:GOk g){q p:Nat}{v:D}(h:MvOk g q p v):(Aw g q).side=Str.ofString "left"\/(Aw g q).side=Str.ofString "right":=by
 obtain ⟨side,ws,e,hpl,ew⟩:=E4 h.pl;have:=CW hg h.lt;rw [e] at this ⊢
 cases this with
 | st hs _ _ _ _=>exact hs
abbrev sL:Str:=Str.ofString "left"
abbrev sR:Str:=Str.ofString "right"
structure Wr (K A B:Nat)(S:List Ob)(xs ys:List D):Prop where
 k:S[K]?=some (.dct [(kL,.obj A),(kRt,.obj B)])
 a:S[A]?=some (.lst xs)
 b:S[B]?=some (.lst ys)
 ab:A≠B
 ka:K≠A
 kb:K≠B
theorem Kt {o x:Ob}(h:i≠j)(e:S[j]?=some o):(S.set i x)[j]?=some o:=by rw [ud9 h];exact e
variable {K:Nat}
theorem Wr.setA {A B:Nat}{zs:List D}(h:Wr K A B S xs ys):Wr K A B (S.set A (.lst zs)) zs ys:=⟨Kt (Ne.symm h.ka) h.k,II h.a,Kt h.ab h.b,h.ab,h.ka,h.kb⟩
theorem Wr.setB {A B:Nat}{zs:List D}(h:Wr K A B S xs ys):Wr K A B (S.set B (.lst zs)) xs zs:=⟨Kt (Ne.symm h.kb) h.k,Kt (Ne.symm h.ab) h.a,II h.b,h.ab,h.ka,h.kb⟩
def FrO (F:List (Nat×Ob))(k:Nat)(S:List Ob):Prop:=∀p∈F,p.1≠k/\S[p.1]?=some p.2
def eF (F:List (Nat×Ob))(S:List Ob):Prop:=∀p∈F,S[p.1]?=some p.2
def ZV (F:List (Nat×Ob))(k r:Nat)(S:List Ob):Prop:=Room k r S/\FrO F k S
structure ValF (F:List (Nat×Ob))(k r:Nat)(s:Sh)(c:Nat)(v:D)(S':List Ob):Prop where
 fit:Ak s v=true
 len:(AC s v).length<=c
 pool:ZV F k r S'
def GS.sd:GS->Str
 | .fin=>Str.ofString "end"
 | .st s _=>s
inductive Odd (x:GS):D->Prop
 | non:Odd x .non
 | lst {ds:List D}:Odd x (.lst ds)
 | two {a b:D}:Odd x (.tup [a,b])
 | four {a b c d:D}:Odd x (.tup [a,b,c,d])
 | sideN {b c:D}:Odd x (.tup [.non,b,c])
 | side {s:Str} {b c:D}:¬s=x.sd->Odd x (.tup [.str s,b,c])
 | nmN {s:Str} {c:D}:Odd x (.tup [.str s,.non,c])
 | nmI {s:Str} {i:Int} {c:D}:Odd x (.tup [.str s,.int i,c])
 | nm {s nm:Str} {c:D}:(x.ws.findIdx? λw=>w.1 == nm)=none->Odd x (.tup [.str s,.str nm,c])
 | val {s nm:Str} {c:D} {p:Nat} {w:Str×Sh×Int}:(x.ws.findIdx? λw=>w.1 == nm)=some p->x.ws[p]?=some w->okD c=true->Ak w.2.1 c=false->Odd x (.tup [.str s,.str nm,c])
def Rq (n:Nat)(d:D):Prop:=∀m,n<=m->eqN m d d=some true
theorem RU {i:Int}:Rq n (.int i):=λm _=>by cases m <;> (show some (i == i)=some true;rw [ui3])
theorem Ny {i:Str}:Rq n (.str i):=λm _=>by cases m <;> (show some (i == i)=some true;rw [ui3])
theorem RW:Rq n .non:=λm _=>by cases m <;> rfl
theorem RY (h:∀x∈xs,Rq n x):Rq (n + 1) (.tup xs):=λm hm=>by
 obtain ⟨k,rfl⟩:∃k,m=k + 1:=Nat.exists_eq_add_of_le' (by lia);have e:DC (eqN k) xs xs=some true:=HN λx hx=>h x hx k (by lia);rw [eqN,e];simp
theorem RV (h:∀x∈xs,Rq n x):Rq (n + 1) (.lst xs):=λm hm=>by
 obtain ⟨k,rfl⟩:∃k,m=k + 1:=Nat.exists_eq_add_of_le' (by lia);rw [eqN,if_pos rfl];exact HN λx hx=>h x hx k (by lia)
theorem Xz {p:D->Prop}{a:D}(h:p a):∀x∈[a],p x:=λx hx=>by rw [uf6.mp hx];exact h
theorem bU {p:D->Prop}{a:D}(h:p a)(h2:p b):∀x∈[a,b],p x:=λx hx=>(uk8.mp hx).elim (λe=>by rw [e];exact h) (Xz h2 x)
def mB:Nat->Nat
 | 0=>0
 | m + 1=>10 + vB m * 2 + mB m * 2
structure Mis (n:Nat)(s:Sh)(v:D):Prop where
 ok:okD v=true
 no:Ak s v=false
 rq:Rq n v
structure Fit (n:Nat)(s:Sh)(v:D):Prop where
 ok:okD v=true
 fit:Ak s v=true
 rq:Rq n v
def Gr (S S':List Ob):Prop:=S.length<=S'.length/\∀i,i < S.length->S'[i]?=S[i]?
theorem Gr.trans {S S1 S2:List Ob}(a:Gr S S1)(b:Gr S1 S2):Gr S S2:=⟨um0 a.1 b.1,λi h=>(b.2 i (ue9 h a.1)).trans (a.2 i h)⟩
theorem Gr.app {ex:List Ob}:Gr S (S++ex):=⟨by rw [uf4];lia,λi h=>ua9 h⟩
theorem Gr.set {S S':List Ob}{k:Nat}{o:Ob}(a:Gr S S')(h:S.length<=k):Gr S (S'.set k o):=⟨by rw [uj8];exact a.1,λi hi=>by rw [ud9 (by lia)];exact a.2 i hi⟩
theorem Gr.get {S S':List Ob}{k:Nat}{o:Ob}(a:Gr S S')(h:S[k]?=some o):S'[k]?=some o:=by rw [a.2 k (ua8.mp h).1];exact h
abbrev lr (a b:D):List (Key×D):=[(kL,a),(kRt,b)]
abbrev dP (a b:Nat):List (Key×D):=lr (.int a) (.int b)
noncomputable def onS {α:Type}(s:Str)(a b:α):α:=if s=sL then a else b
variable {s:Str}
theorem Ki {a:D}(h:s=sL\/s=sR):AU (lr a b) (.inr s)=some (onS s a b):=by
 unfold onS;rcases h with rfl | rfl
 ·rw [if_pos rfl];exact IN
 ·rw [if_neg (Ne.symm sLR)];exact IP
theorem Re {a d:D}(h:s=sL\/s=sR):Br (lr a b) (.inr s) d=lr (onS s d a) (onS s b d):=by
 unfold onS;rcases h with rfl | rfl
 ·rw [if_pos rfl,if_pos rfl];exact VZ
 ·rw [if_neg (Ne.symm sLR),if_neg (Ne.symm sLR)];exact V0
inductive Sr where
 | stop
 | brk (k:Nat) (s:Str)
 | next (m:D) (h a b:Nat)
def msgR (side:Str)(ws:List (Str×Sh×Int))(w:List Nat)(p:Nat):RR×Nat:=match w[p]? with
 | none=>(.short,0)
 | some c=>match ws[c]? with
   | none=>(.broken p,0)
   | some wd=>((pSh 3 wd.2.1).run w (p + 1),c)
def EV (side:Str)(ws:List (Str×Sh×Int))(w:List Nat)(p:Nat):D:=match msgR side ws w p with
 | (.short,_)=>.non
 | (.broken k,_)=>.exc "Broken" [.int k,.str side]
 | (.told v e,c)=>.tup [.tup [.str side,.str (ws.getD c (Str.ofString "",.nothing,0)).1,v],.int (ws.getD c (Str.ofString "",.nothing,0)).2.2,.int e]
def Ca (g:List GS)(wl wr:List Nat)(h a b:Nat):Sr:=match Aw g h with
 | .fin=>.stop
 | .st side ws=>match msgR side ws (onS side wl wr) (onS side a b) with
   | (.short,_)=>.stop
   | (.broken k,_)=>.brk k side
   | (.told v e,c)=>.next (.tup [.str side,.str (ws.getD c (Str.ofString "",.nothing,0)).1,v]) (ws.getD c (Str.ofString "",.nothing,0)).2.2.toNat (onS side e a) (onS side b e)
abbrev Rs:=List D×Nat×Nat×Nat×Option (Nat×Str)
def walkR (g:List GS)(wl wr:List Nat):Nat->Nat->Nat->Nat->List D->Rs
 | 0,h,a,b,t=>(t,h,a,b,none)
 | f + 1,h,a,b,t=>match Ca g wl wr h a b with
   | .stop=>(t,h,a,b,none)
   | .brk k s=>(t,h,a,b,some (k,s))
   | .next m h' a' b'=>walkR g wl wr f h' a' b' (t++[m])
structure Pl (g:List GS)(wl wr:List Nat)(h a b:Nat):Prop where
 h:h < g.length
 a:a<=wl.length
 b:b<=wr.length
variable {wl wr:List Nat}
theorem Yx {b:Nat}(ha:a<=wl.length)(hb:b<=wr.length):onS s a b<=(onS s wl wr).length:=by unfold onS;split <;> assumption
variable {h:Nat}
theorem LM {b:Nat}(hg:GOk g)(p:Pl g wl wr h a b){m:D}{h' a' b':Nat}(e:Ca g wl wr h a b = .next m h' a' b'):Pl g wl wr h' a' b'/\a + b < a' + b':=by
 have hgs:=CW hg p.h;unfold Ca at e
 cases eg:Aw g h with
 | fin=>rw [eg] at e;cases e
 | st side ws=>
   rw [eg] at e hgs
   cases hgs with
   | @st _ _ hs1 hs2 hs3 hs4 hs5=>
   dsimp only at e;unfold msgR at e
   cases hb:(onS side wl wr)[onS side a b]? with
   | none=>rw [hb] at e;cases e
   | some c=>
     rw [hb] at e;dsimp only at e
     cases hw:ws[c]? with
     | none=>rw [hw] at e;cases e
     | some wd=>
       rw [hw] at e;dsimp only at e;obtain ⟨hpl,_⟩:=ua8.mp hb;have hwo:=hs5 wd (ue0 hw);have hlo:=hwo.lo;have hhi:=hwo.hi;have hgd:ws.getD c (Str.ofString "",.nothing,0)=wd:=by rw [ua7,hw];rfl
       cases er:(pSh 3 wd.2.1).run (onS side wl wr) (onS side a b + 1) with
       | short=>rw [er] at e;cases e
       | broken k=>rw [er] at e;cases e
       | told v x=>
         rw [er] at e;dsimp only at e;rw [hgd] at e;injection e with e1 e2 e3 e4
         obtain ⟨l1,l2⟩:=Lp _ _ hpl er;have pa:=p.a;have pb:=p.b;subst e2;unfold onS at e3 e4 l1 l2
         by_cases q:side=sL
         ·rw [if_pos q] at e3 e4 l1 l2;exact ⟨⟨by lia,by lia,by lia⟩,by lia⟩
         ·rw [if_neg q] at e3 e4 l1 l2;exact ⟨⟨by lia,by lia,by lia⟩,by lia⟩
theorem Qa {x:Str}{neg:Bool}(e:t.S[n]?=some (.dct kvs))(h:P (.bl (if neg then !(AU kvs (.inr x)).isSome else (AU kvs (.inr x)).isSome)) t):W (inS neg (.str x) (.obj n)) t P:=
 ⟨_,_,by simp only [inS,e],h⟩
theorem Sq (e:t.S[n]?=some (.dct kvs))(h:P (.obj t.S.length) ⟨t.env,t.S++[.dct kvs]⟩):W (IF [.obj n]) t P:=
 ⟨_,_,by simp only [IF,e],h⟩
theorem SY {a:D}:AU (lr a b) (.inr (Str.ofString "end"))=none:=by
 have h1:decide (kL=(Sum.inr (Str.ofString "end"):Key))=false:=by decide +kernel
 have h2:decide (kRt=(Sum.inr (Str.ofString "end"):Key))=false:=by decide +kernel
 unfold AU;rw [uj3,show decide ((kL,a).1=(Sum.inr (Str.ofString "end"):Key))=false from h1];dsimp only;rw [uj3,show decide ((kRt,b).1=(Sum.inr (Str.ofString "end"):Key))=false from h2];rfl
theorem t9 {a0 a1 a2 a3 a6 e7 e8:Option Sl}{X Y:List D}{x:D}(h1:X=Y)(h2:x=y):(⟨[a0,a1,a2,a3,some (.own X),some (.val x),a6,e7,e8],S⟩:T)=⟨[a0,a1,a2,a3,some (.own Y),some (.val y),a6,e7,e8],S⟩:=by subst h1 h2;rfl
def roD (r:D)(S':List Ob):Rs->Prop
 | (t,h,a,b,none)=>∃K,r = .tup [.lst t,.int h,.obj K]/\S'[K]?=some (.dct (dP a b))
 | (_,_,_,_,some (k,s))=>r = .exc "Broken" [.int k,.str s]
def isB (l:List D):Prop:=∀d∈l,∃x:Nat,d = .int (x:Int)/\x < 256
theorem Q0:∀{l:List D},isB l->∃w:List Nat,l=wD w/\∀x∈w,x < 256
 | [],_=>⟨[],rfl,λx z=>nomatch z⟩
 | d :: r,h=>by
   obtain ⟨x,rfl,hx⟩:=h d uf0;obtain ⟨w,rfl,hw⟩:=Q0 λd m=>h d (ud8 _ m);refine ⟨x :: w,rfl,λy hy=>?_⟩;rcases uk8.mp hy with rfl | hy
   ·exact hx
   ·exact hw y hy
theorem K7 {a b:List D}(ha:isB a)(hb:isB b):isB (a++b):=λd h=>(ui4.mp h).elim (ha d) (hb d)
theorem FN {x:Nat}{b:List D}(hx:x < 256)(hb:isB b):isB (.int (x:Int) :: b):=λd h=>by
 rcases uk8.mp h with rfl | h
 ·exact ⟨x,rfl,hx⟩
 ·exact hb d h
theorem Rn:∀(w n:Nat),isB (nb w n)
 | 0,n=>λd h=>nomatch h
 | w + 1,n=>K7 (Rn w _) (FN (Nat.mod_lt _ (by decide)) λd h=>nomatch h)
theorem FG:∀(n:Nat) (s:Sh),s.depth<=n->wf s=true->∀v,Ak s v=true->isB (AC s v)
 | 0,s,h,_,_,_=>absurd s.depth_pos (by lia)
 | n + 1,s,hs,hw,v,hf=>by
   cases s with
   | nothing=>rw [AC];exact λd h=>nomatch h
   | number lo hi=>
     cases v <;> simp [Ak] at hf
     rw [AC];exact Rn _ _
   | text q=>
     simp only [wf,uh5,ug8] at hw
     cases v <;> simp only [Ak,uf5] at hf
     rename_i x;simp only [uh5,ug8,uh9] at hf;rw [AC];refine FN (by lia) λd h=>?_;obtain ⟨c,hc,rfl⟩:=um5.mp h;have:=hf.2 c hc;simp only [BY,uh5,ug8] at this;exact ⟨c,rfl,by lia⟩
   | list s q=>
     simp only [wf,uh5,ug8] at hw;rw [Sh.depth] at hs
     cases v <;> simp only [Ak,uf5] at hf
     rename_i ds;simp only [uh5,ug8,uh9] at hf;rw [AC];refine FN (by lia) λd h=>?_;obtain ⟨l,hl,hd⟩:=List.mem_flatten.mp h;obtain ⟨e,he,rfl⟩:=um5.mp hl;exact FG n s (by lia) hw.2 e (hf.2 e he) d hd
   | pair s r=>
     simp only [wf,uh5] at hw;rw [Sh.depth] at hs;unfold Ak at hf
     split at hf
     ·rw [uh5] at hf;rw [AC];exact K7 (FG n s (by lia) hw.1 _ hf.1) (FG n r (by lia) hw.2 _ hf.2)
     ·cases hf
   | choice ss=>
     simp only [wf,uh5,ug8] at hw;rw [Sh.depth] at hs;unfold Ak at hf
     split at hf
     ·next o k x=>
      simp only [uh5,ug8] at hf;obtain ⟨j,rfl⟩:=uc0 hf.1.2.1;have hj:j < ss.length:=by have:=hf.1.2.2;lia
      have e1:ss[j]?=some ss[j]:=ub3 hj;have h2:=hf.2;rw [ug2,Cy ss _ _ _ e1] at h2;rw [AC,ug2,E5 ss _ _ _ e1];exact FN (by lia) (FG n _ (um0 (CD ss _ _ e1) (by lia)) (Et hw.2 _ (ui1 hj)) x h2)
     ·cases hf
theorem XJ:Bx (wD w) none (some (a:Int))=wD (w.take a):=by
 unfold Bx;rw [HT.GM,HT.JG,uk5,Nat.sub_zero];unfold wD;rw [List.map_take];exact (List.take_eq_take_min ..).symm
theorem Qx:Bx (wD w) (some (a:Int)) none=wD (w.drop a):=by
 unfold Bx;rw [HT.GM,HT.JG];unfold wD;rw [List.map_drop,ui6,uc7 (by rw [uh4,ui6];lia)]
 by_cases h:a<=w.length
 ·rw [uj9 h]
 ·rw [Nat.min_eq_right (by lia),List.drop_of_length_le (by rw [ui6];lia),List.drop_of_length_le (by rw [ui6];lia)]
theorem MB {x y:Ob}:(S++[x]).set S.length y=S++[y]:=by simp
structure Mvs (g:List GS)(wl wr:List Nat)(mv:List Mv)(h a b:Nat)(t:List D):Prop where
 t:t=AO g 0 mv
 ok:okQ g 0 mv
 h:Ap g 0 mv=h
 a:Am g sL 0 mv=wD (wl.take a)
 b:Am g sR 0 mv=wD (wr.take b)
theorem W9 {side:Str}(h:side=sL\/side=sR):(side=sL/\¬side=sR)\/(¬side=sL/\side=sR):=by
 rcases h with rfl | rfl
 ·exact .inl ⟨rfl,sLR⟩
 ·exact .inr ⟨Ne.symm sLR,rfl⟩
def Agr (c:Nat)(w w2:List Nat):Prop:=∀i,i < c->w2[i]?=w[i]?
def L6 (f:Fn):Prop:=∀(g:List GS) (q p:Nat) (v:D),GOk g->MvOk g q p v->(AC (wdAt g q p).2.1 v).length<=50000->Pure1 f [(Aw g q).d,.int p,v] (.lst (.int p :: AC (wdAt g q p).2.1 v))
theorem Yq (hc:IC c 3):L6 (fnOf 3 3 (EF c)):=by
 intro g q p v hg hm hb S;have hL:LIM=100000:=rfl;refine An rfl ?_;unfold EF;obtain ⟨side,ws,e,hpl,ew⟩:=E4 hm.pl;have hw:=FA hg hm.lt hm.pl;have hfit:=hm.fit;rw [e,GS.d];right;refine GP ?_;right;refine Bb (Iz ew) ?_;unfold wdD;right;refine (hc _ hw.dep hw.ok v hfit (by lia)).use ?_;refine ⟨_,rfl,?_⟩;right;refine CK (by rw [hL];show 1 + _<=_;lia) ?_;exact ⟨rfl,rfl⟩
theorem Gi (g:List GS)(sd:Str)(mv:List Mv)(j:Nat):(Am g sd 0 (mv.take j)).length<=(Am g sd 0 mv).length:=by
 have e:Am g sd 0 mv=Am g sd 0 (mv.take j++mv.drop j):=by rw [ud7]
 rw [e,CH,uf4];exact uh8 _ _
theorem Rl {g:List GS}(hg:GOk g):∀(q:Nat) (mv:List Mv),okQ g q mv->mv.length<=(Am g sL q mv).length + (Am g sR q mv).length
 | q,[],_=>um9 _
 | q,(p,v) :: r,h=>by
   rw [okQ] at h;have ih:=Rl hg _ r h.2;rw [Am,Am,uf4,uf4,uh1];rcases Ln hg h.1 with e | e
   ·rw [if_pos e,uh1];lia
   ·rw [if_pos (show (Aw g q).side=sR from e),uh1];lia
theorem Qw:Bx (xs++ys) none (some (xs.length:Int))=xs:=by
 unfold Bx;rw [HT.GM,HT.JG,uk5,Nat.sub_zero,uj9 (by rw [uf4];lia),List.take_left'];rfl
def At (w:List Nat)(a:Nat)(xs:List D):Prop:=∃p q,wD w=p++(xs++q)/\p.length=a
theorem At.left (h:At w a (xs++ys)):At w a xs:=by
 obtain ⟨p,q,e,l⟩:=h;exact ⟨p,ys++q,by rw [e,ug4],l⟩
theorem At.right (h:At w a (xs++ys)):At w (a + xs.length) ys:=by
 obtain ⟨p,q,e,l⟩:=h;exact ⟨p++xs,q,by rw [e,ug4,ug4],by rw [uf4,l]⟩
theorem At.head {c:Nat}(h:At w a (.int (c:Int) :: xs)):w[a]?=some c/\At w (a + 1) xs:=by
 refine ⟨?_,At.right (xs:=[.int (c:Int)]) h⟩;obtain ⟨p,q,e,l⟩:=h;have e1:(wD w)[a]?=some (.int (c:Int)):=by rw [e,ua4 (by lia),l,um7];rfl
 unfold wD at e1;rw [ug1] at e1
 cases e2:w[a]? with
 | none=>rw [e2] at e1;cases e1
 | some x=>
   rw [e2] at e1;injection e1 with e1
   injection e1 with e1
   rw [show x=c by lia]
theorem Nh {lo:Int}{M:Nat}{w:List Nat}:∀(r x y a:Nat),y / 256 ^ r=x->y<=M->At w a (nb r y)->(Hk lo M r x).run w a = .told (.int (lo + y)) (a + r)
 | 0,x,y,a,hx,hy,h=>by
   rw [Nat.pow_zero,Nat.div_one] at hx;subst hx;rfl
 | r + 1,x,y,a,hx,hy,h=>by
   rw [Oq] at h;obtain ⟨h1,h2⟩:=h.head;have e:x * 256 + y / 256 ^ r % 256=y / 256 ^ r:=by
    rw [<-hx,um4,<-uc8];lia
   rw [Hk,Bt h1,if_pos (uk6 (by rw [e,Nat.pow_mul];exact Nat.div_le_div_right hy)),Nh r _ y (a + 1) e.symm hy h2]
   congr 1
   lia
theorem ND {w:List Nat}:∀(xs cs:List Nat) (a:Nat),(∀c∈xs,BY c=true)->At w a (xs.map λ(n:Nat)=>D.int (n:Int))->(Io xs.length cs).run w a = .told (.str ⟨(cs++xs).toArray⟩) (a + xs.length)
 | [],cs,a,_,_=>by rw [ui8];rfl
 | x :: r,cs,a,hs,h=>by
   obtain ⟨h1,h2⟩:=At.head h;rw [uh1,Io,Bt h1,if_pos (hs x uf0),ND r (cs++[x]) (a + 1) (λc hc=>hs c (ud8 _ hc)) h2,ug4]
   congr 1
   lia
theorem Nb {w:List Nat}{s:Sh}{p:Rd}(hp:∀(v:D) (a:Nat),Ak s v=true->At w a (AC s v)->p.run w a = .told v (a + (AC s v).length)):∀(es ds:List D) (a:Nat),(∀e∈es,Ak s e=true)->At w a (es.map λd=>AC s d).flatten->(Hj p es.length ds).run w a = .told (.lst (ds++es)) (a + ((es.map λd=>AC s d).flatten).length)
 | [],ds,a,_,_=>by rw [ui8];rfl
 | e :: r,ds,a,hf,h=>by
   rw [uk9,ug3] at h;rw [uh1,Hj,En,hp e a (hf e uf0) h.left,RR.thn,Nb hp r (ds++[e]) _ (λx hx=>hf x (ud8 _ hx)) h.right,ug4,uk9,ug3,uf4]
   congr 1
   lia
theorem Su:∀(k n:Nat),wid n<=k->n < 256 ^ k
 | 0,n,h=>by
   by_cases z:n=0
   ·subst z;decide
   ·rw [JK (by lia)] at h;lia
 | k + 1,n,h=>by
   by_cases z:n=0
   ·subst z;exact Nat.pow_pos (by decide)
   ·rw [JK (by lia)] at h;have:=Su k (n / 256) (by lia);rw [Nat.div_lt_iff_lt_mul (by decide)] at this;rw [um4];exact this
theorem VS {o:Str}(h:HX o=true):o=Str.ofString "of":=by
 unfold HX at h;simpa using h
theorem back:∀(n:Nat) (s:Sh),s.depth<=n->wf s=true->∀(w:List Nat) (v:D) (a:Nat),Ak s v=true->At w a (AC s v)->(pSh n s).run w a = .told v (a + (AC s v).length)
 | 0,s,hs,_,_,_,_,_,_=>absurd s.depth_pos (by lia)
 | n + 1,s,hs,hwf,w,v,a,hf,h=>by
   cases s with
   | nothing=>
     have:v = .non:=by cases v <;> simp [Ak,Hd] at hf <;> rfl
     subst this;rfl
   | number lo hi=>
     simp only [wf,uh5,ug8] at hwf
     cases v with
     | int i=>
       simp only [Ak,uh5,ug8] at hf;rw [AC] at h ⊢;rw [pSh,Nh (wid (hi - lo).toNat) 0 (i - lo).toNat a ?_ (by lia) h,Nf]
       ·congr 2;lia
       ·exact Nat.div_eq_of_lt (Nat.lt_of_le_of_lt (show (i - lo).toNat<=(hi - lo).toNat by lia) (Su _ _ (um8 _)))
     | _=>simp [Ak] at hf
   | text q=>
     cases v with
     | str x=>
       simp only [Ak,uh5,ug8,uh9] at hf;rw [AC] at h ⊢;obtain ⟨h1,h2⟩:=At.head h;rw [pSh,Bt h1,if_pos (uk6 hf.1)];have hl:x.length=x.cps.toList.length:=rfl;rw [hl,ND x.cps.toList [] (a + 1) hf.2 h2,uj2,uh1,ui6]
       congr 1
       lia
     | _=>simp [Ak] at hf
   | list s q=>
     simp only [wf,uh5,ug8] at hwf;rw [Sh.depth] at hs
     cases v with
     | lst ds=>
       rw [Ak,uh5,ug8,uh9] at hf;rw [AC] at h ⊢;obtain ⟨h1,h2⟩:=At.head h;rw [pSh,Bt h1,if_pos (uk6 hf.1),Nb (λv a=>back n s (by lia) hwf.2 w v a) ds [] (a + 1) hf.2 h2,uj2,uh1]
       congr 1
       lia
     | _=>simp [Ak] at hf
   | pair s r=>
     simp only [wf,uh5] at hwf;rw [Sh.depth] at hs;unfold Ak at hf
     split at hf
     ·rw [uh5] at hf;rw [AC] at h ⊢;rw [pSh,En,back n s (by lia) hwf.1 w _ a hf.1 h.left,RR.thn,En,back n r (by lia) hwf.2 w _ _ hf.2 h.right,RR.thn,Rd.run,uf4,ul4]
     ·cases hf
   | choice ss=>
     simp only [wf,uh5,ug8] at hwf;rw [Sh.depth] at hs;unfold Ak at hf
     split at hf
     ·next o k x=>
      simp only [uh5,ug8] at hf;obtain ⟨j,rfl⟩:=uc0 hf.1.2.1;have hj:j < ss.length:=by have:=hf.1.2.2;lia
      have e1:ss[j]?=some ss[j]:=ub3 hj;have h2:=hf.2;rw [ug2,Cy ss _ _ _ e1] at h2;rw [AC,ug2,E5 ss _ _ _ e1] at h ⊢;obtain ⟨h3,h4⟩:=At.head h;have ho:o=Str.ofString "of":=VS hf.1.1;subst ho;rw [pSh,Bt h3,if_pos (uk6 hj),ua7,e1,Option.getD_some,En,back n _ (um0 (CD ss _ _ e1) (by lia)) (Et hwf.2 _ (ui1 hj)) w x (a + 1) h2 h4,RR.thn,Rd.run,uh1]
      congr 1
      lia
     ·cases hf
theorem UE {b c:Nat}:∀(p:Rd) (a:Nat),p.run w a = .told v b->a<=c->c < b->p.run (w.take c) a = .short:=by
 intro p
 induction p with
 | done v'=>intro a h h1 h2;rw [Rd.run] at h;cases h;lia
 | need ok nx ih=>
   intro a h h1 h2
   cases e:w[a]? with
   | none=>rw [CO e] at h;cases h
   | some x=>
     rw [Bt e] at h
     by_cases q:ok x=true
     ·rw [if_pos q] at h
      by_cases hac:a < c
      ·rw [Bt (b:=x) (by rw [uf7,if_pos hac];exact e),if_pos q];exact ih x (a + 1) h hac h2
      ·exact CO (by rw [uf7,if_neg hac])
     ·rw [if_neg q] at h;cases h
theorem Sb (hg:GOk g){q p a b:Nat}{v:D}(hm:MvOk g q p v)(ha:At wl a (if (Aw g q).side=sL then .int (p:Int) :: AC (wdAt g q p).2.1 v else []))(hb:At wr b (if (Aw g q).side=sR then .int (p:Int) :: AC (wdAt g q p).2.1 v else [])) :
 Ca g wl wr q a b = .next (DJ g q p v) (BR g q p) (a + (if (Aw g q).side=sL then D.int (p:Int) :: AC (wdAt g q p).2.1 v else []).length) (b + (if (Aw g q).side=sR then D.int (p:Int) :: AC (wdAt g q p).2.1 v else []).length):=by
 have hw:=FA hg hm.lt hm.pl;have hsd:=Ln hg hm;have hfit:=hm.fit;obtain ⟨side,ws,e,hpl,ew⟩:=E4 hm.pl;have es:(Aw g q).side=side:=by rw [e];rfl
 have hgd:ws.getD p (Str.ofString "",.nothing,0)=wdAt g q p:=by rw [ua7,ew];rfl
 rw [es] at ha hb hsd;have key:∀(w:List Nat) (c:Nat),At w c (.int (p:Int) :: AC (wdAt g q p).2.1 v)->msgR side ws w c=(.told v (c + (AC (wdAt g q p).2.1 v).length + 1),p):=λw c h=>by
  obtain ⟨h1,h2⟩:=At.head h;unfold msgR;rw [h1];dsimp only;rw [ew];dsimp only;rw [back 3 _ hw.dep hw.ok w v (c + 1) hfit h2]
  congr 2
  lia
 unfold Ca;rw [e];dsimp only;unfold DJ BR;rw [es];rcases W9 hsd with ⟨q1,q2⟩ | ⟨q1,q2⟩
 ·rw [if_pos q1] at ha;unfold onS;simp only [if_pos q1,key wl a ha,hgd];rw [show (GS.st side ws).side=side from rfl,if_pos q1,if_neg q2,uh1,uj4];rfl
 ·rw [if_pos q2] at hb;unfold onS;simp only [if_neg q1,key wr b hb,hgd];rw [show (GS.st side ws).side=side from rfl,if_neg q1,if_pos q2,uh1,uj4];rfl
theorem LR {g:List GS}{wl wr:List Nat}(hg:GOk g):∀(mv:List Mv) (q a b F:Nat) (t:List D),okQ g q mv->At wl a (Am g sL q mv)->At wr b (Am g sR q mv)->walkR g wl wr (F + mv.length) q a b t=walkR g wl wr F (Ap g q mv) (a + (Am g sL q mv).length) (b + (Am g sR q mv).length) (t++AO g q mv)
 | [],q,a,b,F,t,_,_,_=>by rw [AO,ui8];rfl
 | (p,v) :: r,q,a,b,F,t,hk,ha,hb=>by
   rw [okQ] at hk;rw [Am] at ha hb;rw [uh1,<-ul4,walkR,Sb hg hk.1 ha.left hb.left];dsimp only;rw [LR hg r _ _ _ F _ hk.2 ha.right hb.right,Am,Am,AO,Ap,uf4,uf4,ug4,List.singleton_append,ul4,ul4]
theorem UA {b:Nat}(e:(Aw g h).isFin=true):Ca g wl wr h a b = .stop:=by
 unfold Ca
 cases e1:Aw g h with
 | fin=>rfl
 | st s w=>rw [e1] at e;cases e
theorem Uz:Ca g wl wr h wl.length wr.length = .stop:=by
 unfold Ca
 cases e1:Aw g h with
 | fin=>rfl
 | st s ws=>
   dsimp only;unfold msgR;rw [show (onS s wl wr)[onS s wl.length wr.length]?=none by unfold onS;split <;> exact List.getElem?_eq_none (um8 _)]
theorem Gh {b:Nat}{t:List D}(e:Ca g wl wr h a b = .stop):∀F,walkR g wl wr F h a b t=(t,h,a,b,none)
 | 0=>rfl
 | F + 1=>by unfold walkR;rw [e]
theorem UM (hg:GOk g){mv:List Mv}(hk:okQ g 0 mv)(ml mr:List Nat)(el:wD wl=Am g sL 0 mv)(er:wD wr=Am g sR 0 mv)(h:(ml=[]/\mr=[])\/(Aw g (Ap g 0 mv)).isFin=true):walkR g (wl++ml) (wr++mr) ((wl++ml).length + (wr++mr).length + 1) 0 0 0 []=(AO g 0 mv,Ap g 0 mv,wl.length,wr.length,none):=by
 have hlen:=Rl hg 0 mv hk;rw [<-el,<-er,A6,A6] at hlen;obtain ⟨F,hF⟩:∃F,(wl++ml).length + (wr++mr).length + 1=F + mv.length:=⟨(wl++ml).length + (wr++mr).length + 1 - mv.length,by rw [uf4,uf4];lia⟩;rw [hF,LR hg mv 0 0 0 F [] hk ⟨[],wD ml,by rw [<-el,uj2,GQ],rfl⟩ ⟨[],wD mr,by rw [<-er,uj2,GQ],rfl⟩,<-el,<-er,A6,A6,Nat.zero_add,Nat.zero_add,uj2];refine Gh ?_ F;rcases h with ⟨rfl,rfl⟩ | h
 ·rw [ui8,ui8];exact Uz
 ·exact UA h
def Wir (S:List Ob)(d:D)(w:List Nat):Prop:=d = .lst (wD w)\/∃k,d = .obj k/\S[k]?=some (.lst (wD w))
def PureS (S:List Ob)(f:Fn)(ds:List D)(r:D):Prop:=Wf f ds S λr' S'=>r'=r/\S'=S
theorem PureS.use {f:Fn}{r:D}(h:PureS S f ds r){P:D->List Ob->Prop}(p:P r S):Wf f ds S P:=h.mono λ_ _ ⟨e1,e2⟩=>by subst e1 e2;exact p
theorem Mi {d:D}(h:Wir t.S d w)(p:P (.int (w.length:Nat)) t):W (A0 [d]) t P:=by
 rcases h with rfl | ⟨k,rfl,e⟩
 ·refine Qb ?_;rw [A6];exact p
 ·refine KB e ?_;rw [A6];exact p
theorem UJ {d:D}{b:Nat}(h:Wir t.S d w)(e:w[a]?=some b)(p:P (.int (b:Int)) t):W (ixD d (.int (a:Int))) t P:=by
 rcases h with rfl | ⟨k,rfl,e'⟩
 ·exact Bb (IE (So e)) p
 ·exact W_ix_obj.mpr ⟨_,e',_,IE (So e),p⟩
def BXw (f:Fn):Prop:=∀(S:List Ob) (wv:D) (w:List Nat) (a:Nat),Wir S wv w->PureS S f [wv,.int (a:Int)] (byX w[a]?)
theorem XF:BXw (fnOf 2 2 FQ):=by
 intro S wv w a hv;refine An rfl ?_;unfold FQ;have hl:=A6 w
 cases h:w[a]? with
 | none=>
   have:=ub1.mp h;symm;refine Mi hv ?_;symm;refine Gm (uk6 (by lia)) ?_;symm;exact ⟨rfl,rfl⟩
 | some b=>
   obtain ⟨hj,_⟩:=ua8.mp h;symm;refine Mi hv ?_;symm;refine EA (uk1 (by lia)) ?_;symm;refine UJ hv h ?_;exact ⟨rfl,rfl,rfl⟩
def UXw (f:Fn):Prop:=∀(S:List Ob) (wv:D) (m:Int) (w:List Nat) (a:Nat),Wir S wv w->PureS S f [.int m,wv,.int (a:Int)] (upX m a w[a]?)
theorem ZF (hc:BXw c):UXw (fnOf 3 4 (EC c)):=by
 intro S wv m w a hv;refine An rfl ?_;unfold EC;have hb:=hc S wv w a hv
 cases h:w[a]? with
 | none=>
   rw [h,byX] at hb;symm;refine hb.use ?_;symm;exact ⟨rfl,rfl⟩
 | some b=>
   rw [h,byX] at hb;symm;refine hb.use ?_;symm;rw [upX]
   by_cases q:(b:Int)<=m
   ·rw [if_pos q];refine EA (uk1 (by lia)) ?_;symm;exact ⟨rfl,rfl,rfl⟩
   ·rw [if_neg q];refine Gm (uk6 (by lia)) ?_;symm;exact ⟨rfl,rfl⟩
def SXw (f:Fn):Prop:=∀(S:List Ob) (wv:D) (w:List Nat) (a:Nat),Wir S wv w->PureS S f [wv,.int (a:Int)] (sgX a w[a]?)
variable {cb:Fn}
theorem Zv {cs:Fn}(hs:JL cs)(hb:BXw cb):SXw (fnOf 2 3 (FU cs cb)):=by
 intro S wv w a hv;refine An rfl ?_;unfold FU;have hb:=hb S wv w a hv
 cases h:w[a]? with
 | none=>
   rw [h,byX] at hb;symm;refine hb.use ?_;symm;exact ⟨rfl,rfl⟩
 | some c=>
   rw [h,byX] at hb;symm;refine hb.use ?_;symm;refine (hs c).use ?_;rw [sgX]
   by_cases q:BY c=true
   ·rw [if_pos q,q];symm;refine W_ix_str.mpr ⟨by decide +kernel,c,Zp q,?_⟩;exact ⟨rfl,rfl,rfl⟩
   ·have q':BY c=false:=by simpa using q
    rw [if_neg q,q'];symm;exact ⟨rfl,rfl⟩
theorem Zi (hl:HB cl)(hb:BXw cb)(hw:JP cw){lo hi:Int}(hwf:wf (.number lo hi)=true)(w:List Nat)(a:Nat){S:List Ob}{wv:D}(hv:Wir S wv w):PureS S (fnOf 3 7 (Df cl cb cw)) [(Sh.number lo hi).d,wv,.int (a:Int)] (rrD ((Hk lo (hi - lo).toNat (wid (hi - lo).toNat) 0).run w a)):=by
 have hsp:=OO hwf;have hwd:=KD 9 _ hsp;refine An rfl ?_;unfold Df;rw [Sh.d];have em:hi - lo=(((hi - lo).toNat:Nat):Int):=by
  simp only [wf,uh5,ug8] at hwf;lia
 have hww:=λS P p=>(hw (hi - lo).toNat hsp).use (S:=S) (P:=P) p;rw [<-em] at hww;generalize (hi - lo).toNat=M at *;generalize hW:wid M=n at *;symm;refine hww _ _ ?_;rw [em];symm;refine Gw (Cn (by lia) (by lia)) ?_;refine Dx (λr t=>∃(j x:Nat) (e6:Option Sl),j<=n/\r=(Bd 0 ((n:Nat):Int).toNat).drop j/\(Hk lo M n 0).run w a=(Hk lo M (n - j) x).run w (a + j)/\t=⟨[some (.val (.tup [.str "number",.int lo,.int hi])),some (.val wv),some (.val (.int a)),some (.val (.int M)),some (.val (.int n)),some (.val (.int x)),e6],S⟩) _ _ ⟨0,0,none,um9 _,rfl,rfl,rfl⟩ ?_ ?_
 ·rintro d r t ⟨j,x,e6,hj,hr,hrun,rfl⟩ _;obtain ⟨rfl,hr',hjn⟩:=Li hr;rw [ug2] at hjn;rw [um6];obtain ⟨e,he⟩:∃e,n - j=e + 1:=⟨n - j - 1,by lia⟩;rw [he,Hk] at hrun;have hby:=hb S wv w (a + j) hv;symm;refine Qc (Op (by decide) (by decide)) ?_;symm;rw [show ((a:Int) + (j:Int))=((a + j:Nat):Int) by lia]
  cases h:w[a + j]? with
  | none=>
    rw [h,byX] at hby;rw [CO h] at hrun;refine hby.use ?_;symm;exact ⟨by rw [hrun];rfl,rfl⟩
  | some b=>
    rw [h,byX] at hby;rw [Bt h] at hrun;refine hby.use ?_;symm;refine ⟨rfl,?_⟩;symm;rw [show ((n:Int) - 1 - (j:Int))=((e:Nat):Int) by lia,show ((x:Int) * 256 + (b:Int))=((x * 256 + b:Nat):Int) by lia];refine (hl M e (by lia)).use ?_;symm
    by_cases q:x * 256 + b<=M / 2 ^ (8 * e)
    ·rw [if_pos (uk6 q)] at hrun;refine EA (uk1 (by lia)) ?_;symm;exact ⟨j + 1,x * 256 + b,_,hjn,hr',by rw [show n - (j + 1)=e by lia,hrun,ul4],rfl⟩
    ·rw [if_neg (by rw [ug8];exact q)] at hrun;refine Gm (uk6 (by lia)) ?_;symm;exact ⟨by rw [hrun];rfl,rfl⟩
 ·rintro t ⟨j,x,e6,hj,hr,hrun,rfl⟩;have hj':j=n:=by
   have:=congrArg List.length hr;rw [uj4,uh4,Kq,ug2] at this;lia
  subst hj';rw [um7,Hk,Rd.run] at hrun;symm;exact ⟨rfl,by rw [hrun];rfl,rfl⟩
variable {cu:Fn}
theorem WJ {ca:Fn}(ha:SXw ca)(hu:UXw cu){q:Int}(hwf:wf (.text q)=true)(n:Nat)(w:List Nat)(a:Nat){S:List Ob}{wv:D}(hv:Wir S wv w):PureS S (fnOf 3 7 (DU ca cu)) [(Sh.text q).d,wv,.int (a:Int)] (rrD ((pSh (n + 1) (.text q)).run w a)):=by
 have hL:LIM=100000:=rfl;refine An rfl ?_;unfold DU;rw [Sh.d,pSh];simp only [wf,uh5,ug8] at hwf;have hup:=hu S wv q w a hv;symm
 cases h:w[a]? with
 | none=>
   rw [h,upX] at hup;rw [CO h];refine hup.use ?_;symm;exact ⟨rfl,rfl⟩
 | some b=>
   rw [h,upX] at hup;rw [Bt h]
   by_cases hb:(b:Int)<=q
   ·rw [if_pos hb] at hup;rw [if_pos (uk6 hb)];refine hup.use ?_;symm;refine Gw (Cn (by lia) (by lia)) ?_;refine Dx (λr t=>∃(j:Nat) (y:Str) (e6:Option Sl),j<=b/\r=(Bd 0 ((b:Nat):Int).toNat).drop j/\y.cps.toList.length=j/\(Io b []).run w (a + 1)=(Io (b - j) y.cps.toList).run w (a + 1 + j)/\t=⟨[some (.val (.tup [.str "text",.int q])),some (.val wv),some (.val (.int a)),some (.val (.int b)),some (.val (.int ((a:Int) + 1))),some (.val (.str y)),e6],S⟩) _ _ ⟨0,Str.ofString "",none,um9 _,rfl,by decide +kernel,by rw [Nat.sub_zero,Nat.add_zero,show (Str.ofString "").cps.toList=[] by decide +kernel],rfl⟩ ?_ ?_
    ·rintro d r t ⟨j,y,e6,hj,hr,hyl,hrun,rfl⟩ _;obtain ⟨rfl,hr',hjn⟩:=Li hr;rw [ug2] at hjn;rw [um6];obtain ⟨e,he⟩:∃e,b - j=e + 1:=⟨b - j - 1,by lia⟩;rw [he,Io] at hrun;have hsg:=ha S wv w (a + 1 + j) hv;symm;rw [show ((a:Int) + 1 + (j:Int))=((a + 1 + j:Nat):Int) by lia]
     cases h2:w[a + 1 + j]? with
     | none=>
       rw [h2,sgX] at hsg;rw [CO h2] at hrun;refine hsg.use ?_;symm;exact ⟨by rw [hrun];rfl,rfl⟩
     | some c=>
       rw [h2,sgX] at hsg;rw [Bt h2] at hrun
       by_cases hc:BY c=true
       ·rw [if_pos hc] at hsg hrun;refine hsg.use ?_;symm;refine CK (by rw [Ge y,hyl,hL];show j + 1<=_;lia) ?_;refine ⟨rfl,?_⟩;symm;refine ⟨j + 1,_,_,hjn,hr',?_,?_,rfl⟩
        ·rw [Lu,uf4,hyl];rfl
        ·rw [hrun,Lu,show b - (j + 1)=e by lia,ul4 (a + 1)]
       ·rw [if_neg hc] at hsg hrun;refine hsg.use ?_;symm;exact ⟨by rw [hrun];rfl,rfl⟩
    ·rintro t ⟨j,y,e6,hj,hr,hyl,hrun,rfl⟩;have hj':j=b:=by
      have:=congrArg List.length hr;rw [uj4,uh4,Kq,ug2] at this;lia
     subst hj';rw [um7,Io,Rd.run] at hrun;have ey:(⟨y.cps.toList.toArray⟩:Str)=y:=Xc (by simp);rw [ey] at hrun;symm;refine ⟨rfl,?_,rfl⟩;rw [hrun,rrD,show ((a:Int) + 1 + (j:Int))=((a + 1 + j:Nat):Int) by lia]
   ·rw [if_neg hb] at hup;rw [if_neg (by rw [ug8];exact hb)];refine hup.use ?_;symm;exact ⟨rfl,rfl⟩
def RXw (c:Fn)(s:Sh)(p:Rd):Prop:=∀(S:List Ob) (wv:D) (w:List Nat) (a:Nat),Wir S wv w->a<=w.length->PureS S c [s.d,wv,.int (a:Int)] (rrD (p.run w a))
theorem WH {s:Sh}{p:Rd}{q:Int}(hu:UXw cu)(hq2:q<=250)(hc:RXw c s p)(w:List Nat)(a:Nat){S:List Ob}{wv:D}(hv:Wir S wv w):PureS S (fnOf 3 8 (DS c cu)) [(Sh.list s q).d,wv,.int (a:Int)] (rrD ((Rd.need (λb=>decide ((b:Int)<=q)) λb=>Hj p b []).run w a)):=by
 have hL:LIM=100000:=rfl;refine An rfl ?_;unfold DS;rw [Sh.d];have hup:=hu S wv q w a hv;symm
 cases h:w[a]? with
 | none=>
   rw [h,upX] at hup;rw [CO h];refine hup.use ?_;symm;exact ⟨rfl,rfl⟩
 | some b=>
   have hal:=(ua8.mp h).1;rw [h,upX] at hup;rw [Bt h]
   by_cases hb:(b:Int)<=q
   ·rw [if_pos hb] at hup;rw [if_pos (uk6 hb)];refine hup.use ?_;symm;refine Gw (Cn (by lia) (by lia)) ?_;refine Dx (λr t=>∃(j a':Nat) (ds:List D) (e6 e7:Option Sl),j<=b/\r=(Bd 0 ((b:Nat):Int).toNat).drop j/\ds.length=j/\a'<=w.length/\(Hj p b []).run w (a + 1)=(Hj p (b - j) ds).run w a'/\t=⟨[some (.val (.tup [.str "list",s.d,.int q])),some (.val wv),some (.val (.int a)),some (.val (.int b)),some (.val (.int (a':Int))),some (.own ds),e6,e7],S⟩) _ _ ⟨0,a + 1,[],none,none,um9 _,rfl,rfl,hal,rfl,rfl⟩ ?_ ?_
    ·rintro d r t ⟨j,a',ds,e6,e7,hj,hr,hdl,ha',hrun,rfl⟩ _;obtain ⟨rfl,hr',hjn⟩:=Li hr;rw [ug2] at hjn;obtain ⟨e,he⟩:∃e,b - j=e + 1:=⟨b - j - 1,by lia⟩;rw [he,Hj,En] at hrun;have hcc:=hc S wv w a' hv ha'
     cases h2:p.run w a' with
     | short=>
       rw [h2] at hrun hcc;symm;refine hcc.use ?_;rw [rrD];symm;exact ⟨by rw [hrun];rfl,rfl⟩
     | broken k=>
       rw [h2] at hrun hcc;symm;refine hcc.use ?_;rw [rrD];symm;exact ⟨by rw [hrun];rfl,rfl⟩
     | told v a2=>
       have hle:=Lp p a' ha' h2;rw [h2] at hrun hcc;symm;refine hcc.use ?_;rw [rrD];symm;refine CK (by rw [hdl,hL];lia) ?_;symm;exact ⟨j + 1,a2,ds++[v],_,_,hjn,hr',by rw [uf4,hdl];rfl,hle.2,by rw [hrun,show b - (j + 1)=e by lia];rfl,rfl⟩
    ·rintro t ⟨j,a',ds,e6,e7,hj,hr,hdl,ha',hrun,rfl⟩;have hj':j=b:=by
      have:=congrArg List.length hr;rw [uj4,uh4,Kq,ug2] at this;lia
     subst hj';rw [um7,Hj,Rd.run] at hrun;symm;exact ⟨rfl,by rw [hrun];rfl,rfl⟩
   ·rw [if_neg hb] at hup;rw [if_neg (by rw [ug8];exact hb)];refine hup.use ?_;symm;exact ⟨rfl,rfl⟩
theorem WI {s r:Sh}{p p':Rd}(hs:RXw c s p)(hr:RXw c r p')(w:List Nat)(a:Nat){S:List Ob}{wv:D}(hv:Wir S wv w)(ha:a<=w.length):PureS S (fnOf 3 5 (DT c)) [(Sh.pair s r).d,wv,.int (a:Int)] (rrD ((p.bnd λv=>p'.bnd λu=>.done (.tup [v,u])).run w a)):=by
 refine An rfl ?_;unfold DT;rw [Sh.d,En];have h1:=hs S wv w a hv ha
 cases e1:p.run w a with
 | short=>
   rw [e1] at h1;symm;refine h1.use ?_;rw [rrD];symm;exact ⟨rfl,rfl⟩
 | broken k=>
   rw [e1] at h1;symm;refine h1.use ?_;rw [rrD];symm;exact ⟨rfl,rfl⟩
 | told v a'=>
   have hle:=Lp p a ha e1;rw [e1] at h1;have h2:=hr S wv w a' hv hle.2;rw [RR.thn,En];symm;refine h1.use ?_;rw [rrD];symm;refine h2.use ?_
   cases e2:p'.run w a' with
   | short=>rw [rrD];symm;exact ⟨rfl,rfl⟩
   | broken k=>rw [rrD];symm;exact ⟨rfl,rfl⟩
   | told u a2=>rw [rrD];symm;exact ⟨rfl,rfl,rfl⟩
theorem RM {ss:List Sh}{p:Nat->Rd}(hu:UXw cu)(hc:∀(k:Nat) (h:k < ss.length),RXw c ss[k] (p k))(w:List Nat)(a:Nat){S:List Ob}{wv:D}(hv:Wir S wv w):PureS S (fnOf 3 5 (De c cu)) [(Sh.choice ss).d,wv,.int (a:Int)] (rrD ((Rd.need (λb=>decide (b < ss.length)) λb=>(p b).bnd λv=>.done (.tup [.str "of",.int b,v])).run w a)):=by
 refine An rfl ?_;unfold De;rw [Sh.d];have hup:=hu S wv ((ss.length:Int) - 1) w a hv;symm;rw [DW];refine hup.use ?_
 cases h:w[a]? with
 | none=>
   rw [CO h,upX];symm;exact ⟨rfl,rfl⟩
 | some b=>
   have hal:=(ua8.mp h).1;rw [Bt h,upX]
   by_cases hb:b < ss.length
   ·rw [if_pos (show (b:Int)<=(ss.length:Int) - 1 by lia),if_pos (uk6 hb),En];have e0:ss[b]?=some ss[b]:=ub3 hb;have hsd:atI (shD ss) (b:Int)=some ss[b].d:=IE (by rw [GN,e0];rfl);have h2:=hc b hb S wv w (a + 1) hv hal;symm;refine EZ hsd ?_;symm;rw [show ((a:Int) + 1)=((a + 1:Nat):Int) by lia];refine h2.use ?_
    cases e2:(p b).run w (a + 1) with
    | short=>rw [rrD];symm;exact ⟨rfl,rfl⟩
    | broken k=>rw [rrD];symm;exact ⟨rfl,rfl⟩
    | told u a2=>rw [rrD];symm;exact ⟨rfl,rfl,rfl⟩
   ·rw [if_neg (show ¬(b:Int)<=(ss.length:Int) - 1 by lia),if_neg (by rw [ug8];exact hb)];symm;exact ⟨rfl,rfl⟩
def HE (f:Fn)(n:Nat):Prop:=∀s:Sh,s.depth<=n->wf s=true->RXw f s (pSh n s)
theorem RN (hn:∀lo hi,wf (.number lo hi)=true->RXw cn (.number lo hi) (pSh (n + 1) (.number lo hi)))(ht:∀q,wf (.text q)=true->RXw ct (.text q) (pSh (n + 1) (.text q)))
 (hl:∀s q,q<=250->s.depth<=n->wf s=true->RXw cl (.list s q) (pSh (n + 1) (.list s q))) (hp:∀s r,s.depth<=n->r.depth<=n->wf s=true->wf r=true->RXw cp (.pair s r) (pSh (n + 1) (.pair s r)))
 (hc:∀ss:List Sh,(∀(k:Nat) (h:k < ss.length),ss[k].depth<=n/\wf ss[k]=true)->RXw cc (.choice ss) (pSh (n + 1) (.choice ss))):HE (fnOf 3 4 (DA cc cp cl ct cn)) (n + 1):=by
 intro s hs hwf S wv w a hv ha;refine An rfl ?_;unfold DA
 cases s with
 | nothing=>
   rw [Sh.d,pSh,Rd.run,rrD];symm;exact ⟨rfl,rfl,rfl⟩
 | number lo hi=>
   have h:=hn lo hi hwf S wv w a hv ha;rw [Sh.d] at h ⊢;symm;exact h.use ⟨rfl,rfl⟩
 | text q=>
   have h:=ht q hwf S wv w a hv ha;rw [Sh.d] at h ⊢;symm;exact h.use ⟨rfl,rfl⟩
 | list s q=>
   simp only [wf,uh5,ug8] at hwf;rw [Sh.depth] at hs;have h:=hl s q hwf.1.2 (by lia) hwf.2 S wv w a hv ha;rw [Sh.d] at h ⊢;symm;exact h.use ⟨rfl,rfl⟩
 | pair s r=>
   simp only [wf,uh5] at hwf;rw [Sh.depth] at hs;have h:=hp s r (by lia) (by lia) hwf.1 hwf.2 S wv w a hv ha;rw [Sh.d] at h ⊢;symm;exact h.use ⟨rfl,rfl⟩
 | choice ss=>
   simp only [wf,uh5,ug8] at hwf;rw [Sh.depth] at hs;have h:=hc ss (λk hk=>⟨um0 (CD ss _ _ (ub3 hk)) (by lia),Et hwf.2 _ (ui1 hk)⟩) S wv w a hv ha;rw [Sh.d] at h ⊢;symm;exact h.use ⟨rfl,rfl⟩
theorem PY {ca cl':Fn}(e1:cc=fnOf 3 5 (De c cu))(e2:cp=fnOf 3 5 (DT c))(e3:cl=fnOf 3 8 (DS c cu))(e4:ct=fnOf 3 7 (DU ca cu))(e5:cn=fnOf 3 7 (Df cl' cb cw))
 (hu:UXw cu) (ha:SXw ca) (hl':HB cl') (hb:BXw cb) (hw:JP cw) (hc:HE c n):HE (fnOf 3 4 (DA cc cp cl ct cn)) (n + 1):=by
 subst e1 e2 e3 e4 e5;refine RN (λlo hi h S wv w a hv _=>?_) (λq h S wv w a hv _=>WJ ha hu h n w a hv) (λs q h2 hd h S wv w a hv _=>?_) (λs r d1 d2 w1 w2 S wv w a hv ha=>?_) λss h S wv w a hv _=>?_
 ·rw [pSh];exact Zi hl' hb hw h w a hv
 ·rw [pSh];exact WH hu h2 (hc s hd h) w a hv
 ·rw [pSh];exact WI (hc s d1 w1) (hc r d2 w2) w a hv ha
 ·rw [pSh];refine RM hu (p:=λb=>pSh n (ss.getD b .nothing)) (λk hk=>?_) w a hv;show RXw c ss[k] (pSh n (ss.getD k .nothing));rw [ua7,ub3 hk,Option.getD_some];exact hc _ (h k hk).1 (h k hk).2
variable {S':List Ob}
theorem Wir.gr {d:D}(h:Wir S d w)(g:Gr S S'):Wir S' d w:=h.imp id λ⟨k,e1,e2⟩=>⟨k,e1,g.get e2⟩
def O0 (f:Fn):Prop:=∀(S:List Ob) (wv:D) (n:Int) (side:Str) (ws:List (Str×Sh×Int)) (w:List Nat) (p:Nat),Wir S wv w->GSOk n (.st side ws)->p<=w.length->w.length<=50000->PureS S f [(GS.st side ws).d,wv,.int p] (EV side ws w p)
theorem V3 (hc:HE c 3):O0 (fnOf 3 6 (EU c)):=by
 intro S wv n side ws w p hv hgs hp hwl
 cases hgs with
 | @st _ _ hs1 hs2 hs3 hs4 hs5=>
 refine An rfl ?_;unfold EU;rw [GS.d]
 cases hb:w[p]? with
 | none=>
   have hpl:¬p < w.length:=by rw [ub1] at hb;lia
   rw [show EV side ws w p = .non by unfold EV msgR;rw [hb]];symm;refine Mi hv ?_;symm;refine Gm (by simp;lia) ?_;symm;refine ⟨rfl,?_⟩;symm;exact ⟨rfl,rfl⟩
 | some cc=>
   obtain ⟨hpl,_⟩:=ua8.mp hb;symm;refine Mi hv ?_;symm;refine EA (by simp;lia) ?_;symm;refine UJ hv hb ?_;symm;rw [ui6]
   cases hw:ws[cc]? with
   | none=>
     have hcl:¬cc < ws.length:=by rw [ub1] at hw;lia
     rw [show EV side ws w p = .exc "Broken" [.int p,.str side] by unfold EV msgR;simp only [hb,hw]];refine Gm (by simp;lia) ?_;symm;exact ⟨rfl,rfl⟩
   | some wd=>
     obtain ⟨hcl,_⟩:=ua8.mp hw;have hwo:=hs5 wd (ue0 hw);have hgd:ws.getD cc (Str.ofString "",.nothing,0)=wd:=by rw [ua7,hw];rfl
     have hrd:=hc wd.2.1 hwo.dep hwo.ok S wv w (p + 1) hv hpl;refine EA (by simp;lia) ?_;symm;refine UJ hv hb ?_;symm;refine Bb (Iz hw) ?_;unfold wdD;dsimp only;symm
     cases e:(pSh 3 wd.2.1).run w (p + 1) with
     | told v b=>
       rw [show EV side ws w p = .tup [.tup [.str side,.str wd.1,v],.int wd.2.2,.int b] by unfold EV msgR;simp only [hb,hw,e,hgd]];rw [e,rrD] at hrd;refine hrd.use ?_;symm;exact ⟨rfl,rfl,rfl⟩
     | short=>
       rw [show EV side ws w p = .non by unfold EV msgR;simp only [hb,hw,e]];rw [e,rrD] at hrd;refine hrd.use ?_;symm;refine ⟨rfl,?_⟩;symm;exact ⟨rfl,rfl⟩
     | broken k=>
       rw [show EV side ws w p = .exc "Broken" [.int k,.str side] by unfold EV msgR;simp only [hb,hw,e]];rw [e,rrD] at hrd;refine hrd.use ?_;symm;exact ⟨rfl,rfl⟩
def KJ (f:Fn):Prop:=∀(g:List GS) (wl wr:List Nat) (dl dr:D) (h a b W P:Nat) (S:List Ob),GOk g->Pl g wl wr h a b->wl.length<=25000->wr.length<=25000->Wir S dl wl->Wir S dr wr->S[W]?=some (.dct (lr dl dr))->S[P]?=some (.dct (dP a b))->
 Wf f [.lst (g.map GS.d),.int h,.obj W,.obj P] S λr S'=>Gr S S'/\roD r S' (walkR g wl wr (wl.length + wr.length + 1) h a b [])
theorem NU (hc:O0 c):KJ (fnOf 4 9 (Fb c)):=by
 intro g wl wr dl dr h a b W P S hg p hl1 hl2 hvl hvr hW hP;have hL:LIM=100000:=rfl;refine An rfl ?_;unfold Fb;symm;refine Sq hP ?_;symm;generalize hR:walkR g wl wr (wl.length + wr.length + 1) h a b []=R;obtain ⟨K,hK⟩:∃K,K=S.length:=⟨_,rfl⟩;rw [<-hK];refine GW (λn t=>∃(h' a' b':Nat) (tk:List D) (S':List Ob) (e7 e8:Option Sl),Pl g wl wr h' a' b'/\wl.length + wr.length + 1<=n + (a' + b')/\tk.length + n<=wl.length + wr.length + 1/\walkR g wl wr n h' a' b' tk=R/\Gr S S'/\S'[K]?=some (.dct (dP a' b'))/\t=⟨[some (.val (.lst (g.map GS.d))),some (.val (.int h)),some (.val (.obj W)),some (.val (.obj P)),some (.own tk),some (.val (.int h')),some (.val (.obj K)),e7,e8],S'⟩) ?_ JN (wl.length + wr.length + 1) _ ?_ ?_
 ·rintro n t ⟨h',a',b',tk,S',e7,e8,p',hn,ht,hR',hG,hK',rfl⟩;have pa:=p'.a;have pb:=p'.b;obtain ⟨m,rfl⟩:∃m,n=m + 1:=Nat.exists_eq_add_of_le' (by lia);have hgs:=CW hg p'.h;have hix:=CJ p'.h;have hW':=hG.get hW;unfold walkR Ca at hR'
  cases eg:Aw g h' with
  | fin=>
    rw [eg] at hix hR';rw [GS.d] at hix;symm;refine Bb hix ?_;symm;refine Qa hW' ?_;rw [SY];symm;show DM _ _ Out.next _;symm;subst hR';exact ⟨rfl,hG,K,rfl,hK'⟩
  | st side ws=>
    rw [eg] at hix hR' hgs;have hs:side=sL\/side=sR:=by cases hgs with | st hs1 _ _ _ _=>exact hs1
    have hix2:=hix;rw [GS.d] at hix2;symm;refine Bb hix2 ?_;symm;refine Qa hW' ?_;rw [Ki hs];symm;refine ⟨m,rfl,?_⟩;symm;refine Bb hix2 ?_;symm;refine Bb hix ?_;symm;refine AH hW' (Ki hs) ?_;symm;refine AH hK' (Ki hs) ?_;symm;have hon:(onS side (D.int (a':Int)) (D.int (b':Int))) = .int ((onS side a' b':Nat):Int):=by unfold onS;split <;> rfl
    have hon2:Wir S' (onS side dl dr) (onS side wl wr):=by unfold onS;split;exact hvl.gr hG;exact hvr.gr hG
    rw [hon];have hle:=Yx (s:=side) pa pb;have hms:=hc S' (onS side dl dr) g.length side ws (onS side wl wr) (onS side a' b') hon2 hgs hle (by unfold onS;split <;> lia)
    unfold EV at hms;dsimp only at hR';generalize hmr:msgR side ws (onS side wl wr) (onS side a' b')=mr at hms hR';obtain ⟨r0,c0⟩:=mr
    cases r0 with
    | short=>
      dsimp only at hms hR';refine hms.use ?_;symm;refine W_ret.mpr ?_;show DM _ _ Out.next _;symm;subst hR';exact ⟨rfl,hG,K,rfl,hK'⟩
    | broken k=>
      dsimp only at hms hR';refine hms.use ?_;symm;subst hR';exact ⟨hG,rfl⟩
    | told v e=>
      dsimp only at hms hR';have hst:Ca g wl wr h' a' b' = .next (.tup [.str side,.str (ws.getD c0 (Str.ofString "",.nothing,0)).1,v]) (ws.getD c0 (Str.ofString "",.nothing,0)).2.2.toNat (onS side e a') (onS side b' e):=by
       unfold Ca;rw [eg];dsimp only;rw [hmr]
      obtain ⟨p2,hlt⟩:=LM hg p' hst;refine hms.use ?_;symm;refine CK (by rw [hL];lia) ?_;symm;refine KC ?_;symm;refine Dm hK' (by show 2 < 100000;decide) ?_;rw [Re hs];have hwl:(0:Int)<=(ws.getD c0 (Str.ofString "",.nothing,0)).2.2:=by
       cases hgs with
       | st _ h2 _ _ h5=>
         cases hq:ws[c0]? with
         | none=>rw [ua7,hq];exact Int.le_refl _
         | some wd=>rw [ua7,hq];exact (h5 wd (ue0 hq)).lo
      have hd:lr (onS side (D.int (e:Int)) (D.int (a':Int))) (onS side (D.int (b':Int)) (D.int (e:Int)))=dP (onS side e a') (onS side b' e):=by unfold onS;split <;> rfl
      refine ⟨_,_,_,tk++[_],_,_,_,p2,by lia,by rw [uf4,ud4];lia,hR',hG.set (by lia),(A7 hK').trans (congrArg (λl=>some (Ob.dct l)) hd),t9 rfl (congrArg D.int (ue7 hwl).symm)⟩
 ·show _ < 1000000;lia
 ·exact ⟨h,a,b,[],_,none,none,p,by lia,by simp,hR,Gr.app,by rw [hK];exact CT,rfl⟩
abbrev Fu (wl wr:List Nat):Nat:=wl.length + wr.length + 1
def Rch (g:List GS)(vl vr:List Nat)(tk:List D)(h a b:Nat):Prop:=Pl g vl vr h a b/\∀xl xr:List Nat,walkR g (vl++xl) (vr++xr) (Fu (vl++xl) (vr++xr)) 0 0 0 []=walkR g (vl++xl) (vr++xr) (Fu (vl++xl) (vr++xr)) h a b tk
def Fed (g:List GS)(vl vr:List Nat)(tk:List D)(h a b:Nat)(fl:D):Prop:=Rch g vl vr tk h a b/\match walkR g vl vr (Fu vl vr) 0 0 0 [] with
 | (t',h',a',b',none)=>tk=t'/\h=h'/\a=a'/\b=b'/\fl = .non
 | (_,_,_,_,some (k,s))=>fl = .tup [.int (k:Nat),.str s]
section
variable {f:Str}{t:T}{P:D->T->Prop}{O:Out->T->Prop}{k:Nat}{n:Str}{fs:List (Str×D)}{v:D}
def Tg (f:Str)(d:D):M D:=FM d λ_ _ fs t=>(fs.lookup f).map λv=>(v,t)
def Lm (f:Str)(v d:D):M Out:=FM d λk n fs t=>if fs.length < 1000 then some (.next,{ t with S:=t.S.set k (.ins n (F0 f v fs)) }) else none
theorem ZK {a:M D}(h:W a t λd t1=>W (Tg f d) t1 P):W (Cg f a) t P:=Cq h
theorem BZ (e:t.S[k]?=some (.ins n fs))(l:fs.lookup f=some v)(h:P v t):W (Tg f (.obj k)) t P:=⟨_,_,by simp only [Tg,FM,e,l];rfl,h⟩
theorem OS {gv ga:M D}(h:W gv t λv t1=>W ga t1 λd t2=>W (Lm f v d) t2 O):W (B4 f gv ga) t O:=Cq (h.mono λ_ _ z=>Cq z)
theorem BM (e:t.S[k]?=some (.ins n fs))(l:fs.length < 1000)(h:O .next ⟨t.env,t.S.set k (.ins n (F0 f v fs))⟩):W (Lm f v (.obj k)) t O:=⟨_,_,by simp only [Lm,FM,e,if_pos l],h⟩
theorem bp {g:Fn}{fl:M (List D)}(h:W fl t λds t1=>Wf g (.obj t1.S.length :: ds) (t1.S++[.ins n []]) λr S'=>r = .non/\P (.obj t1.S.length) ⟨t1.env,S'⟩):W (Ka n g fl) t P:=
 Cq (h.mono λds t1 ⟨r,S',e,e2,p⟩=>by subst e2;exact ⟨_,_,by simp only [e],p⟩)
theorem bq {g:Fn}{o:M D}{fl:M (List D)}(h:W o t λd t1=>∃k fs,d = .obj k/\t1.S[k]?=some (.ins n fs)/\W fl t1 λds t2=>Wf g (d :: ds) t2.S λr S'=>P r ⟨t2.env,S'⟩):W (Bj n g o fl) t P:=by
 refine Cq (h.mono λd t1 z=>?_);obtain ⟨k,fs,e1,e2,w⟩:=z;subst e1;obtain ⟨ds,t2,w1,r,S',w2,p⟩:=w;refine ⟨r,_,?_,p⟩;simp only [FM,e2,if_pos,bnd,w1,w2]
theorem Ss (h:P (.obj t.S.length) ⟨t.env,t.S++[.dct []]⟩):W (E8 []) t P:=by
 refine ⟨_,_,?_,h⟩;simp [E8,IH,bnd,F2.ret,FB,Bi]
end
local macro_rules | `(tactic| walk_at "y1")=>`(tactic| first | walk_at "x1" | clear 31 Ls ZK OS Ss KC)
def OV (f:Fn):Prop:=∀g:List GS,GOk g->Pure1 f [.lst (g.map GS.d)] (.lst (g.map GS.d))
theorem Tn (hc:Gy c):OV (fnOf 1 1 (ES c)):=by
 intro g hg S;have hL:LIM=100000:=rfl;refine An rfl ?_;unfold ES;symm;refine (F8 (f:=id) (fr:=[]) (λd hd=>?_)).mono λxs t' ⟨e1,e2⟩=>?_
 ·obtain ⟨x,hx,rfl⟩:=um5.mp hd;have hok:=hg.all x hx;symm;refine (hc _ x hok).use ?_
  cases x with
  | fin=>
    rw [GS.isFin];symm;exact ⟨rfl,rfl⟩
  | st side ws=>
    rw [show (GS.st side ws).isFin=false from rfl,GS.d];symm;exact ⟨rfl,rfl⟩
 ·subst e1;rw [List.map_id];have:=hg.le;refine CK (by rw [ui6,hL];lia) ?_;symm;exact ⟨rfl,e2⟩
abbrev rdF (g:List GS)(h W P:Nat):List (Str×D):=[("grammar",.lst (g.map GS.d)),("standing",.int (h:Nat)),("wires",.obj W),("places",.obj P)]
structure Rdr (n0:Nat)(S:List Ob)(k:Nat)(g:List GS)(vl vr:List Nat)(h a b W P l r:Nat):Prop where
 k0:n0<=k
 l0:n0<=l
 r0:n0<=r
 ne:l≠r
 k:S[k]?=some (.ins "Reader" (rdF g h W P))
 w:S[W]?=some (.dct (lr (.obj l) (.obj r)))
 p:S[P]?=some (.dct (dP a b))
 l:S[l]?=some (.lst (wD vl))
 r:S[r]?=some (.lst (wD vr))
def Low (n0:Nat)(S S':List Ob):Prop:=n0<=S'.length/\∀i,i < n0->S'[i]?=S[i]?
variable {u:Ob}
theorem Ah {o:Ob}(h:S[i]?=some u)(n:j≠i):(S.set j o)[i]?=some u:=by rw [ud9 n];exact h
theorem Ar {o:Ob}(h:S[i]?=some o)(h':S[j]?=some u)(n:o≠u):i≠j:=λe=>by subst e;rw [h] at h';exact n (ui5 h')
def Kp (k:Nat)(S S':List Ob):Prop:=S.length<=S'.length/\∀i,i < S.length->i≠k->S'[i]?=S[i]?
theorem Kp.refl {k:Nat}:Kp k S S:=⟨um8 _,λ_ _ _=>rfl⟩
theorem Kp.setk {k:Nat}{o:Ob}(a:Kp k S S'):Kp k S (S'.set k o):=⟨by rw [uj8];exact a.1,λi h n=>by rw [ud9 (Ne.symm n)];exact a.2 i h n⟩
theorem Kp.set {k j:Nat}{S S':List Ob}{o:Ob}(a:Kp k S S')(h:S.length<=j):Kp k S (S'.set j o):=⟨by rw [uj8];exact a.1,λi hi n=>by rw [ud9 (by lia)];exact a.2 i hi n⟩
theorem Kp.app {k:Nat}{o:Ob}(a:Kp k S S'):Kp k S (S'++[o]):=⟨by rw [uf4];exact um0 a.1 (uh8 _ _),λi hi n=>by rw [ua9 (ue9 hi a.1)];exact a.2 i hi n⟩
theorem BJ {o:Ob}(h:S[i]?=some u):(S++[o])[i]?=some u:=by rw [ua9 (ua8.mp h).1];exact h
theorem B1 (h:S[i]?=some u):i < S.length:=(ua8.mp h).1
local macro_rules | `(tactic| walk_at "y1")=>`(tactic| first | walk_at "x1" | clear 31 Ls ZK OS Ss KC bq bp)
section
variable {n0:Nat}{S:List Ob}{k:Nat}{g:List GS}{vl vr:List Nat}{h a b W P l r:Nat}
end
mutual
def Ck:Sh->Bool
 | .number lo hi=>decide (hi - lo < 1000000000)
 | .list s _=>Ck s
 | .pair s r=>Ck s && Ck r
 | .choice ss=>GG ss
 | _=>true
def GG:List Sh->Bool
 | []=>true
 | s :: r=>Ck s && GG r
end
theorem Jf:∀{ss:List Sh},GG ss=true->∀s∈ss,Ck s=true
 | x :: r,h,s,m=>by
   rw [GG,uh5] at h;rcases uk8.mp m with e | m
   ·subst e;exact h.1
   ·exact Jf h.2 s m
mutual
def Ej:Sh->Bool
 | .text m=>decide (m<=3)
 | .list s m=>decide (m<=3) && Ej s
 | .pair s r=>Ej s && Ej r
 | .choice ss=>Ky ss
 | _=>true
def Ky:List Sh->Bool
 | []=>true
 | s :: r=>Ej s && Ky r
end
theorem LP:∀{ss:List Sh},Ky ss=true->∀s∈ss,Ej s=true
 | x :: r,h,s,m=>by
   rw [Ky,uh5] at h;rcases uk8.mp m with e | m
   ·subst e;exact h.1
   ·exact LP h.2 s m
def bt:Nat->Nat
 | 0=>4
 | d + 1=>1 + 3 * bt d
theorem MC:∀d,4<=bt d
 | 0=>um8 _
 | d + 1=>by have:=MC d;rw [bt];lia
structure Dr (d:Nat)(s:Sh):Prop where
 ok:wf s=true
 dep:s.depth<=d + 1
 nar:Ck s=true
 tin:Ej s=true
 few:∀v,Ak s v=true->(AC s v).length<=bt d
theorem Dr.nothing {d:Nat}:Dr d .nothing:=⟨rfl,by rw [Sh.depth];lia,rfl,rfl,λv h=>by
 have:v = .non:=by cases v <;> simp [Ak,Hd] at h <;> rfl
 subst this;exact um9 _⟩
theorem Dr.number {d:Nat}{lo w:Int}(h1 : -4<=lo)(h2:lo<=4)(h3:0<=w)(h4:w<=70000):Dr d (.number lo (lo + w)):=by
 refine ⟨?_,by rw [Sh.depth];lia,?_,rfl,λv h=>?_⟩
 ·simp only [wf,uh5,ug8];lia
 ·simp only [Ck,ug8];lia
 ·have hb:=MC d;have hw:=KD 3 (lo + w - lo).toNat (by show _ < 16777216;lia)
  cases v with
  | int i=>rw [AC,Nf];lia
  | _=>simp [Ak] at h
theorem Dr.text {d:Nat}{m:Int}(h1:0<=m)(h2:m<=3):Dr d (.text m):=by
 refine ⟨?_,by rw [Sh.depth];lia,rfl,?_,λv h=>?_⟩
 ·simp only [wf,uh5,ug8];lia
 ·simp only [Ej,ug8];lia
 ·have hb:=MC d
  cases v with
  | str x=>
    simp only [Ak,uh5,ug8] at h;have h:=h.1;rw [Ge] at h;rw [AC,uh1,ui6];lia
  | _=>simp [Ak] at h
theorem Oa {s:Sh}{n:Nat}:∀(ds:List D),(∀d∈ds,(AC s d).length<=n)->((ds.map λd=>AC s d).flatten).length<=ds.length * n
 | [],_=>um9 _
 | d :: r,h=>by
   have h1:=Oa r λx m=>h x (ud8 _ m);have h2:=h d uf0;rw [uk9,ug3,uf4,uh1,Nat.add_mul,Nat.one_mul];lia
theorem Dr.list {d:Nat}{s:Sh}{m:Int}(h:Dr d s)(h1:0<=m)(h2:m<=3):Dr (d + 1) (.list s m):=by
 have:=h.dep;refine ⟨?_,by rw [Sh.depth];lia,by rw [Ck];exact h.nar,?_,λv hf=>?_⟩
 ·simp only [wf,uh5,ug8,h.ok];exact ⟨⟨by lia,by lia⟩,trivial⟩
 ·simp only [Ej,h.tin,Bool.and_true,ug8];lia
 ·cases v with
  | lst ds=>
    rw [Ak,uh5,ug8,uh9] at hf;have h3:=Oa ds λx m=>h.few x (hf.2 x m);have h4:ds.length * bt d<=3 * bt d:=Nat.mul_le_mul_right _ (by lia);rw [AC,uh1,bt];lia
  | _=>simp [Ak] at hf
theorem Dr.pair {d:Nat}{s r:Sh}(h:Dr d s)(h':Dr d r):Dr (d + 1) (.pair s r):=by
 have:=h.dep;have:=h'.dep;refine ⟨by simp only [wf,h.ok,h'.ok,ul5],by rw [Sh.depth];lia,by simp only [Ck,h.nar,h'.nar,ul5],by simp only [Ej,h.tin,h'.tin,ul5],λv hf=>?_⟩;unfold Ak at hf
 split at hf
 ·rw [uh5] at hf;have h1:=h.few _ hf.1;have h2:=h'.few _ hf.2;rw [AC,uf4,bt];lia
 ·cases hf
theorem Dr.choice {d:Nat}{s r:Sh}(h:Dr d s)(h':Dr d r):Dr (d + 1) (.choice [s,r]):=by
 have:=h.dep;have:=h'.dep;refine ⟨?_,?_,by simp only [Ck,GG,h.nar,h'.nar,ul5],by simp only [Ej,Ky,h.tin,h'.tin,ul5],λv hf=>?_⟩
 ·simp only [wf,wfs,h.ok,h'.ok,ul5,Bool.and_true,uh5,ug8,uh1,uj4];lia
 ·rw [Sh.depth,Fz,Fz,Fz];lia
 ·unfold Ak at hf
  split at hf
  ·next o k x=>
   simp only [uh5,ug8] at hf;obtain ⟨j,rfl⟩:=uc0 hf.1.2.1;have hj:j < [s,r].length:=by have:=hf.1.2.2;lia
   have e1:[s,r][j]?=some [s,r][j]:=ub3 hj;have h2:=hf.2;rw [ug2,Cy [s,r] _ _ _ e1] at h2;rw [AC,ug2,E5 [s,r] _ _ _ e1,uh1,bt];have hm:[s,r][j]=s\/[s,r][j]=r:=by
    match j,hj with
    | 0,_=>exact .inl rfl
    | 1,_=>exact .inr rfl
   rcases hm with e | e
   ·rw [e] at h2 ⊢;have:=h.few x h2;lia
   ·rw [e] at h2 ⊢;have:=h'.few x h2;lia
  ·cases hf
def Gz (f:Fn)(d:Nat):Prop:=∀(cell:Int) (S:List Ob),Wf f [.int cell,.int d] S λr S'=>S'=S/\∃(s:Sh) (l:Int),r = .tup [s.d,.int l]/\Dr d s
theorem Yp (c:Int):c % 7=0\/c % 7=1\/c % 7=2\/c % 7=3\/c % 7=4\/c % 7=5\/c % 7=6:=by lia
theorem w5 (i:Int):∃w:Int,atI [D.int 0,.int 3,.int 255,.int 256,.int 70000] (i % 5)=some (.int w)/\0<=w/\w<=70000:=by
 have:i % 5=0\/i % 5=1\/i % 5=2\/i % 5=3\/i % 5=4:=by lia
 rcases this with h | h | h | h | h <;> rw [h]
 ·exact ⟨0,rfl,by decide⟩
 ·exact ⟨3,rfl,by decide⟩
 ·exact ⟨255,rfl,by decide⟩
 ·exact ⟨256,rfl,by decide⟩
 ·exact ⟨70000,rfl,by decide⟩
theorem Uv:Gz (fnOf 2 7 (Cj c)) 0:=by
 intro cell S;refine An rfl ?_;unfold Cj;obtain ⟨w,hw,w0,w1⟩:=w5 (cell / 7 / 9);have num:Dr 0 (.number (cell / 7 % 9 - 4) (cell / 7 % 9 - 4 + w)):=.number (by lia) (by lia) w0 w1;rcases Yp cell with h | h | h | h | h | h | h
 ·right;rw [h];right;exact ⟨rfl,.nothing,_,rfl,.nothing⟩
 ·right;rw [h];right;refine Bb hw ?_;right;exact ⟨rfl,_,_,rfl,num⟩
 ·right;rw [h];right;refine Bb hw ?_;right;exact ⟨rfl,_,_,rfl,num⟩
 ·right;rw [h];right;exact ⟨rfl,.text (cell / 7 % 4),_,rfl,.text (by lia) (by lia)⟩
 ·right;rw [h];right;refine Bb hw ?_;right;exact ⟨rfl,_,_,rfl,num⟩
 ·right;rw [h];right;refine Bb hw ?_;right;exact ⟨rfl,_,_,rfl,num⟩
 ·right;rw [h];right;refine Bb hw ?_;right;exact ⟨rfl,_,_,rfl,num⟩
theorem Uw {d:Nat}(hc:Gz c d):Gz (fnOf 2 7 (Cj c)) (d + 1):=by
 intro cell S;refine An rfl ?_;unfold Cj;obtain ⟨w,hw,w0,w1⟩:=w5 (cell / 7 / 9);have num:Dr (d + 1) (.number (cell / 7 % 9 - 4) (cell / 7 % 9 - 4 + w)):=.number (by lia) (by lia) w0 w1;have hd0:(((d + 1:Nat):Int) == 0)=false:=by rw [beq_eq_false_iff_ne];lia
 have hd1:((d + 1:Nat):Int) - 1=(d:Nat):=by lia
 rcases Yp cell with h | h | h | h | h | h | h
 ·right;rw [h];right;exact ⟨rfl,.nothing,_,rfl,.nothing⟩
 ·right;rw [h];right;refine Bb hw ?_;right;exact ⟨rfl,_,_,rfl,num⟩
 ·right;rw [h];right;refine Bb hw ?_;right;exact ⟨rfl,_,_,rfl,num⟩
 ·right;rw [h];right;exact ⟨rfl,.text (cell / 7 % 4),_,rfl,.text (by lia) (by lia)⟩
 ·right;rw [h];right;rw [hd1];refine (hc _ S).mono λr S' z9=>?_;obtain ⟨e,s,l,er,hs⟩:=z9;subst e er;right;exact ⟨rfl,.list s (l % 4),_,rfl,hs.list (by lia) (by lia)⟩
 ·right;rw [h];right;rw [hd1];refine (hc _ S).mono λr S' z9=>?_;obtain ⟨e,s,l,er,hs⟩:=z9;subst e er;right;rw [hd1];refine (hc _ _).mono λr S' z9=>?_;obtain ⟨e,s2,l2,er,hs2⟩:=z9;subst e er;right;exact ⟨rfl,.choice [s,s2],_,rfl,hs.choice hs2⟩
 ·right;rw [h];right;rw [hd1];refine (hc _ S).mono λr S' z9=>?_;obtain ⟨e,s,l,er,hs⟩:=z9;subst e er;right;rw [hd1];refine (hc _ _).mono λr S' z9=>?_;obtain ⟨e,s2,l2,er,hs2⟩:=z9;subst e er;right;exact ⟨rfl,.pair s s2,_,rfl,hs.pair hs2⟩
def Mu (f:Fn)(n:Nat):Prop:=∀(s:Sh),s.depth<=n->wf s=true->Ck s=true->Ej s=true->∀(cell:Int) (S:List Ob),Wf f [s.d,.int cell] S λr S'=>S'=S/\∃(v:D) (l:Int),r = .tup [v,.int l]/\Ak s v=true
def sg4 (i:Int):Nat:=[32,97,126,122].getD i.toNat 32
theorem Zo (i:Int):atI (Str.ofString " a~z").cps.toList (i % 4)=some (sg4 (i % 4)):=by
 have e:(Str.ofString " a~z").cps.toList=[32,97,126,122]:=by decide +kernel
 rw [e];have:i % 4=0\/i % 4=1\/i % 4=2\/i % 4=3:=by lia
 rcases this with h | h | h | h <;> rw [h] <;> rfl
theorem Uu (i:Int):BY (sg4 (i % 4))=true:=by
 have:i % 4=0\/i % 4=1\/i % 4=2\/i % 4=3:=by lia
 rcases this with h | h | h | h <;> rw [h] <;> decide
def p4 (k:Int):Int:=if k=0 then 1 else if k=1 then 4 else 16
theorem ar {k:Int}(h0:0<=k)(h1:k < 3):atI [D.int 1,.int 4,.int 16] k=some (.int (p4 k)):=by
 have:k=0\/k=1\/k=2:=by lia
 rcases this with rfl | rfl | rfl <;> rfl
theorem UY (k:Int):0 < p4 k/\p4 k < 1073741824:=by unfold p4;split <;> (try split) <;> lia
theorem dA {x:Str}{i:Int}(h:x.length<=LIM)(e:atI x.cps.toList i=some n)(p:P (.str ⟨#[n]⟩) t):W (ixD (.str x) (.int i)) t P:=W_ix_str.mpr ⟨h,n,e,p⟩
def ch4 (l:Int)(d:D):Nat:=match d with
 | .int k=>sg4 (l / p4 k % 4)
 | _=>32
theorem UH {f:Fn}:Mu f 0:=λs h=>absurd s.depth_pos (by lia)
theorem OH {d:D}(h:d∈Bd 0 n):∃k:Int,d = .int k/\0<=k/\k < n:=by
 obtain ⟨j,hj,e⟩:=List.getElem_of_mem h;have e1:d :: (Bd 0 n).drop (j + 1)=(Bd 0 n).drop j:=by rw [<-e];exact (ub0 hj).symm
 obtain ⟨rfl,_,hlt⟩:=F4 e1;exact ⟨0 + j,rfl,by lia,by lia⟩
theorem ZG (hc:Mu c n):Mu (fnOf 2 10 (Ei c)) (n + 1):=by
 intro s hs hw hn ht cell S;have hL:LIM=100000:=rfl;refine An rfl ?_;unfold Ei
 cases s with
 | nothing=>
   rw [Sh.d];right;exact ⟨rfl,_,_,rfl,rfl⟩
 | number lo hi=>
   simp only [wf,uh5,ug8] at hw;simp only [Ck,ug8] at hn;rw [Sh.d];right;refine Iw (by lia) ?_;right;refine JI (by lia) (by lia) ?_;right;refine ⟨rfl,_,_,rfl,?_⟩;have h1:=uk0 cell (b:=hi - lo + 1) (by lia);have h2:=uf8 cell (b:=hi - lo + 1) (by lia);simp only [Ak,uh5,ug8];lia
 | text m=>
   simp only [wf,uh5,ug8] at hw;simp only [Ej,ug8] at ht;rw [Sh.d];right;refine Iw (by lia) ?_;have h1:=uk0 cell (b:=m + 1) (by lia);have h2:=uf8 cell (b:=m + 1) (by lia);right;refine JI (by lia) (by lia) ?_;right;refine bi ?_;right;refine Gw (Cn (by lia) (by lia)) ?_;refine (F8 (f:=λd=>.str ⟨#[ch4 (cell / (m + 1)) d]⟩) (fr:=[some (.val (.int (cell / (m + 1))))]) ?_).mono ?_
   ·intro d hd;obtain ⟨k,rfl,k0,k1⟩:=OH hd;right;refine Bb (ar k0 (by lia)) ?_;refine JI (UY k).1 (UY k).2 ?_;right;refine dA (by decide +kernel) (Zo _) ?_;exact ⟨rfl,rfl⟩
   ·rintro xs t' ⟨rfl,hS⟩;refine CK (by rw [ui6,Dl,hL];lia) ?_;right;have e1:(Bd 0 (cell % (m + 1)).toNat).map (λd=>D.str ⟨#[ch4 (cell / (m + 1)) d]⟩)=((Bd 0 (cell % (m + 1)).toNat).map (ch4 (cell / (m + 1)))).map λn=>D.str ⟨#[n]⟩:=by rw [List.map_map];rfl
    refine ⟨_,_,_,rfl,rfl,by rw [e1];exact Iv _,⟨by decide +kernel,by rw [ui6,ui6,Dl];lia⟩,?_⟩;right;refine ⟨hS,_,_,rfl,?_⟩;simp only [Ak,uh5,ug8];rw [Ge,Pw,ui6,Dl];refine ⟨by lia,?_⟩;rw [uh9];intro z hz;obtain ⟨d,hd,rfl⟩:=um5.mp hz;obtain ⟨k,rfl,_,_⟩:=OH hd;exact Uu _
 | list s m=>
   rw [Sh.depth] at hs;simp only [wf,uh5,ug8] at hw;rw [Ck] at hn;simp only [Ej,uh5,ug8] at ht;rw [Sh.d];right;refine Iw (by lia) ?_;have h1:=uk0 cell (b:=m + 1) (by lia);have h2:=uf8 cell (b:=m + 1) (by lia);right;refine JI (by lia) (by lia) ?_;right;refine Gw (Cn (by lia) (by lia)) ?_;refine Dx (λr t=>∃(l:Int) (ds:List D) (e6 e7 e8 e9:Option Sl),ds.length + r.length=(cell % (m + 1)).toNat/\(∀d∈ds,Ak s d=true)/\t=⟨[some (.val (.tup [.str "list",s.d,.int m])),some (.val (.int cell)),some (.val (.str "list")),some (.val (.int (cell % (m + 1)))),some (.val (.int l)),some (.own ds),e6,e7,e8,e9],S⟩) _ _ ⟨_,[],none,none,none,none,by rw [Dl];simp,by simp,rfl⟩ ?_ ?_
   ·rintro d r t ⟨l,ds,e6,e7,e8,e9,hl,hf,rfl⟩ _;rw [uh1] at hl;right;refine (hc s (by lia) hw.2 hn ht.2 l S).mono λr' S' z9=>?_;obtain ⟨e,v,l2,er,hv⟩:=z9;subst e er;right;refine CK (by rw [hL];lia) ?_;refine ⟨l2,ds++[v],_,_,_,_,by rw [uf4];simp only [uh1,uj4];lia,?_,rfl⟩;intro d hd;rcases ui4.mp hd with h | h
    ·exact hf d h
    ·rw [uf6] at h;subst h;exact hv
   ·rintro t ⟨l,ds,e6,e7,e8,e9,hl,hf,rfl⟩;rw [uj4] at hl;right;refine ⟨rfl,_,_,rfl,?_⟩;simp only [Ak,uh5,ug8,uh9];exact ⟨by lia,hf⟩
 | pair s r=>
   rw [Sh.depth] at hs;simp only [wf,uh5] at hw;simp only [Ck,uh5] at hn;simp only [Ej,uh5] at ht;rw [Sh.d];right;refine (hc s (by lia) hw.1 hn.1 ht.1 cell S).mono λr' S' z9=>?_;obtain ⟨e,v,l2,er,hv⟩:=z9;subst e er;right;refine (hc r (by lia) hw.2 hn.2 ht.2 l2 _).mono λr' S' z9=>?_;obtain ⟨e,v',l3,er,hv'⟩:=z9;subst e er;right;exact ⟨rfl,_,_,rfl,by rw [Ak,hv,hv'];rfl⟩
 | choice ss=>
   rw [Sh.depth] at hs;simp only [wf,uh5,ug8] at hw;rw [Ck] at hn;rw [Ej] at ht;have h1:=uk0 cell (b:=(ss.length:Int)) (by lia);have h2:=uf8 cell (b:=(ss.length:Int)) (by lia);have hk:(cell % (ss.length:Int)).toNat < ss.length:=by lia
   have e1:ss[(cell % (ss.length:Int)).toNat]?=some ss[(cell % (ss.length:Int)).toNat]:=ub3 hk;have ea:atI (shD ss) (cell % (ss.length:Int))=some (ss[(cell % (ss.length:Int)).toNat]).d:=by
    unfold atI;rw [Ds h1 (by rw [DW];exact h2)];show (shD ss)[(cell % (ss.length:Int)).toNat]?=_;rw [GN,e1];rfl
   rw [Sh.d];right;rw [DW];refine Iw (by lia) ?_;right;refine EZ ea ?_;right;rw [DW];refine JI (by lia) (by lia) ?_;right;refine (hc _ (um0 (CD ss _ _ e1) (by lia)) (Et hw.2 _ (ui1 hk)) (Jf hn _ (ui1 hk)) (LP ht _ (ui1 hk)) _ _).mono λr' S' z9=>?_;obtain ⟨e,v,l2,er,hv⟩:=z9;subst e er;right;have ho:HX (Str.ofString "of")=true:=by decide +kernel
   exact ⟨rfl,_,_,rfl,by simp only [Ak,ho,h1,h2,decide_true,ul5,ul3,Cy ss _ _ _ e1,hv]⟩
theorem Gg {i j:Int}(h1 : -18446744073709551616 < j)(h2:j < 18446744073709551616)(h:P (.int (i * j)) t):W (DZ (.int i) (.int j)) t P:=Qc (Op h1 h2) h
def SE (f:Fn):Prop:=∀(cell k:Int) (S:List Ob),0<=k->k<=10->Wf f [.int cell,.int k] S λr S'=>S'=S/\∃n:Int,r = .int n
theorem Yo:SE (fnOf 2 3 Eg):=by
 intro cell k S k0 k1;refine An rfl ?_;unfold Eg;right;refine Cp (λq=>?_) λq=>?_
 ·right;exact ⟨rfl,_,rfl⟩
 ·right;refine Gg (by decide) (by decide) ?_;right;refine Gg (by lia) (by lia) ?_;right;refine Gg (by lia) (by lia) ?_;right;refine Gg (by lia) (by lia) ?_;right;have b0:=uk0 (cell * 48271 + 7919 * k * k + 104729 * k + 13) (b:=2147483647) (by decide);have b1:=uf8 (cell * 48271 + 7919 * k * k + 104729 * k + 13) (b:=2147483647) (by decide);generalize (cell * 48271 + 7919 * k * k + 104729 * k + 13) % 2147483647=x at b0 b1;refine Gg (by lia) (by lia) ?_;right;have d0:=uk0 (x * x) (b:=2147483629) (by decide);have d1:=uf8 (x * x) (b:=2147483629) (by decide);generalize x * x % 2147483629=y at d0 d1;refine Gg (by lia) (by lia) ?_;right;refine Gg (by lia) (by lia) ?_;right;refine Gg (by lia) (by lia) ?_;right;exact ⟨rfl,_,rfl⟩
def Tin (x:GS):Prop:=∀w∈x.ws,Dr 2 w.2.1
def StC (f:Fn):Prop:=∀(cell k many:Int) (S:List Ob),0<=k->k<=10->1<=many->many<=6->Wf f [.int cell,.int k,.int many] S λr S'=>S'=S/\∃x:GS,r=x.d/\GSOk many x/\Tin x
def names3:List Str:=[Str.ofString "go",Str.ofString "no",Str.ofString "ask"]
theorem names3_nd:names3.Nodup:=by decide +kernel
theorem Rm:∀x∈names3,x.length<=90000:=by decide +kernel
theorem bX (i:Int):Bx (names3.map D.str) none (some (1 + i % 3))=(names3.take (1 + i % 3).toNat).map D.str:=by
 have:i % 3=0\/i % 3=1\/i % 3=2:=by lia
 rcases this with h | h | h <;> rw [h] <;> rfl
theorem aH (i:Int):∃s:Str,atI [D.str (Str.ofString "left"),.str (Str.ofString "right")] (i % 2)=some (.str s)/\(s=Str.ofString "left"\/s=Str.ofString "right"):=by
 have:i % 2=0\/i % 2=1:=by lia
 rcases this with h | h <;> rw [h]
 ·exact ⟨_,rfl,.inl rfl⟩
 ·exact ⟨_,rfl,.inr rfl⟩
def LH (Cs:Fn):M Out:=
 (Af (EX 4 (Bh Ad))
 (Af (AA 5 (Ac (AX (Bh (Ab (fC (.str "left")) (Ab (fC (.str "right")) Ad)))) (Ac (Ac (Aa 3) (fC (.int 5)) Bc) (fC (.int 2)) Bl) ixD))
 (Af (AA 6 (Ac (fC (.int 1)) (Ac (Ac (Aa 3) (fC (.int 10)) Bc) (fC (.int 3)) Bl) AW))
 (Af (AA 3 (Ac (Aa 3) (fC (.int 30)) Bc))
 (Af (B8 (DX (fSl (AX (Bh (Ab (fC (.str "go")) (Ab (fC (.str "no")) (Ab (fC (.str "ask")) Ad))))) fNo (D8 (Aa 6)) DO)) (AB 7)
   (Af (Ce (Ai Cs (Ab (Aa 3) (Ab (fC (.int 2)) Ad))) (unS 2 (AN (AB 8) (AN (AB 3) B2))))
 (Af (ownM 4 Dt (Ab (AD (Ab (Aa 7) (Ab (Aa 8) (Ab (Ac (Aa 3) (Aa 2) Bl) Ad)))) Ad))
 (AA 3 (Ac (Aa 3) (Aa 2) Bc)))))
 (Ao (AD (Ab (Aa 5) (Ab (Aa 4) Ad)))))))))
theorem OP {cs:Fn}(hs:Gz cs 2){cell k many n:Int}{S:List Ob}(m0:1<=many)(m1:many<=6):W (LH cs) ⟨[some (.val (.int cell)),some (.val (.int k)),some (.val (.int many)),some (.val (.int n)),none,none,none,none,none],S⟩ λo t=>∃x:GS,o = .ret x.d/\t.S=S/\GSOk many x/\Tin x:=by
 have hL:LIM=100000:=rfl;obtain ⟨side,hsd,hside⟩:=aH (n / 5);unfold LH;right;refine Bb hsd ?_;right;show W (CV _ _ (Bx (names3.map D.str) none (some (1 + n / 10 % 3)))) _ _;rw [bX];refine Dx (λr t=>∃(ws:List (Str×Sh×Int)) (rs:List Str) (l:Int) (e7 e8:Option Sl),r=rs.map D.str/\ws.map (·.1)++rs=names3.take (1 + n / 10 % 3).toNat/\(∀w∈ws,WOk many w/\Dr 2 w.2.1)/\t=⟨[some (.val (.int cell)),some (.val (.int k)),some (.val (.int many)),some (.val (.int l)),some (.own (ws.map wdD)),some (.val (.str side)),some (.val (.int (1 + n / 10 % 3))),e7,e8],S⟩) _ _ ⟨[],names3.take (1 + n / 10 % 3).toNat,_,none,none,rfl,rfl,by simp,rfl⟩ ?_ ?_
 ·rintro d r t ⟨ws,rs,l,e7,e8,hr,hn,hw,rfl⟩ _
  cases rs with
  | nil=>cases hr
  | cons nm rs=>
    rw [uk9] at hr;injection hr with h1 h2
    subst h1 h2;have hl:ws.length<=3:=by
     have:=congrArg List.length hn;rw [uf4,ui6,uh3] at this;have:names3.length=3:=rfl;lia
    have hmem:nm∈names3:=List.mem_of_mem_take (by rw [<-hn];simp);right;refine (hs _ S).mono λr' S' z9=>?_;obtain ⟨e,s,l2,er,hd⟩:=z9;subst e er;right;refine Iw (by lia) ?_;right;refine CK (by rw [ui6,hL];lia) ?_;right;refine JI (by lia) (by lia) ?_;refine ⟨ws++[(nm,s,l2 % many)],rs,_,_,_,rfl,by rw [uj7,ug4];exact hn,?_,by rw [uj7];rfl⟩;intro w hw';rcases ui4.mp hw' with h | h
    ·exact hw w h
    ·rw [uf6] at h;subst h;exact ⟨⟨hd.ok,hd.dep,uk0 _ (by lia),uf8 _ (by lia),Rm nm hmem⟩,hd⟩
 ·rintro t ⟨ws,rs,l,e7,e8,hr,hn,hw,rfl⟩
  cases rs with
  | cons _ _=>cases hr
  | nil=>
    rw [ui8] at hn;have hl:=congrArg List.length hn;rw [ui6,uh3] at hl;have hl3:names3.length=3:=rfl;right;refine ⟨.st side ws,rfl,rfl,.st hside (by lia) (by lia) (by rw [hn];exact names3_nd.sublist (List.take_sublist _ _)) λw h=>(hw w h).1,λw h=>(hw w h).2⟩
variable {cm:Fn}
theorem cF {cs:Fn}(hs:Gz cs 2)(hm:SE cm):StC (fnOf 3 9 (Eh cs cm)):=by
 intro cell k many S k0 k1 m0 m1;refine An rfl ?_;unfold Eh;right;refine (hm cell k S k0 k1).mono λr S' z9=>?_;obtain ⟨e,n,er⟩:=z9;subst e er;right;refine Cp (λq=>?_) λq=>?_
 ·right;refine Cp (λq2=>?_) λq2=>?_
  ·right;exact ⟨rfl,.fin,rfl,.fin,λw h=>by cases h⟩
  ·right;refine Cp (λq3=>?_) λq3=>?_
   ·right;exact ⟨rfl,.fin,rfl,.fin,λw h=>by cases h⟩
   ·refine Qd (Eo ?_);exact (OP hs m0 m1).mono λo t ⟨x,eo,es,h1,h2⟩=>by subst eo;exact ⟨es,x,rfl,h1,h2⟩
 ·refine EA rfl (Qd (Eo ?_));exact (OP hs m0 m1).mono λo t ⟨x,eo,es,h1,h2⟩=>by subst eo;exact ⟨es,x,rfl,h1,h2⟩
theorem bb {f:M (List D)}{Q:List D->T->Prop}(h:W f t λds t1=>∃xs,ds=[.lst xs]/\Q (D7 0 xs) t1):W (Pj f) t Q:=Cq (h.mono λds t1 ⟨xs,e,q⟩=>by subst e;exact ⟨_,_,rfl,q⟩)
def GrC (f:Fn):Prop:=∀(cells:List Int) (S:List Ob),1<=cells.length->cells.length<=6->Wf f [.lst (cells.map .int)] S λr S'=>S'=S/\∃g:List GS,r = .lst (g.map GS.d)/\GOk g/\∀x∈g,Tin x
theorem ck {cs:Fn}(hs:StC cs):GrC (fnOf 1 1 (DH cs)):=by
 intro cells S h1 h2;have hL:LIM=100000:=rfl;refine An rfl ?_;unfold DH;right;refine bb ?_;right;refine ⟨_,rfl,?_⟩;refine (HF (P:=λxs t'=>t'.S=S/\∃g:List GS,xs=g.map GS.d/\g.length=cells.length/\∀x∈g,GSOk cells.length x/\Tin x) (λacc r t=>∃(g:List GS) (cs:List Int) (e0 e1:Option Sl),acc=g.map GS.d/\r=D7 g.length (cs.map .int)/\g.length + cs.length=cells.length/\(∀x∈g,GSOk cells.length x/\Tin x)/\t=⟨[e0,e1,some (.val (.lst (cells.map .int)))],S⟩) (D7 0 (cells.map .int)) [] _ ⟨[],cells,none,none,rfl,rfl,by simp,by simp,rfl⟩ ?_ ?_).mono ?_
 ·rintro acc d r t ⟨g,cs',e0,e1,ha,hr,hl,hg,rfl⟩ _
  cases cs' with
  | nil=>cases hr
  | cons c cs'=>
    rw [uk9,D7] at hr;injection hr with q1 q2
    subst q1 q2;rw [uh1] at hl;right;rw [if_pos rfl];right;rw [ui6];refine (hs c _ _ S (by lia) (by lia) (by lia) (by lia)).mono λr' S' z9=>?_;obtain ⟨e,x,er,hx,ht⟩:=z9;subst e er ha;refine ⟨g++[x],cs',_,_,by rw [uj7];rfl,by rw [uf4];rfl,by rw [uf4];simp only [uh1,uj4];lia,?_,rfl⟩;intro y hy;rcases ui4.mp hy with h | h
    ·exact hg y h
    ·rw [uf6] at h;subst h;exact ⟨hx,ht⟩
 ·rintro acc t ⟨g,cs',e0,e1,ha,hr,hl,hg,rfl⟩
  cases cs' with
  | cons _ _=>cases hr
  | nil=>exact ⟨rfl,g,ha,by simpa using hl,hg⟩
 ·rintro xs t' ⟨hS,g,rfl,hl,hg⟩;refine CK (by rw [ui6,hL];lia) ?_;exact ⟨hS,g,rfl,⟨by lia,by lia,λx h=>by rw [hl];exact (hg x h).1⟩,λx h=>(hg x h).2⟩
def OU (f:Fn):Prop:=∀(ns:List Int) (k:Int),0<=k->k<=1000->∃c:Int,Pure1 f [.scr ns,.int k] (.int c)
theorem XG:OU (fnOf 2 2 Dz):=by
 intro ns k h0 h1
 by_cases z:k < ns.length
 ·have hk:k.toNat < ns.length:=by lia
  refine ⟨ns[k.toNat],λS=>An rfl ?_⟩;unfold Dz;right;refine Gm (uk6 (by lia)) ?_;right;refine W_ix_scr.mpr ⟨ns[k.toNat],?_,?_⟩
  ·unfold atI;rw [Ds h0 (by lia)];show ns[k.toNat]?=_;rw [ub3 hk]
  ·right;exact ⟨rfl,rfl⟩
 ·refine ⟨0,λS=>An rfl ?_⟩;unfold Dz;right;refine EA (uk1 (by lia)) ?_;right;exact ⟨rfl,rfl⟩
theorem M5 (hq:q < g.length):Aw g q∈g:=by
 unfold Aw;rw [ua7,ub3 hq];exact ui1 hq
theorem LS {g:List GS}(hg:GOk g)(sd:Str):∀(q:Nat) (mv:List Mv),okQ g q mv->isB (Am g sd q mv)
 | _,[],_=>λd h=>nomatch h
 | q,(p,v) :: r,h=>by
   rw [okQ] at h;have hw:=FA hg h.1.lt h.1.pl;have hgs:=CW hg h.1.lt;have hp:=h.1.pl;have hp9:p < 256:=by
    cases e:Aw g q with
    | fin=>rw [e] at hp;exact absurd hp (Nat.not_lt_zero _)
    | st s ws=>
      rw [e] at hp hgs
      cases hgs with
      | st _ _ h3 _ _=>exact ue9 hp (um0 h3 (by decide))
   rw [Am];refine K7 ?_ (LS hg sd _ r h.2)
   split
   ·exact FN hp9 (FG 3 _ hw.dep hw.ok v h.1.fit)
   ·exact λd h=>nomatch h
section
variable {α:Type}{o:Str}{x y z:α}
theorem Ld:onS o (onS o x y) (onS o y x)=x:=by unfold onS;split <;> rfl
theorem Yv:onS o x (onS o y z)=onS o x z:=by unfold onS;split <;> rfl
theorem Yw:onS o (onS o y z) x=onS o y x:=by unfold onS;split <;> rfl
theorem cB (hs:s=sL\/s=sR)(ho:o=sL\/o=sR)(n:s≠o):onS s (onS o x y) (onS o y x)=y:=by
 unfold onS;rcases hs with rfl | rfl <;> rcases ho with rfl | rfl
 ·exact absurd rfl n
 ·rw [if_pos rfl,if_neg (Ne.symm sLR)]
 ·rw [if_neg (Ne.symm sLR),if_pos rfl]
 ·exact absurd rfl n
end
abbrev w1 (g:List GS)(o:Str)(w:List Nat)(F h a:Nat)(t:List D):Rs:=walkR g (onS o w []) (onS o [] w) F h (onS o a 0) (onS o 0 a) t
abbrev s1 (g:List GS)(o:Str)(w:List Nat)(h a:Nat):Sr:=Ca g (onS o w []) (onS o [] w) h (onS o a 0) (onS o 0 a)
theorem NA (hg:GOk g){o:Str}(ho:o=sL\/o=sR){w:List Nat}{h a:Nat}(hh:h < g.length)(n:(Aw g h).side≠o):s1 g o w h a = .stop:=by
 have hgs:=CW hg hh;unfold s1 Ca
 cases e:Aw g h with
 | fin=>rfl
 | st side ws=>
   rw [e] at hgs n;have hs:side=sL\/side=sR:=by cases hgs with | st hs1 _ _ _ _=>exact hs1
   dsimp only;rw [cB hs ho n];rfl
theorem Ks {o:Str}{ws:List (Str×Sh×Int)}(e:Aw g h = .st o ws):s1 g o w h a=match msgR o ws w a with
 | (.short,_)=>.stop
 | (.broken k,_)=>.brk k o
 | (.told v e,c)=>.next (.tup [.str o,.str (ws.getD c (Str.ofString "",.nothing,0)).1,v]) (ws.getD c (Str.ofString "",.nothing,0)).2.2.toNat (onS o e 0) (onS o 0 e):=by
 unfold s1 Ca;rw [e];dsimp only;rw [Ld,Ld];generalize msgR o ws w a=m;obtain ⟨r,c⟩:=m
 cases r <;> dsimp only
 rw [Yv,Yw]
theorem Zk (hg:GOk g){o:Str}(ho:o=sL\/o=sR){w:List Nat}{h a:Nat}(hh:h < g.length)(ha:w.length<=a):s1 g o w h a = .stop:=by
 by_cases n:(Aw g h).side=o
 ·cases e:Aw g h with
  | fin=>unfold s1 Ca;rw [e]
  | st side ws=>
    rw [e] at n;have n:side=o:=n;subst n;rw [Ks e];unfold msgR;rw [List.getElem?_eq_none ha]
 ·exact NA hg ho hh n
theorem At.take {w:List Nat}{a c:Nat}{xs:List D}(h:At w a xs)(l:a + xs.length<=c):At (w.take c) a xs:=by
 obtain ⟨p,q,e,rfl⟩:=h;refine ⟨p,q.take (c - (p.length + xs.length)),?_,rfl⟩;have:wD (w.take c)=(wD w).take c:=by unfold wD;rw [List.map_take]
 rw [this,e,<-ug4,List.take_append,uc7 (by rw [uf4];exact l),uf4,ug4]
abbrev mbQ (g:List GS)(q p:Nat)(v:D):List D:=.int (p:Int) :: AC (wdAt g q p).2.1 v
def Ea (g:List GS)(o:Str):Nat->List Mv->Prop
 | _,[]=>True
 | q,(p,_) :: r=>(Aw g q).side=o/\Ea g o (BR g q p) r
theorem Jh {g:List GS}{o:Str}:∀(q:Nat) (a b:List Mv),Ea g o q (a++b)↔Ea g o q a/\Ea g o (Ap g q a) b
 | q,[],b=>by simp [Ea,Ap]
 | q,(p,v) :: r,b=>by rw [ui2,Ea,Ea,Ap,Jh _ r b,and_assoc]
def KF (g:List GS)(q a tk:Nat):List Mv->Prop
 | []=>True
 | (p,v) :: _=>tk < a + (mbQ g q p v).length
theorem TN (hg:GOk g){q p:Nat}{v:D}{ws:List (Str×Sh×Int)}{o:Str}(hm:MvOk g q p v)(e:Aw g q = .st o ws){w:List Nat}{c:Nat}(h:At w c (mbQ g q p v)):msgR o ws w c=(.told v (c + (mbQ g q p v).length),p)/\ws.getD p (Str.ofString "",.nothing,0)=wdAt g q p:=by
 have hw:=FA hg hm.lt hm.pl;obtain ⟨side,ws',e',hpl,ew⟩:=E4 hm.pl;rw [e] at e'
 cases e'
 refine ⟨?_,by rw [ua7,ew];rfl⟩;obtain ⟨h1,h2⟩:=At.head h;unfold msgR;rw [h1];dsimp only;rw [ew];dsimp only;rw [back 3 _ hw.dep hw.ok w v (c + 1) hm.fit h2,uh1]
 congr 2
 lia
theorem Rj (hg:GOk g){q p:Nat}{v:D}{ws:List (Str×Sh×Int)}{o:Str}(hm:MvOk g q p v)(e:Aw g q = .st o ws){w:List Nat}{c tk:Nat}(h:At w c (mbQ g q p v))(h1:c<=tk)(h2:tk < c + (mbQ g q p v).length):(msgR o ws (w.take tk) c).1 = .short:=by
 have hw:=FA hg hm.lt hm.pl;obtain ⟨side,ws',e',hpl,ew⟩:=E4 hm.pl;rw [e] at e'
 cases e'
 obtain ⟨h3,h4⟩:=At.head h;unfold msgR
 by_cases z:c < tk
 ·rw [uf7,if_pos z,h3];dsimp only;rw [ew];dsimp only;have hb:=back 3 _ hw.dep hw.ok w v (c + 1) hm.fit h4;rw [uh1] at h2;exact UE _ _ hb z (by lia)
 ·rw [uf7,if_neg z]
theorem OR {g:List GS}(hg:GOk g){o:Str}(ho:o=sL\/o=sR){w:List Nat}{tk:Nat}(htl:tk<=w.length):∀(mv:List Mv) (q a F:Nat) (t:List D),q < g.length->okQ g q mv->Ea g o q mv->At w a (Am g o q mv)->a + (Am g o q mv).length=w.length->a<=tk->tk + 1<=F + a->
 ∃m1 m2,mv=m1++m2/\a + (Am g o q m1).length<=tk/\KF g (Ap g q m1) (a + (Am g o q m1).length) tk m2/\w1 g o (w.take tk) F q a t=(t++AO g q m1,Ap g q m1,onS o (a + (Am g o q m1).length) 0,onS o 0 (a + (Am g o q m1).length),none)
 | [],q,a,F,t,hq,_,_,_,hl,ha,_=>by
   have hl:a=w.length:=hl;refine ⟨[],[],rfl,ha,trivial,?_⟩;rw [AO,ui8];exact Gh (Zk hg ho hq (by rw [uh3];lia)) F
 | (p,v) :: r,q,a,F,t,hq,hk,hA,hat,hl,ha,hF=>by
   rw [okQ] at hk;rw [Ea] at hA;rw [Am,if_pos hA.1] at hat hl;have hat1:At w a (mbQ g q p v):=hat.left;obtain ⟨ws,e⟩:∃ws,Aw g q = .st o ws:=by
    obtain ⟨side,ws,e,_,_⟩:=E4 hk.1.pl;refine ⟨ws,?_⟩;have h:=hA.1;rw [e] at h ⊢;rw [<-show side=o from h]
   by_cases z:a + (mbQ g q p v).length<=tk
   ·have hpos:0 < (mbQ g q p v).length:=by rw [uh1];lia
    obtain ⟨F',rfl⟩:∃F',F=F' + 1:=⟨F - 1,by lia⟩;obtain ⟨m1,m2,em,hle,hcut,hw⟩:=OR hg ho htl r (BR g q p) (a + (mbQ g q p v).length) F' (t++[DJ g q p v]) (Os hg hq hk.1.pl) hk.2 hA.2 hat.right (by have hl2:a + (mbQ g q p v++Am g o (BR g q p) r).length=w.length:=hl;rw [uf4] at hl2;lia) z (by lia);obtain ⟨hb1,hb2⟩:=TN hg hk.1 e (hat1.take z);have ewq:(Am g o q ((p,v) :: m1)).length=(mbQ g q p v).length + (Am g o (BR g q p) m1).length:=by rw [Am,if_pos hA.1,uf4]
    refine ⟨(p,v) :: m1,m2,by rw [em];rfl,by lia,by rw [Ap,ewq,<-ul4];exact hcut,?_⟩;rw [ewq,<-ul4,Ap,AO,List.append_cons,<-hw];show walkR g _ _ (F' + 1) q _ _ t=_;rw [walkR,show Ca g (onS o (w.take tk) []) (onS o [] (w.take tk)) q (onS o a 0) (onS o 0 a)=_ from Ks e,hb1];dsimp only;rw [hb2];unfold DJ;rw [e];rfl
   ·refine ⟨[],(p,v) :: r,rfl,ha,by show tk < a + 0 + (mbQ g q p v).length;lia,?_⟩;rw [AO,ui8];refine Gh (?_:s1 g o (w.take tk) q a = .stop) F;rw [Ks e];have hs:=Rj hg hk.1 e hat1 ha (by lia);generalize msgR o ws (w.take tk) a=m at hs ⊢;obtain ⟨r0,c0⟩:=m;have hs:r0 = .short:=hs;subst hs;rfl
abbrev d1 (o:Str)(d:D):List (Key×D):=[(.inr o,d)]
theorem J0 {o:Str}{d:D}:AU (d1 o d) (.inr o)=some d:=by simp [AU,uj3]
theorem XN {o:Str}{d:D}(n:s≠o):AU (d1 o d) (.inr s)=none:=by
 unfold AU;rw [uj3,show decide ((Sum.inr o:Key) = .inr s)=false from uk1 λh=>n (Sum.inr.inj h).symm];rfl
theorem XO {o:Str}{d e:D}:Br (d1 o d) (.inr o) e=d1 o e:=by
 unfold Br;rw [if_pos (by simp)];simp only [uk9,um3,if_true]
def ro1 (o:Str)(r:D)(S':List Ob):Rs->Prop
 | (t,h,a,b,none)=>∃K,r = .tup [.lst t,.int (h:Nat),.obj K]/\S'[K]?=some (.dct (d1 o (.int (onS o a b:Nat))))
 | (_,_,_,_,some (k,s))=>r = .exc "Broken" [.int (k:Nat),.str s]
def KI (f:Fn):Prop:=∀(g:List GS) (o:Str) (w:List Nat) (dw:D) (h a W P:Nat) (S:List Ob),GOk g->(o=sL\/o=sR)->h < g.length->a<=w.length->w.length<=25000->Wir S dw w->S[W]?=some (.dct (d1 o dw))->S[P]?=some (.dct (d1 o (.int (a:Nat))))->
 Wf f [.lst (g.map GS.d),.int (h:Nat),.obj W,.obj P] S λr S'=>Gr S S'/\ro1 o r S' (w1 g o w (w.length + 1) h a [])
theorem NT (hc:O0 c):KI (fnOf 4 9 (Fb c)):=by
 intro g o w dw h a W P S hg ho hh ha hl hv hW hP;have hL:LIM=100000:=rfl;refine An rfl ?_;unfold Fb;symm;refine Sq hP ?_;symm;generalize hR:w1 g o w (w.length + 1) h a []=R;obtain ⟨K,hK⟩:∃K,K=S.length:=⟨_,rfl⟩;rw [<-hK];refine GW (λn t=>∃(h' a':Nat) (tk:List D) (S':List Ob) (e7 e8:Option Sl),h' < g.length/\a'<=w.length/\w.length + 1<=n + a'/\tk.length + n<=w.length + 1/\w1 g o w n h' a' tk=R/\Gr S S'/\S'[K]?=some (.dct (d1 o (.int (a':Nat))))/\t=⟨[some (.val (.lst (g.map GS.d))),some (.val (.int h)),some (.val (.obj W)),some (.val (.obj P)),some (.own tk),some (.val (.int h')),some (.val (.obj K)),e7,e8],S'⟩) ?_ JN (w.length + 1) _ ?_ ?_
 ·rintro n t ⟨h',a',tk,S',e7,e8,hh',ha',hn,ht,hR',hG,hK',rfl⟩;obtain ⟨m,rfl⟩:∃m,n=m + 1:=Nat.exists_eq_add_of_le' (by lia);have hgs:=CW hg hh';have hix:=CJ hh';have hW':=hG.get hW
  by_cases z:(Aw g h').side=o
  ·cases eg:Aw g h' with
   | fin=>
     rw [eg] at z;rcases ho with rfl | rfl <;> exact absurd z (by decide +kernel)
   | st side ws=>
     rw [eg] at z;have z:side=o:=z;subst z;rw [eg] at hix hgs;have hix2:=hix;rw [GS.d] at hix2;symm;refine Bb hix2 ?_;symm;refine Qa hW' ?_;rw [J0];symm;refine ⟨m,rfl,?_⟩;symm;refine Bb hix2 ?_;symm;refine Bb hix ?_;symm;refine AH hW' J0 ?_;symm;refine AH hK' J0 ?_;symm;have hst:s1 g side w h' a'=_:=Ks eg;have hms:=hc S' dw g.length side ws w a' (hv.gr hG) hgs ha' (by lia);have hR2:walkR g (onS side w []) (onS side [] w) (m + 1) h' (onS side a' 0) (onS side 0 a') tk=R:=hR';rw [walkR,show Ca g (onS side w []) (onS side [] w) h' (onS side a' 0) (onS side 0 a')=_ from hst] at hR2;unfold EV at hms;generalize hmr:msgR side ws w a'=mr at hms hR2 hst;obtain ⟨r0,c0⟩:=mr
     cases r0 with
     | short=>
       dsimp only at hms hR2;refine hms.use ?_;symm;refine W_ret.mpr ?_;show DM _ _ Out.next _;symm;subst hR2;exact ⟨rfl,hG,K,rfl,by rw [Ld];exact hK'⟩
     | broken k=>
       dsimp only at hms hR2;refine hms.use ?_;symm;subst hR2;exact ⟨hG,rfl⟩
     | told v e=>
       dsimp only at hms hR2 hst;have pl:Pl g (onS side w []) (onS side [] w) h' (onS side a' 0) (onS side 0 a'):=⟨hh',by unfold onS;split <;> first | exact ha' | exact um9 _,by unfold onS;split <;> first | exact ha' | exact um9 _⟩
       obtain ⟨p2,hlt⟩:=LM hg pl hst;have hae:a' < e:=by unfold onS at hlt;split at hlt <;> lia
       have hel:e<=w.length:=by
        have h1:=p2.a;have h2:=p2.b;unfold onS at h1 h2
        split at h1
        ·exact h1
        ·next q=>simp only [if_neg q] at h2;exact h2
       refine hms.use ?_;symm;refine CK (by rw [hL];lia) ?_;symm;refine Dm hK' (by show 1 < 100000;decide) ?_;rw [XO];have hwl:(0:Int)<=(ws.getD c0 (Str.ofString "",.nothing,0)).2.2:=by
        cases hgs with
        | st _ h2 _ _ h5=>
          cases hq:ws[c0]? with
          | none=>rw [ua7,hq];exact Int.le_refl _
          | some wd=>rw [ua7,hq];exact (h5 wd (ue0 hq)).lo
       refine ⟨_,e,tk++[_],_,_,_,p2.h,hel,by lia,by rw [uf4,ud4];lia,hR2,hG.set (by lia),A7 hK',t9 rfl (congrArg D.int (ue7 hwl).symm)⟩
  ·have hR2:R=(tk,h',onS o a' 0,onS o 0 a',none):=by rw [<-hR'];exact Gh (NA hg ho hh' z) _
   have hsd:atI [(D.str (Aw g h').side)] 0=some (.str (Aw g h').side):=rfl;have fin:∀(t:T) (Q:D->T->Prop),Q (.str (Aw g h').side) t->F2.W (ixD (Aw g h').d (.int 0)) t Q:=λt Q h=>by
    cases e:Aw g h' with
    | fin=>rw [e] at h;rw [GS.d];exact EZ Fs h
    | st s w=>rw [e] at h;rw [GS.d];exact EZ Fs h
   symm;refine Bb hix ?_;symm;refine fin _ _ ?_;symm;refine Qa hW' ?_;rw [XN z];symm;show DM _ _ Out.next _;symm;subst hR2;exact ⟨rfl,hG,K,rfl,by rw [Ld];exact hK'⟩
 ·show _ < 1000000;lia
 ·exact ⟨h,a,[],_,none,none,hh,ha,by lia,by simp,hR,Gr.app,by rw [hK];exact CT,rfl⟩
def Kx (F:List Nat)(S S':List Ob):Prop:=S.length<=S'.length/\∀i,i < S.length->i∉F->S'[i]?=S[i]?
section
variable {F:List Nat}{S S1 S2:List Ob}{k:Nat}{o:Ob}
theorem Kx.refl:Kx F S S:=⟨um8 _,λ_ _ _=>rfl⟩
theorem Kx.set (a:Kx F S S1)(h:k∈F):Kx F S (S1.set k o):=⟨by rw [uj8];exact a.1,λi hi n=>by rw [ud9 (λe=>n (by rw [<-e];exact h))];exact a.2 i hi n⟩
theorem Kx.gr (a:Kx F S S1)(b:Gr S1 S2):Kx F S S2:=⟨um0 a.1 b.1,λi h n=>(b.2 i (ue9 h a.1)).trans (a.2 i h n)⟩
theorem Kx.get (a:Kx F S S1)(n:k∉F)(h:S[k]?=some o):S1[k]?=some o:=by rw [a.2 k (B1 h) n];exact h
end
abbrev lsF (g:List GS)(x:Str)(h tk hd W P q:Nat):List (Str×D):=[("grammar",.lst (g.map GS.d)),("standing",.int (h:Nat)),("wires",.obj W),("places",.obj P),("side",.str x),("said",.obj q),("taken",.int (tk:Nat)),("handed",.int (hd:Nat))]
structure Lst (S:List Ob)(g:List GS)(x o:Str)(h a tk hd:Nat)(w sd:List Nat)(k l q W P:Nat):Prop where
 ik:S[k]?=some (.ins "Lasting" (lsF g x h tk hd W P q))
 iw:S[W]?=some (.dct (d1 o (.obj l)))
 ip:S[P]?=some (.dct (d1 o (.int (a:Nat))))
 il:S[l]?=some (.lst (wD w))
 iq:S[q]?=some (.lst (wD sd))
 ne:l≠q
section
variable {S S':List Ob}{g:List GS}{x o:Str}{h a tk hd:Nat}{w sd:List Nat}{k l q W P:Nat}
theorem Lst.keep {F:List Nat}(R:Lst S g x o h a tk hd w sd k l q W P)(K:Kx F S S')(n1:k∉F)(n2:l∉F)(n3:q∉F)(n4:W∉F)(n5:P∉F):Lst S' g x o h a tk hd w sd k l q W P:=
 ⟨K.get n1 R.ik,K.get n4 R.iw,K.get n5 R.ip,K.get n2 R.il,K.get n3 R.iq,R.ne⟩
theorem Lst.gr (R:Lst S g x o h a tk hd w sd k l q W P)(G:Gr S S'):Lst S' g x o h a tk hd w sd k l q W P:=
 ⟨G.get R.ik,G.get R.iw,G.get R.ip,G.get R.il,G.get R.iq,R.ne⟩
theorem Lst.ext (R:Lst S g x o h a tk hd w sd k l q W P)(y:List Nat):Lst (S.set l (.lst (wD w++wD y))) g x o h a tk hd (w++y) sd k l q W P:=
 ⟨Ah R.ik (Ar R.il R.ik (by simp)),Ah R.iw (Ar R.il R.iw (by simp)),Ah R.ip (Ar R.il R.ip (by simp)),by rw [GQ];exact A7 R.il,Ah R.iq R.ne,R.ne⟩
theorem Lst.sayx (R:Lst S g x o h a tk hd w sd k l q W P)(y:List Nat):Lst (S.set q (.lst (wD sd++wD y))) g x o h a tk hd w (sd++y) k l q W P:=
 ⟨Ah R.ik (Ar R.iq R.ik (by simp)),Ah R.iw (Ar R.iq R.iw (by simp)),Ah R.ip (Ar R.iq R.ip (by simp)),Ah R.il (Ne.symm R.ne),by rw [GQ];exact A7 R.iq,R.ne⟩
theorem Lst.put {h' a' tk' hd' Q:Nat}(R:Lst S g x o h a tk hd w sd k l q W P)(e:S[Q]?=some (.dct (d1 o (.int (a':Nat))))):Lst (S.set k (.ins "Lasting" (lsF g x h' tk' hd' W Q q))) g x o h' a' tk' hd' w sd k l q W Q:=
 ⟨A7 R.ik,Ah R.iw (Ar R.ik R.iw (by simp)),Ah e (Ar R.ik e (by simp)),Ah R.il (Ar R.ik R.il (by simp)),Ah R.iq (Ar R.ik R.iq (by simp)),R.ne⟩
end
variable {tk hd l:Nat}
theorem Ic {x o:Str}{sd:List Nat}{k W P:Nat}(R:Lst S g x o h a tk hd w sd k l q W P):PureS S (fnOf 1 1 CZ) [.obj k] (.int (h:Nat)):=by
 refine An rfl ?_;unfold CZ;symm;refine BZ R.ik rfl ?_;symm;exact ⟨rfl,rfl⟩
theorem Gf {x o:Str}{sd:List Nat}{k W P:Nat}(R:Lst S g x o h a tk hd w sd k l q W P):PureS S (fnOf 1 1 Ci) [.obj k] (.int (tk:Nat)):=by
 refine An rfl ?_;unfold Ci;symm;refine BZ R.ik rfl ?_;symm;exact ⟨rfl,rfl⟩
def Two (x o:Str):Prop:=(x=sL/\o=sR)\/(x=sR/\o=sL)
theorem Two.swap {x o:Str}(h:Two x o):Two o x:=h.elim (λh=>.inr ⟨h.2,h.1⟩) λh=>.inl ⟨h.2,h.1⟩
theorem Two.x {x o:Str}(h:Two x o):x=sL\/x=sR:=h.imp (·.1) (·.1)
theorem Two.o {x o:Str}(h:Two x o):o=sL\/o=sR:=h.swap.x
theorem Two.ne {x o:Str}(h:Two x o):x≠o:=by
 rcases h with ⟨rfl,rfl⟩ | ⟨rfl,rfl⟩
 ·exact sLR
 ·exact Ne.symm sLR
def L7 (f:Fn):Prop:=∀x o:Str,Two x o->Pure1 f [.str x] (.str o)
theorem YI:L7 (fnOf 1 1 FS):=by
 intro x o h S;refine An rfl ?_;unfold FS;rcases h with ⟨rfl,rfl⟩ | ⟨rfl,rfl⟩
 ·symm;exact ⟨rfl,rfl⟩
 ·symm;exact ⟨rfl,rfl⟩
def OW (f:Fn):Prop:=∀(S:List Ob) (g:List GS) (x o:Str) (h a tk hd:Nat) (w sd y:List Nat) (k l q W P:Nat) (t:List D) (h' a1 b1:Nat),GOk g->Two x o->h < g.length->a<=w.length->(w++y).length<=25000->w1 g o (w++y) ((w++y).length + 1) h a []=(t,h',a1,b1,none)->Lst S g x o h a tk hd w sd k l q W P->
 Wf f [.obj k,.str o,.lst (wD y)] S λr S'=>r = .lst t/\Kx [k,l,q] S S'/\∃P',Lst S' g x o h' (onS o a1 b1) tk hd (w++y) sd k l q W P'
theorem Tt (hc:KI c):OW (fnOf 3 4 (Fh c)):=by
 intro S g x o h a tk hd w sd y k l q W P t h' a1 b1 hg ho hh ha hl hw R;have hL:LIM=100000:=rfl;have hly:w.length + y.length<=25000:=by rw [uf4] at hl;exact hl
 refine An rfl ?_;unfold Fh;symm;refine Mj (k:=l) ?_;symm;refine BZ R.ik rfl ?_;symm;refine AH R.iw J0 ?_;refine ⟨rfl,_,R.il,?_⟩;symm;refine ⟨_,wD w++wD y,R.il,by simp only [Ec];rw [if_pos (by rw [A6,A6,hL];lia)],?_⟩;have R1:=R.ext y;have K1:Kx [k,l,q] S (S.set l (.lst (wD w++wD y))):=Kx.refl.set (by simp);generalize S.set l (.lst (wD w++wD y))=S1 at R1 K1 ⊢;symm;refine BZ R1.ik rfl ?_;symm;refine BZ R1.ik rfl ?_;symm;refine BZ R1.ik rfl ?_;symm;refine BZ R1.ik rfl ?_;symm;refine (hc g o (w++y) (.obj l) h a W P S1 hg ho.o hh (by rw [uf4];lia) hl (.inr ⟨l,rfl,R1.il⟩) R1.iw R1.ip).mono λr S2 z9=>?_;obtain ⟨hG,hr⟩:=z9;have R2:=R1.gr hG;have K2:=K1.gr hG;rw [hw] at hr;obtain ⟨K,rfl,hK⟩:=hr;symm;refine BM R2.ik (by show 8 < 1000;decide) ?_;symm;refine BM (A7 R2.ik) (by show 8 < 1000;decide) ?_;symm;refine ⟨rfl,rfl,(K2.set (by simp)).set (by simp),K,?_⟩;show Lst ((S2.set k (.ins "Lasting" (lsF g x h' tk hd W P q))).set k (.ins "Lasting" (lsF g x h' tk hd W K q))) g x o h' (onS o a1 b1) tk hd (w++y) sd k l q W K;rw [List.set_set];exact R2.put hK
def KG (f:Fn):Prop:=∀(S:List Ob) (g:List GS) (x o:Str) (h a tk hd:Nat) (w sd y:List Nat) (k l q W P:Nat) (t:List D) (h' a1 b1:Nat),GOk g->Two x o->h < g.length->a<=w.length->(w++y).length<=25000->w1 g o (w++y) ((w++y).length + 1) h a []=(t,h',a1,b1,none)->Lst S g x o h a tk hd w sd k l q W P->
 Wf f [.obj k,.lst (wD y)] S λr S'=>r = .lst t/\Kx [k,l,q] S S'/\∃P',Lst S' g x o h' (onS o a1 b1) tk hd (w++y) sd k l q W P'
variable {co:Fn}
theorem Rb {ch:Fn}(h1:L7 co)(h2:OW ch):KG (fnOf 2 2 (Fk co ch)):=by
 intro S g x o h a tk hd w sd y k l q W P t h' a1 b1 hg ho hh ha hl hw R;refine An rfl ?_;unfold Fk;symm;refine ⟨k,_,rfl,R.ik,?_⟩;symm;refine BZ R.ik rfl ?_;symm;refine (h1 x o ho).use ?_;symm;refine (h2 S g x o h a tk hd w sd y k l q W P t h' a1 b1 hg ho hh ha hl hw R).mono λr S' z=>?_;obtain ⟨rfl,z⟩:=z;symm;exact ⟨rfl,z⟩
def Pa (f:Fn):Prop:=∀(S:List Ob) (g:List GS) (x o:Str) (h a tk hd:Nat) (w sd y:List Nat) (k l q W P:Nat) (t:List D) (h' a1 b1:Nat),GOk g->Two x o->h < g.length->a<=w.length->(w++y).length<=25000->w1 g o (w++y) ((w++y).length + 1) h a []=(t,h',a1,b1,none)->Lst S g x o h a tk hd w sd k l q W P->
 Wf f [.obj k,.lst (wD y)] S λr S'=>r = .lst t/\Kx [k,l,q] S S'/\∃P',Lst S' g x o h' (onS o a1 b1) (tk + y.length) hd (w++y) sd k l q W P'
theorem UC (hc:KG c):Pa (fnOf 2 3 (EQ c)):=by
 intro S g x o h a tk hd w sd y k l q W P t h' a1 b1 hg ho hh ha hl hw R;refine An rfl ?_;unfold EQ;symm;refine ⟨k,_,rfl,R.ik,?_⟩;symm;refine (hc S g x o h a tk hd w sd y k l q W P t h' a1 b1 hg ho hh ha hl hw R).mono λr S' z=>?_;obtain ⟨rfl,K,P',R'⟩:=z;symm;refine BZ R'.ik rfl ?_;symm;refine BM R'.ik (by show 8 < 1000;decide) ?_;symm;refine ⟨rfl,rfl,K.set (by simp),P',?_⟩;rw [A6];exact R'.put (tk':=tk + y.length) R'.ip
def SG (f:Fn):Prop:=∀(S:List Ob) (g:List GS) (x o:Str) (h a tk hd:Nat) (w sd y:List Nat) (k l q W P p:Nat) (v:D),GOk g->MvOk g h p v->(Aw g h).side=x->mbQ g h p v=wD y->sd.length + y.length<=25000->Lst S g x o h a tk hd w sd k l q W P->
 Wf f [.obj k,.str (wdAt g h p).1,v] S λr S'=>r = .lst (wD y)/\Kx [k,l,q] S S'/\Lst S' g x o (BR g h p) a tk hd w (sd++y) k l q W P
def Ms (f:Fn):Prop:=∀(S:List Ob) (g:List GS) (x o:Str) (h a tk hd:Nat) (w sd y:List Nat) (k l q W P p:Nat) (v:D),GOk g->MvOk g h p v->(Aw g h).side=x->mbQ g h p v=wD y->sd.length + y.length<=25000->Lst S g x o h a tk hd w sd k l q W P->
 Wf f [.obj k,.str (wdAt g h p).1,v] S λr S'=>r = .lst (wD y)/\Kx [k,l,q] S S'/\Lst S' g x o (BR g h p) a tk hd w sd k l q W P
theorem Uy (hm:L6 cm)(hn:HC cn)(hp:GU cp):Ms (fnOf 3 5 (FP cm cn cp)):=by
 intro S g x o h a tk hd w sd y k l q W P p v hg hv hx hy hl R;refine An rfl ?_;unfold FP;have hpl:=hp g h p v hg hv;unfold DJ at hpl;rw [hx] at hpl;have hyl:(AC (wdAt g h p).2.1 v).length + 1=y.length:=by
  have:=congrArg List.length hy;rw [uh1,A6] at this;exact this
 symm;refine BZ R.ik rfl ?_;symm;refine BZ R.ik rfl ?_;symm;refine Bb (CJ hv.lt) ?_;symm;refine BZ R.ik rfl ?_;symm;refine hpl.use ?_;symm;refine BZ R.ik rfl ?_;symm;refine BZ R.ik rfl ?_;symm;refine (hn g h p hg hv.lt hv.pl).use ?_;symm;refine BM R.ik (by show 8 < 1000;decide) ?_;symm;refine (hm g h p v hg hv (by lia)).use ?_;symm;exact ⟨rfl,by rw [<-hy],Kx.refl.set (by simp),R.put R.ip⟩
theorem WL (hc:Ms c):SG (fnOf 3 4 (Fi c)):=by
 intro S g x o h a tk hd w sd y k l q W P p v hg hv hx hy hl R;have hL:LIM=100000:=rfl;refine An rfl ?_;unfold Fi;symm;refine ⟨k,_,rfl,R.ik,?_⟩;symm;refine (hc S g x o h a tk hd w sd y k l q W P p v hg hv hx hy hl R).mono λr S' z=>?_;obtain ⟨rfl,K,R'⟩:=z;symm;refine Mj (k:=q) ?_;symm;refine BZ R'.ik rfl ?_;refine ⟨rfl,_,R'.iq,?_⟩;symm;refine ⟨_,wD sd++wD y,R'.iq,by simp only [Ec];rw [if_pos (by rw [A6,A6,hL];lia)],?_⟩;symm;exact ⟨rfl,rfl,K.set (by simp),R'.sayx y⟩
theorem ZO {k:Nat}{lo hi:Option Int}(e:t.S[k]?=some (.lst ds))(h:P (.lst (Bx ds lo hi)) t):W (Lo (.obj k) lo hi) t P:=⟨_,_,by simp only [Lo,e],h⟩
def Sz (f:Fn):Prop:=∀(S:List Ob) (g:List GS) (x o:Str) (h a tk hd n:Nat) (w sd:List Nat) (k l q W P:Nat),hd<=n->n<=sd.length->Lst S g x o h a tk hd w sd k l q W P->
 Wf f [.obj k,.int (n:Nat)] S λr S'=>r = .lst (wD (sd.drop n))/\Kx [k,l,q] S S'/\Lst S' g x o h a tk n w sd k l q W P
theorem Vi (hc:FF c):Sz (fnOf 2 2 (C1 c)):=by
 intro S g x o h a tk hd n w sd k l q W P h1 h2 R;refine An rfl ?_;unfold C1;symm;refine BZ R.ik rfl ?_;symm;refine BZ R.ik rfl ?_;symm;refine KB R.iq ?_;symm;refine (hc (.int n) hd (wD sd).length rfl).use ?_;rw [show Eu (hd:Int) ((wD sd).length:Nat) (.int (n:Int))=true by rw [A6];simp only [Eu,uh5,ug8];lia];symm;refine BM R.ik (by show 8 < 1000;decide) ?_;have R1:=R.put (h':=h) (tk':=tk) (hd':=n) R.ip;have K1:Kx [k,l,q] S (S.set k (.ins "Lasting" (lsF g x h tk n W P q))):=Kx.refl.set (by simp);show DM _ _ Out.next ⟨_,S.set k (.ins "Lasting" (lsF g x h tk n W P q))⟩;generalize S.set k (.ins "Lasting" (lsF g x h tk n W P q))=S1 at R1 K1 ⊢;symm;refine BZ R1.ik rfl ?_;symm;refine ZO R1.iq ?_;rw [Qx];symm;exact ⟨rfl,rfl,K1,R1⟩
abbrev heF (g:List GS)(W P:Nat):List (Str×D):=[("grammar",.lst (g.map GS.d)),("standing",.int (0:Nat)),("wires",.obj W),("places",.obj P)]
structure Hea (S S':List Ob)(k W P l:Nat)(o:Str)(fs:List (Str×D)):Prop where
 kp:Kp k S S'
 ik:S'[k]?=some (.ins "Lasting" fs)
 iw:S'[W]?=some (.dct (d1 o (.obj l)))
 ip:S'[P]?=some (.dct (d1 o (.int (0:Nat))))
 il:S'[l]?=some (.lst [])
 gw:S.length<=W
 gp:S.length<=P
 gl:S.length<=l
theorem Hea.put {k W P:Nat}{o:Str}{fs fs':List (Str×D)}(R:Hea S S' k W P l o fs):Hea S (S'.set k (.ins "Lasting" fs')) k W P l o fs':=
 ⟨R.kp.setk,A7 R.ik,Ah R.iw (Ar R.ik R.iw (by simp)),Ah R.ip (Ar R.ik R.ip (by simp)),Ah R.il (Ar R.ik R.il (by simp)),R.gw,R.gp,R.gl⟩
theorem Hea.app {S S':List Ob}{k W P l:Nat}{o:Str}{fs:List (Str×D)}{b:Ob}(R:Hea S S' k W P l o fs):Hea S (S'++[b]) k W P l o fs:=
 ⟨R.kp.app,BJ R.ik,BJ R.iw,BJ R.ip,BJ R.il,R.gw,R.gp,R.gl⟩
def Mn (f:Fn):Prop:=∀(S:List Ob) (k:Nat) (g:List GS) (o:Str),GOk g->S[k]?=some (.ins "Lasting" [])->Wf f [.obj k,.lst (g.map GS.d),.tup [.str o]] S λr S'=>r = .non/\∃W P l,Hea S S' k W P l o (heF g W P)
theorem QW (hc:OV c):Mn (fnOf 3 4 (EB c)):=by
 intro S k g o hg hk;have hkl:=B1 hk;refine An rfl ?_;unfold EB;symm;refine (hc g hg).use ?_;symm;refine BM hk (by show 0 < 1000;decide) ?_;have k1:Kp k S (S.set k (.ins "Lasting" [("grammar",.lst (g.map GS.d))])):=Kp.refl.setk;have g1:(S.set k (.ins "Lasting" [("grammar",.lst (g.map GS.d))]))[k]?=some (.ins "Lasting" [("grammar",.lst (g.map GS.d))]):=A7 hk;show DM _ _ Out.next ⟨_,S.set k (.ins "Lasting" [("grammar",.lst (g.map GS.d))])⟩;generalize S.set k (.ins "Lasting" [("grammar",.lst (g.map GS.d))])=S1 at k1 g1 ⊢;symm;refine BM g1 (by show 1 < 1000;decide) ?_;have k2:Kp k S (S1.set k (.ins "Lasting" [("grammar",.lst (g.map GS.d)),("standing",.int (0:Nat))])):=k1.setk;have g2:(S1.set k (.ins "Lasting" [("grammar",.lst (g.map GS.d)),("standing",.int (0:Nat))]))[k]?=some (.ins "Lasting" [("grammar",.lst (g.map GS.d)),("standing",.int (0:Nat))]):=A7 g1;show DM _ _ Out.next ⟨_,S1.set k (.ins "Lasting" [("grammar",.lst (g.map GS.d)),("standing",.int (0:Nat))])⟩;generalize S1.set k (.ins "Lasting" [("grammar",.lst (g.map GS.d)),("standing",.int (0:Nat))])=S2 at k2 g2 ⊢;symm;refine BM (BJ g2) (by show 2 < 1000;decide) ?_;obtain ⟨W,hW⟩:∃W,W=S2.length:=⟨_,rfl⟩;have w3:((S2++[Ob.dct []]).set k (.ins "Lasting" [("grammar",.lst (g.map GS.d)),("standing",.int (0:Nat)),("wires",.obj W)]))[W]?=some (.dct []):=by rw [hW];exact Ah CT (ul9 (B1 g2))
 have k3:Kp k S ((S2++[Ob.dct []]).set k (.ins "Lasting" [("grammar",.lst (g.map GS.d)),("standing",.int (0:Nat)),("wires",.obj W)])):=k2.app.setk;have g3:((S2++[Ob.dct []]).set k (.ins "Lasting" [("grammar",.lst (g.map GS.d)),("standing",.int (0:Nat)),("wires",.obj W)]))[k]?=some (.ins "Lasting" [("grammar",.lst (g.map GS.d)),("standing",.int (0:Nat)),("wires",.obj W)]):=A7 (BJ g2);have hSW:S.length<=W:=by rw [hW];exact k2.1
 show DM _ _ Out.next ⟨_,(S2++[Ob.dct []]).set k (.ins "Lasting" [("grammar",.lst (g.map GS.d)),("standing",.int (0:Nat)),("wires",.obj S2.length)])⟩;rw [<-hW];generalize (S2++[Ob.dct []]).set k (.ins "Lasting" [("grammar",.lst (g.map GS.d)),("standing",.int (0:Nat)),("wires",.obj W)])=S3 at w3 k3 g3 ⊢;symm;refine BM (BJ g3) (by show 3 < 1000;decide) ?_;obtain ⟨P,hP⟩:∃P,P=S3.length:=⟨_,rfl⟩;have w4:((S3++[Ob.dct []]).set k (.ins "Lasting" (heF g W P)))[W]?=some (.dct []):=Ah (BJ w3) (Ar g3 w3 (by simp));have p4:((S3++[Ob.dct []]).set k (.ins "Lasting" (heF g W P)))[P]?=some (.dct []):=by rw [hP];exact Ah CT (ul9 (B1 g3))
 have k4:Kp k S ((S3++[Ob.dct []]).set k (.ins "Lasting" (heF g W P))):=k3.app.setk;have g4:((S3++[Ob.dct []]).set k (.ins "Lasting" (heF g W P)))[k]?=some (.ins "Lasting" (heF g W P)):=A7 (BJ g3);have hWP:W < P:=by rw [hP];exact B1 w3
 show DM _ _ Out.next ⟨_,(S3++[Ob.dct []]).set k (.ins "Lasting" (heF g W S3.length))⟩;rw [<-hP];generalize (S3++[Ob.dct []]).set k (.ins "Lasting" (heF g W P))=S4 at w4 p4 k4 g4 ⊢;symm;have hWk:W≠k:=λe=>by subst e;lia
 have hPk:P≠k:=λe=>by subst e;lia
 refine W_forL_cons.mpr ?_;symm;refine BZ (BJ g4) rfl ?_;symm;refine Dm (BJ w4) (by show 0 < 100000;decide) ?_;obtain ⟨l,hl⟩:∃l,l=S4.length:=⟨_,rfl⟩;have hlk:k < l:=by rw [hl];exact B1 g4
 have hlW:W < l:=by rw [hl];exact B1 w4
 have hlP:P < l:=by rw [hl];exact B1 p4
 have k5:Kp k S ((S4++[Ob.lst []]).set W (.dct (d1 o (.obj l)))):=k4.app.set hSW;have g5:((S4++[Ob.lst []]).set W (.dct (d1 o (.obj l))))[k]?=some (.ins "Lasting" (heF g W P)):=Ah (BJ g4) hWk;have w5:((S4++[Ob.lst []]).set W (.dct (d1 o (.obj l))))[W]?=some (.dct (d1 o (.obj l))):=A7 (BJ w4);have p5:((S4++[Ob.lst []]).set W (.dct (d1 o (.obj l))))[P]?=some (.dct []):=Ah (BJ p4) (by lia);have l5:((S4++[Ob.lst []]).set W (.dct (d1 o (.obj l))))[l]?=some (.lst []):=by rw [hl];exact Ah CT (by lia)
 show DM _ _ Out.next ⟨_,(S4++[Ob.lst []]).set W (.dct (d1 o (.obj S4.length)))⟩;rw [<-hl];generalize (S4++[Ob.lst []]).set W (.dct (d1 o (.obj l)))=S5 at k5 g5 w5 p5 l5 ⊢;symm;refine BZ g5 rfl ?_;symm;refine Dm p5 (by show 0 < 100000;decide) ?_;show F2.W (CV _ _ []) ⟨_,S5.set P (.dct (d1 o (.int (0:Nat))))⟩ _;refine W_forL_nil.mpr ?_;exact ⟨rfl,W,P,l,k5.set (by lia),Ah g5 hPk,Ah w5 (by lia),A7 p5,Ah l5 (by lia),hSW,by lia,by lia⟩
abbrev siF (g:List GS)(W P:Nat)(x:Str):List (Str×D):=[("grammar",.lst (g.map GS.d)),("standing",.int (0:Nat)),("wires",.obj W),("places",.obj P),("side",.str x)]
abbrev s6F (g:List GS)(W P:Nat)(x:Str)(q:Nat):List (Str×D):=[("grammar",.lst (g.map GS.d)),("standing",.int (0:Nat)),("wires",.obj W),("places",.obj P),("side",.str x),("said",.obj q)]
abbrev s7F (g:List GS)(W P:Nat)(x:Str)(q:Nat):List (Str×D):=[("grammar",.lst (g.map GS.d)),("standing",.int (0:Nat)),("wires",.obj W),("places",.obj P),("side",.str x),("said",.obj q),("taken",.int (0:Nat))]
def O6 (f:Fn):Prop:=∀(S:List Ob) (k:Nat) (g:List GS) (x o:Str),GOk g->Two x o->S[k]?=some (.ins "Lasting" [])->Wf f [.obj k,.lst (g.map GS.d),.str x] S λr S'=>r = .non/\∃W P l,Hea S S' k W P l o (siF g W P x)
theorem Ux {ch:Fn}(h1:L7 co)(h2:Mn ch):O6 (fnOf 3 3 (Fj co ch)):=by
 intro S k g x o hg ho hk;refine An rfl ?_;unfold Fj;symm;refine (h1 x o ho).use ?_;symm;refine (h2 S k g o hg hk).mono λr S' z9=>?_;obtain ⟨e,W,P,l,R⟩:=z9;subst e;symm;refine BM R.ik (by show 4 < 1000;decide) ?_;symm;exact ⟨rfl,W,P,l,R.put⟩
def OY (f:Fn):Prop:=∀(S:List Ob) (k:Nat) (g:List GS) (x o:Str),GOk g->Two x o->S[k]?=some (.ins "Lasting" [])->Wf f [.obj k,.lst (g.map GS.d),.str x] S λr S'=>r = .non/\Kp k S S'/\∃W P l q,Lst S' g x o 0 0 0 0 [] [] k l q W P/\S.length<=l/\S.length<=q
theorem TB (hc:O6 c):OY (fnOf 3 3 (Ee c)):=by
 intro S k g x o hg ho hk;refine An rfl ?_;unfold Ee;symm;refine (hc S k g x o hg ho hk).mono λr S1 z9=>?_;obtain ⟨e,W,P,l,R⟩:=z9;subst e;symm;refine BM (BJ R.ik) (by show 5 < 1000;decide) ?_;obtain ⟨q,hq⟩:∃q,q=S1.length:=⟨_,rfl⟩;have R1:=R.app (b:=.lst []);have q1:(S1++[Ob.lst []])[q]?=some (.lst []):=by rw [hq];exact CT
 have hlq:l≠q:=by rw [hq];exact ul9 (B1 R.il)
 have hSq:S.length<=q:=by rw [hq];exact R.kp.1
 have R2:=R1.put (fs':=s6F g W P x q);have q2:=Ah (o:=.ins "Lasting" (s6F g W P x q)) q1 (Ar R1.ik q1 (by simp));show DM _ _ Out.next ⟨_,(S1++[Ob.lst []]).set k (.ins "Lasting" (s6F g W P x S1.length))⟩;rw [<-hq];generalize (S1++[Ob.lst []]).set k (.ins "Lasting" (s6F g W P x q))=S2 at R2 q2 ⊢;symm;refine BM R2.ik (by show 6 < 1000;decide) ?_;have R3:=R2.put (fs':=s7F g W P x q);have q3:=Ah (o:=.ins "Lasting" (s7F g W P x q)) q2 (Ar R2.ik q2 (by simp));show DM _ _ Out.next ⟨_,S2.set k (.ins "Lasting" (s7F g W P x q))⟩;generalize S2.set k (.ins "Lasting" (s7F g W P x q))=S3 at R3 q3 ⊢;symm;refine BM R3.ik (by show 7 < 1000;decide) ?_;have R4:=R3.put (fs':=lsF g x 0 0 0 W P q);have q4:=Ah (o:=.ins "Lasting" (lsF g x 0 0 0 W P q)) q3 (Ar R3.ik q3 (by simp));symm;exact ⟨rfl,R4.kp,W,P,l,q,⟨R4.ik,R4.iw,R4.ip,R4.il,q4,hlq⟩,R4.gl,hSq⟩
def JM (f:Fn):Prop:=∀(g:List GS) (mv:List Mv) (S:List Ob) (K:Nat),GOk g->okQ g 0 mv->mv.length<=60000->S[K]?=some (.lst (AO g 0 mv))->PureS S f [.lst (g.map GS.d),.obj K] (.lst (Bv g 0 mv))
theorem Xb (hn:HC cn)(hp:GU cp):JM (fnOf 2 7 (Fo cn cp)):=by
 intro g mv S K hg hk hl hT;have hL:LIM=100000:=rfl;refine An rfl ?_;unfold Fo;left;refine KB hT ?_;left;rw [DK];refine Gw (Cn (by lia) (by lia)) ?_;refine Dx (λr t=>∃(j:Nat) (e4 e5 e6:Option Sl),j<=mv.length/\r=(Bd 0 ((mv.length:Nat):Int).toNat).drop j/\t=⟨[some (.val (.lst (g.map GS.d))),some (.val (.obj K)),some (.val (.int (Ap g 0 (mv.take j)))),some (.own (Bv g 0 (mv.take j))),e4,e5,e6],S⟩) _ _ ⟨0,none,none,none,um9 _,rfl,rfl⟩ ?_ ?_
 ·rintro d' r t ⟨j,e4,e5,e6,hj,hr,rfl⟩ _;obtain ⟨rfl,hr',hjm⟩:=F4 hr;rw [ug2] at hjm;rw [um6];have hlt:=GC hg hg.ne (TU hk j);obtain ⟨p,v,hpv⟩:∃p v,mv[j]=(p,v):=⟨_,_,rfl⟩;have em:mv[j]?=some (p,v):=by rw [ub3 hjm,hpv]
  have hmv:=Ou hk em;have hmsg:atI (AO g 0 mv) (j:Int)=some (DJ g (Ap g 0 (mv.take j)) p v):=by
   unfold atI;rw [Ds (by lia) (by rw [DK];lia)];show (AO g 0 mv)[(j:Int).toNat]?=_;rw [ug2,Ik g 0 mv j p v em]
  have htk:mv.take (j + 1)=mv.take j++[(p,v)]:=by rw [List.take_succ_eq_append_getElem hjm,hpv]
  left;refine Bb (CJ hlt) ?_;left;refine W_ix_obj.mpr ⟨_,hT,_,hmsg,?_⟩;left;refine (hp g _ p v hg hmv).use ?_;left;refine CK (by rw [EG,uh3,hL];lia) ?_;left;refine (hn g _ p hg hlt hmv.pl).use ?_;left;refine ⟨j + 1,_,_,_,hjm,hr',t7 ?_ ?_⟩
  ·rw [htk,C5];rfl
  ·rw [htk,Hr];rfl
 ·rintro t ⟨j,e4,e5,e6,hj,hr,rfl⟩;have hz:=congrArg List.length hr;rw [uj4,uh4,Dl,ug2] at hz;have hje:j=mv.length:=by lia
  subst hje;rw [List.take_length];left;exact ⟨rfl,rfl,rfl⟩
def IB (f:Fn):Prop:=∀(g:List GS) (mv:List Mv) (S:List Ob) (K:Nat),GOk g->okQ g 0 mv->mv.length<=60000->S[K]?=some (.lst (AO g 0 mv))->PureS S f [.lst (g.map GS.d),.obj K] (.int (Ap g 0 mv))
theorem SL {cs:Fn}(hn:HC cn)(hs:JM cs):IB (fnOf 2 3 (DY cn cs)):=by
 intro g mv S K hg hk hl hT;refine An rfl ?_;unfold DY;left;refine (hs g mv S K hg hk (by lia) hT).use ?_;left;rw [EG];refine Cp (λq=>?_) λq=>?_
 ·have:mv=[]:=by
   have:(mv.length:Int)=0:=by simpa using q
   exact ub7.mp (by lia)
  subst this;left;exact ⟨rfl,rfl,rfl⟩
 ·have hne:mv≠[]:=by intro z;subst z;simp at q
  obtain ⟨mv',x,rfl⟩:∃l x,mv=l++[x]:=⟨mv.dropLast,mv.getLast hne,(List.dropLast_concat_getLast hne).symm⟩;obtain ⟨p,v⟩:=x;rw [Em] at hk;have hm:=hk.2.1;have hst:Bv g 0 (mv'++[(p,v)])=Bv g 0 mv'++[.tup [.int (Ap g 0 mv'),.int p]]:=by rw [Hr];rfl
  rw [hst];have hlast:atI (Bv g 0 mv'++[D.tup [.int (Ap g 0 mv'),.int p]]) (-1)=some (.tup [.int (Ap g 0 mv'),.int p]):=by
   unfold atI ixN;simp only [uf4,uh1,uj4];rw [if_neg (by lia),if_pos (by lia)];rw [show (-1 + ((Bv g 0 mv').length + (0 + 1):Nat):Int).toNat=(Bv g 0 mv').length by lia];simp
  left;refine Bb hlast ?_;left;refine (hn g _ p hg hm.lt hm.pl).use ?_;rw [C5];left;exact ⟨rfl,rfl,rfl⟩
def Mz (f:Fn):Prop:=∀(g:List GS) (mv:List Mv) (S:List Ob) (T0:Nat),S[T0]?=some (.lst (AO g 0 mv))->GOk g->okQ g 0 mv->mv.length<=60000->(Am g sL 0 mv).length<=25000->(Am g sR 0 mv).length<=25000->Wf f [.lst (g.map GS.d),.obj T0] S λr S'=>∃K A B,r = .tup [.obj A,.obj B]/\Wr K A B S' (Am g sL 0 mv) (Am g sR 0 mv)/\Gr S S'/\S.length<=A/\S.length<=B
theorem Xo {cs:Fn}(hm:L6 cm)(hs:JM cs):Mz (fnOf 2 6 (Fq cm cs)):=by
 intro g mv S T0 hT hg hk hlen hll hlr;have hL:LIM=100000:=rfl;refine An rfl ?_;unfold Fq;left;refine Hw ?_;refine Bg ?_;left;refine Bg ?_;left;refine DQ ?_;refine ⟨by simp,by show 2<=15;decide,?_⟩;obtain ⟨S1,hS1⟩:∃S1:List Ob,S1=(S++[Ob.dct []]++[Ob.lst []]++[Ob.lst []]).set S.length (.dct (Bi [(kL,.obj (S++[Ob.dct []]).length),(kRt,.obj (S++[Ob.dct []]++[Ob.lst []]).length)])):=⟨_,rfl⟩;have w0:Wr S.length (S++[Ob.dct []]).length (S++[Ob.dct []]++[Ob.lst []]).length S1 [] []:=by
  rw [hS1,EM];refine ⟨II (o:=.dct []) (by simp),?_,?_,by simp,by simp,by simp⟩
  ·rw [ud9 (by simp)];simp
  ·rw [ud9 (by simp)];simp
 have hFS:Gr S S1:=by
  rw [hS1];exact Gr.set ((Gr.app.trans Gr.app).trans Gr.app) (um8 _)
 have hne:S.length<=(S++[Ob.dct []]).length/\S.length<=(S++[Ob.dct []]++[Ob.lst []]).length:=by
  simp only [uf4,uh1,uj4];exact ⟨by lia,by lia⟩
 refine Eo ?_;show W _ ⟨[some (.val (.lst (g.map GS.d))),some (.val (.obj T0)),some (.val (.obj S.length)),none,none,none],(S++[Ob.dct []]++[Ob.lst []]++[Ob.lst []]).set S.length (.dct (Bi [(kL,.obj (S++[Ob.dct []]).length),(kRt,.obj (S++[Ob.dct []]++[Ob.lst []]).length)]))⟩ _;rw [<-hS1];clear hS1;generalize (S++[Ob.dct []]++[Ob.lst []]).length=B at w0 hne;generalize (S++[Ob.dct []]).length=A at w0 hne;generalize hSK:S.length=K at w0 ⊢;left;refine (hs g mv S1 T0 hg hk (by lia) (hFS.get hT)).use ?_;left;rw [EG];refine Gw (Cn (by lia) (by lia)) ?_;refine Dx (λr t=>∃(j:Nat) (S':List Ob) (e4 e5:Option Sl),j<=mv.length/\r=(Bd 0 ((mv.length:Nat):Int).toNat).drop j/\Wr K A B S' (Am g sL 0 (mv.take j)) (Am g sR 0 (mv.take j))/\Gr S S'/\t=⟨[some (.val (.lst (g.map GS.d))),some (.val (.obj T0)),some (.val (.obj K)),some (.val (.lst (Bv g 0 mv))),e4,e5],S'⟩) _ _ ⟨0,S1,none,none,by lia,rfl,w0,hFS,rfl⟩ ?_ ?_
 ·rintro d' r t ⟨j,S',e4,e5,hjl,hr,hw,hF',rfl⟩ _;obtain ⟨rfl,hr',hjn⟩:=F4 hr;rw [ug2] at hjn;rw [um6]
  cases em:mv[j]? with
  | none=>rw [ub1] at em;lia
  | some x=>
  obtain ⟨p,v⟩:=x;have hm':=Ou hk em;have htk:mv.take (j + 1)=mv.take j++[(p,v)]:=by
   rw [List.take_succ,em];rfl
  have hsi:atI (Bv g 0 mv) j=some (.tup [.int (Ap g 0 (mv.take j)),.int p]):=by
   unfold atI;rw [Ds (by lia) (by rw [EG];lia)];show (Bv g 0 mv)[(j:Int).toNat]?=_;rw [ug2,Kv g 0 mv j p v em]
  have hmi:atI (AO g 0 mv) j=some (DJ g (Ap g 0 (mv.take j)) p v):=by
   unfold atI;rw [Ds (by lia) (by rw [DK];lia)];show (AO g 0 mv)[(j:Int).toNat]?=_;rw [ug2,Ik g 0 mv j p v em]
  have hside:=Ln hg hm';have lA:=Gi g sL mv j;have lB:=Gi g sR mv j;have lA':=Gi g sL mv (j + 1);have lB':=Gi g sR mv (j + 1);have nA:Am g sL 0 (mv.take (j + 1))=Am g sL 0 (mv.take j)++(if (Aw g (Ap g 0 (mv.take j))).side=sL then D.int p :: AC (wdAt g (Ap g 0 (mv.take j)) p).2.1 v else []):=by
   rw [htk,CH,Am,Am,ui8]
  have nB:Am g sR 0 (mv.take (j + 1))=Am g sR 0 (mv.take j)++(if (Aw g (Ap g 0 (mv.take j))).side=sR then D.int p :: AC (wdAt g (Ap g 0 (mv.take j)) p).2.1 v else []):=by
   rw [htk,CH,Am,Am,ui8]
  have hbd:(AC (wdAt g (Ap g 0 (mv.take j)) p).2.1 v).length<=25000:=by
   rcases hside with h | h
   ·rw [nA,if_pos h,uf4,uh1] at lA';lia
   ·rw [nB,if_pos h,uf4,uh1] at lB';lia
  generalize hq:Ap g 0 (mv.take j)=q at *;have hix:∀(t:T) (P:D->T->Prop),P (.str (Aw g q).side) t->W (ixD (Aw g q).d (.int 0)) t P:=λt P h=>by
   cases e:Aw g q with
   | fin=>rw [e] at h;rw [GS.d];exact EZ Fs h
   | st s w=>rw [e] at h;rw [GS.d];exact EZ Fs h
  left;refine Bb hsi ?_;left;refine Bb (CJ hm'.lt) ?_;left;obtain ⟨C,xs,hCn,hC,hxl,hget,hnew⟩:∃(C:Nat) (xs:List D),S.length<=C/\S'[C]?=some (.lst xs)/\xs.length<=25000/\AU [(kL,.obj A),(kRt,.obj B)] (.inr (Aw g q).side)=some (.obj C)/\Wr K A B (S'.set C (.lst (xs++D.int p :: AC (wdAt g q p).2.1 v))) (Am g sL 0 (mv.take (j + 1))) (Am g sR 0 (mv.take (j + 1))):=by
   rcases hside with h | h
   ·refine ⟨A,_,hne.1,hw.a,by lia,by rw [h];exact IN,?_⟩;rw [nA,nB,if_pos h,if_neg (by rw [h];exact sLR),ui8];exact hw.setA
   ·refine ⟨B,_,hne.2,hw.b,by lia,by rw [h];exact IP,?_⟩;rw [nA,nB,if_pos h,if_neg (by rw [h];exact Ne.symm sLR),ui8];exact hw.setB
  refine Mj (k:=C) ?_;left;refine hix _ _ ?_;refine AH hw.k hget ?_;refine ⟨rfl,_,hC,?_⟩;left;refine Bb hsi ?_;left;refine W_ix_obj.mpr ⟨_,hF'.get hT,_,hmi,?_⟩;unfold DJ;left;refine (hm g q p v hg hm' (by lia)).use ?_;left;refine ⟨xs,_,hC,if_pos (by rw [hL,uh1];lia),?_⟩;exact ⟨j + 1,_,_,_,hjn,hr',hnew,hF'.set hCn,rfl⟩
 ·rintro t ⟨j,S',e4,e5,hjl,hr,hw,hF',rfl⟩;have hj':j=mv.length:=by
   have:=congrArg List.length hr;rw [uj4,uh4,Dl,ug2] at this;lia
  subst hj';rw [List.take_length] at hw;left;refine AH hw.k IN ?_;left;refine AH hw.k IP ?_;left;exact ⟨rfl,K,A,B,rfl,hw,hF',by rw [<-hSK];exact hne.1,by rw [<-hSK];exact hne.2⟩
def KK (f:Fn):Prop:=∀(g:List GS) (wl wr:List Nat) (dl dr:D) (S:List Ob),Wir S dl wl->Wir S dr wr->GOk g->wl.length<=25000->wr.length<=25000->Wf f [.lst (g.map GS.d),dl,dr] S λr S'=>Gr S S'/\match walkR g wl wr (wl.length + wr.length + 1) 0 0 0 [] with
 | (t,h,a,b,none)=>r = .tup [.lst t,.int h,.tup [.int a,.int b]]
 | (_,_,_,_,some (k,s))=>r = .exc "Broken" [.int k,.str s]
theorem Si (hc:KJ c):KK (fnOf 3 4 (Ii c)):=by
 intro g wl wr dl dr S hvl hvr hg hl1 hl2;refine An rfl ?_;unfold Ii;symm;refine Hw ?_;refine Bg ?_;symm;refine Bg ?_;symm;refine DQ ?_;refine ⟨by simp,by show 2<=15;decide,?_⟩;have hA:Gr S ((S++[Ob.dct []]).set S.length (.dct (Bi (lr dl dr)))):=Gr.app.set (um8 _);have hB:((S++[Ob.dct []]).set S.length (.dct (Bi (lr dl dr))))[S.length]?=some (.dct (lr dl dr)):=by rw [EM];exact A7 CT
 show W _ ⟨_,(S++[Ob.dct []]).set S.length (.dct (Bi (lr dl dr)))⟩ _;generalize (S++[Ob.dct []]).set S.length (.dct (Bi (lr dl dr)))=S1 at hA hB ⊢;symm;refine Hw ?_;refine Bg ?_;symm;refine Bg ?_;symm;refine DQ ?_;refine ⟨by simp,by show 2<=15;decide,?_⟩;have hC:Gr S1 ((S1++[Ob.dct []]).set S1.length (.dct (Bi (dP 0 0)))):=Gr.app.set (um8 _);have hD:((S1++[Ob.dct []]).set S1.length (.dct (Bi (dP 0 0))))[S1.length]?=some (.dct (dP 0 0)):=by rw [EM];exact A7 CT
 show W _ ⟨_,(S1++[Ob.dct []]).set S1.length (.dct (Bi (dP 0 0)))⟩ _;generalize (S1++[Ob.dct []]).set S1.length (.dct (Bi (dP 0 0)))=S2 at hC hD ⊢;symm;refine (hc g wl wr dl dr 0 0 0 S.length S1.length S2 hg ⟨hg.ne,um9 _,um9 _⟩ hl1 hl2 (hvl.gr (hA.trans hC)) (hvr.gr (hA.trans hC)) (hC.get hB) hD).mono λr S3 z9=>?_;obtain ⟨hG,hr⟩:=z9;have hS:=hA.trans (hC.trans hG);generalize walkR g wl wr (wl.length + wr.length + 1) 0 0 0 []=R at hr ⊢;obtain ⟨t,h,a,b,o⟩:=R
 cases o with
 | none=>
   obtain ⟨K,rfl,hK⟩:=hr;symm;refine AH hK IN ?_;symm;refine AH hK IP ?_;symm;exact ⟨rfl,hS,rfl⟩
 | some z=>
   obtain ⟨k,s⟩:=z;have hr:r = .exc "Broken" [.int k,.str s]:=hr;subst hr;symm;exact ⟨hS,rfl⟩
variable {tst:M Bool}
theorem NL {g:Gd}{st:D->M Unit}{P:List D->T->Prop}(h:Gon g t.S)(q:P [] t):W (compG g st tst elt []) t P:=by
 unfold compG;exact W_bnd.mpr ⟨_,_,Qs h,W_ret.mpr q⟩
theorem Mw {g:Gd}{st:D->M Unit}{d:D}{P:List D->T->Prop}(h:Gon g t.S)(q:W (st d) t λ_ t1=>W tst t1 λk t2=>
 if k=true then W elt t2 λx t3=>W (compG g st tst elt r) t3 λxs t4=>P (x :: xs) t4 else W (compG g st tst elt r) t2 P):W (compG g st tst elt (d :: r)) t P:=by
 rw [compG];refine W_bnd.mpr ⟨_,_,Qs h,W_bnd.mpr (q.mono λ_ t1 q=>W_bnd.mpr (q.mono λk t2 q=>?_))⟩
 split
 ·next hk=>
  rw [if_pos hk] at q;exact W_bnd.mpr (q.mono λx t3 q=>W_bnd.mpr (q.mono λxs t4 q=>W_ret.mpr q))
 ·next hk=>
  rw [if_neg hk] at q;exact q
theorem ZI {fr:List Nat}{f:M (Gd×List D)}{st:D->M Unit}{P:List D->T->Prop}(h:W f t λp t1=>W (compG p.1 st tst elt p.2) ⟨cenv n fr t1.env,t1.S⟩ λxs t2=>He xs.length (P xs { t1 with S:=t2.S })):W (HS n fr f st tst elt) t P:=by
 refine W_bnd.mpr (h.mono λp t1 h=>?_);obtain ⟨xs,t2,e,l,q⟩:=h;refine ⟨xs,_,?_,q⟩;simp only [e,if_pos l]
theorem Tp {k:Nat}(h:S[k]?=some (.lst xs)):Gon (some (k,xs)) S:=λ_ _ z=>by cases z;exact h
theorem dk {P:Gd×List D->T->Prop}(h:W f t λd t1=>W (HZ d) t1 P):W (Pk f) t P:=W_bnd.mpr h
theorem bh {k:Nat}{P:Gd×List D->T->Prop}(e:t.S[k]?=some (.lst ds))(h:P (some (k,ds),ds) t):W (HZ (.obj k)) t P:=⟨_,_,by simp only [HZ,e],h⟩
def nvO:Nat->D->Bool
 | _,.non=>true
 | _,.int _=>true
 | _,.str _=>true
 | n + 1,.lst xs=>decide (xs.length<=1000) && xs.all (nvO n)
 | n + 1,.tup xs=>decide (xs.length<=1000) && xs.all (nvO n)
 | _,_=>false
theorem FK:∀(n:Nat) (s:Sh),s.depth<=n->wf s=true->∀v,Ak s v=true->nvO n v=true
 | 0,s,h,_,_,_=>absurd s.depth_pos (by lia)
 | n + 1,s,hs,hw,v,hf=>by
   cases s with
   | nothing=>cases v <;> simp [Ak,Hd] at hf;rfl
   | number lo hi=>cases v <;> simp [Ak] at hf;rfl
   | text q=>cases v <;> simp only [Ak,uf5] at hf;rfl
   | list s q=>
     simp only [wf,uh5,ug8] at hw;rw [Sh.depth] at hs
     cases v <;> simp only [Ak,uf5] at hf
     rename_i ds;simp only [uh5,ug8,uh9] at hf;rw [nvO,uh5,ug8,uh9];exact ⟨by lia,λd hd=>FK n s (by lia) hw.2 d (hf.2 d hd)⟩
   | pair s r=>
     simp only [wf,uh5] at hw;rw [Sh.depth] at hs;unfold Ak at hf
     split at hf
     ·rw [uh5] at hf;have h1:=FK n s (by lia) hw.1 _ hf.1;have h2:=FK n r (by lia) hw.2 _ hf.2;simp [nvO,h1,h2]
     ·cases hf
   | choice ss=>
     simp only [wf,uh5,ug8] at hw;rw [Sh.depth] at hs;unfold Ak at hf
     split at hf
     ·next o k x=>
      simp only [uh5,ug8] at hf;obtain ⟨j,rfl⟩:=uc0 hf.1.2.1;have hj:j < ss.length:=by have:=hf.1.2.2;lia
      have e1:ss[j]?=some ss[j]:=ub3 hj;have h2:=hf.2;rw [ug2,Cy ss _ _ _ e1] at h2;have h3:=FK n _ (um0 (CD ss _ _ e1) (by lia)) (Et hw.2 _ (ui1 hj)) x h2;have g1:∀o:Str,nvO n (.str o)=true:=λo=>by cases n <;> rfl
      have g2:∀i:Int,nvO n (.int i)=true:=λo=>by cases n <;> rfl
      simp [nvO,h3,g1,g2]
     ·cases hf
theorem Ni:∀(n:Nat) (v:D),nvO n v=true->nvO (n + 1) v=true
 | 0,v,h=>by cases v <;> first | rfl | (simp [nvO] at h;done)
 | n + 1,v,h=>by
   cases v <;> first | rfl | (simp [nvO] at h;done) | skip
   all_goals
    rw [nvO,uh5,uh9] at h;rw [nvO,uh5,uh9];exact ⟨h.1,λd hd=>Ni n d (h.2 d hd)⟩
theorem Ot {n:Nat}{v:D}(h:nvO n v=true):∀m,nvO (n + m) v=true
 | 0=>h
 | m + 1=>Ni _ _ (Ot h m)
theorem OB:∀{xs:List D},(∀x∈xs,Bw x=true)->Hl xs=true
 | [],_=>rfl
 | x :: r,h=>by rw [Hl,h x uf0,OB λy m=>h y (ud8 _ m)];rfl
theorem Nq:∀(n:Nat) (v:D),nvO n v=true->Bw v=true
 | 0,v,h=>by cases v <;> first | rfl | (simp [nvO] at h;done)
 | n + 1,v,h=>by
   cases v <;> first | rfl | (simp [nvO] at h;done) | skip
   all_goals
    rw [nvO,uh5,uh9] at h;rw [Bw];exact OB λx hx=>Nq n x (h.2 x hx)
theorem Kr:∀(n:Nat) (v:D),nvO n v=true->Rq n v
 | 0,v,h=>by cases v <;> first | exact RW | exact RU | exact Ny | (simp [nvO] at h;done)
 | n + 1,v,h=>by
   cases v <;> first | exact RW | exact RU | exact Ny | (simp [nvO] at h;done) | skip
   ·rw [nvO,uh5,uh9] at h;exact RY λx hx=>Kr n x (h.2 x hx)
   ·rw [nvO,uh5,uh9] at h;exact RV λx hx=>Kr n x (h.2 x hx)
theorem OF {S:List Ob}:∀(n:Nat) (v:D),nvO n v=true->CN S n v=v
 | 0,v,h=>by cases v <;> first | rfl | (simp [nvO] at h;done)
 | n + 1,v,h=>by
   cases v <;> first | rfl | (simp [nvO] at h;done) | skip
   all_goals
    rw [nvO,uh5,uh9] at h;rw [CN]
    congr 1
    rw [ue6 λx hx=>OF n x (h.2 x hx),List.map_id']
theorem cZ {g:Bool->Bool}{x d:D}(hx:CN t.S 16 x=d)(hy:CN t.S 16 y=d)(hn:nvO 16 d=true)(h:P (.bl (g true)) t):W (eqO g x y) t P:=
 ⟨_,_,by unfold eqO;rw [hx,hy,Nq 16 d hn,Kr 16 d hn EQD (by decide)];rfl,h⟩
def SA (f:Fn):Prop:=∀(g:List GS) (mv:List Mv) (S:List Ob) (K:Nat),GOk g->okQ g 0 mv->mv.length<=60000->S[K]?=some (.lst (AO g 0 mv))->PureS S f [.lst (g.map GS.d),.obj K] (if (Aw g (Ap g 0 mv)).isFin=true then .tup [.str "over"] else .tup [.str "turn",.str (Aw g (Ap g 0 mv)).side])
theorem QU {x:GS}(h:P (.str x.side) t):W (ixD x.d (.int 0)) t P:=by
 cases x with
 | fin=>rw [GS.d];exact EZ Fs h
 | st s w=>rw [GS.d];exact EZ Fs h
theorem am (he:Gy ce)(hb:IB cb):SA (fnOf 2 4 (Ju ce cb)):=by
 intro g mv S K hg hk hl hT;have hlt:=GC hg hg.ne hk;refine An rfl ?_;unfold Ju;symm;refine (hb g mv S K hg hk hl hT).use ?_;symm;refine Bb (CJ hlt) ?_;symm;have hx:Bf (Aw g (Ap g 0 mv)).d=false:=by cases Aw g (Ap g 0 mv) <;> rfl
 refine ⟨hx,Vf hx ?_⟩;symm;refine (he _ _ (CW hg hlt)).use ?_;symm;refine Cp (λz=>?_) λz=>?_
 ·symm;exact ⟨by rw [if_pos z],rfl⟩
 ·symm;refine QU ?_;symm;exact ⟨by rw [if_neg (by rw [z];decide)],rfl⟩
def BH (g:List GS)(o:Str):Nat->List Mv->List D
 | _,[]=>[]
 | q,(p,v) :: r=>(if (Aw g q).side=o then [DJ g q p v] else [])++BH g o (BR g q p) r
theorem FZ (g:List GS)(o:Str):∀(q:Nat) (a b:List Mv),BH g o q (a++b)=BH g o q a++BH g o (Ap g q a) b
 | q,[],b=>rfl
 | q,(p,v) :: r,b=>by rw [ui2,BH,BH,Ap,FZ g o _ r b,ug4]
theorem Nl {g:List GS}{o:Str}:∀{q:Nat} {a:List Mv},Ea g o q a->BH g o q a=AO g q a
 | q,[],_=>rfl
 | q,(p,v) :: r,h=>by rw [Ea] at h;rw [BH,AO,if_pos h.1,Nl h.2];rfl
theorem JC (g:List GS)(o:Str):∀(q:Nat) (a:List Mv),(BH g o q a).length<=a.length
 | q,[]=>um8 _
 | q,(p,v) :: r=>by
   have:=JC g o (BR g q p) r;rw [BH,uf4,uh1];have h2:(if (Aw g q).side=o then [DJ g q p v] else []).length<=1:=by split <;> simp
   lia
theorem Nm (g:List GS)(o:Str):∀(q:Nat) (a:List Mv),∀x∈BH g o q a,x∈AO g q a
 | q,[],x,h=>h
 | q,(p,v) :: r,x,h=>by
   rw [BH] at h;rw [AO];rcases ui4.mp h with h | h
   ·split at h
    ·rw [uf6] at h;subst h;exact uf0
    ·cases h
   ·exact ud8 _ (Nm g o _ r x h)
theorem Lc {g:List GS}(hg:GOk g):∀{mv:List Mv} {q:Nat},okQ g q mv->∀x∈AO g q mv,nvO 4 x=true
 | [],_,_,x,h=>nomatch h
 | (p,v) :: r,q,hk,x,h=>by
   rw [okQ] at hk;rcases uk8.mp h with e | m
   ·have hw:=FA hg hk.1.lt hk.1.pl;have h3:=FK 3 _ hw.dep hw.ok v hk.1.fit;subst e;unfold DJ;simp [nvO,h3]
   ·exact Lc hg hk.2 x m
theorem Le {g:List GS}{gd:Gd}{S:List Ob}{s:Str}(hg:Gon gd S):∀(mv:List Mv) (q:Nat) (z:Option Sl),W (compG gd (AB 0) (Aq (Ac (Ac (Aa 0) (fC (.int 0)) ixD) (Aa 1) (eqS id))) (Aa 0) (AO g q mv)) ⟨[z,some (.val (.str s))],S⟩ λxs t'=>xs=BH g s q mv/\t'.S=S
 | [],q,z=>NL hg ⟨rfl,rfl⟩
 | (p,v) :: r,q,z=>by
   rw [AO];refine Mw hg ?_;unfold DJ;refine UK ?_;symm;rw [BH]
   by_cases e:(Aw g q).side=s
   ·rw [if_pos (by rw [e];exact ui3 s),if_pos e];symm;exact (Le hg r _ _).mono λxs t' ⟨h1,h2⟩=>⟨by rw [h1];rfl,h2⟩
   ·rw [if_neg (by simpa using e),if_neg e];exact (Le hg r _ _).mono λxs t' ⟨h1,h2⟩=>⟨by rw [h1];rfl,h2⟩
def O5 (f:Fn):Prop:=∀(g:List GS) (mv:List Mv) (S:List Ob) (K:Nat) (s:Str),mv.length<=60000->S[K]?=some (.lst (AO g 0 mv))->PureS S f [.obj K,.str s] (.lst (BH g s 0 mv))
theorem Wj:O5 (fnOf 2 2 Gn):=by
 intro g mv S K s hl hT;have hL:LIM=100000:=rfl;refine An rfl ?_;unfold Gn;symm;refine ZI ?_;refine dk ?_;symm;refine bh hT ?_;refine (Le (Tp hT) mv 0 none).mono λxs t' z9=>?_;obtain ⟨h1,h2⟩:=z9;subst h1;have:=JC g s 0 mv;refine CK (by rw [hL];lia) ?_;symm;exact ⟨rfl,h2⟩
theorem Ri (ht:∀x∈g,Tin x){q p:Nat}{v:D}(hm:MvOk g q p v):(mbQ g q p v).length<=41:=by
 have h1:=ht _ (M5 hm.lt);obtain ⟨side,ws,e,hpl,ew⟩:=E4 hm.pl;have h2:wdAt g q p∈(Aw g q).ws:=by rw [e];exact ue0 ew
 have h3:=(h1 _ h2).few v hm.fit;rw [uh1];exact Nat.succ_le_succ h3
theorem GR {g:List GS}(ht:∀x∈g,Tin x)(s:Str):∀(mv:List Mv) (q:Nat),okQ g q mv->(Am g s q mv).length<=41 * mv.length
 | [],q,_=>um9 _
 | (p,v) :: r,q,hk=>by
   rw [okQ] at hk;have h1:=GR ht s r _ hk.2;have h2:=Ri ht hk.1;rw [Am,uf4,uh1];have h3:(if (Aw g q).side=s then D.int (p:Int) :: AC (wdAt g q p).2.1 v else []).length<=41:=by
    split
    ·exact h2
    ·exact um9 _
   lia
abbrev lrx (x:Str)(a b:D):List (Key×D):=lr (onS x a b) (onS x b a)
section
variable {x o:Str}{a b d:D}
theorem CY (h:x=sL\/x=sR):AU (lrx x a b) (.inr x)=some a:=by rw [Ki h,Ld]
theorem EO (h:Two x o):lrx x a b=lrx o b a:=by
 unfold lrx onS;rcases h with ⟨rfl,rfl⟩ | ⟨rfl,rfl⟩
 ·rw [if_pos rfl,if_pos rfl,if_neg (Ne.symm sLR),if_neg (Ne.symm sLR)]
 ·rw [if_pos rfl,if_pos rfl,if_neg (Ne.symm sLR),if_neg (Ne.symm sLR)]
theorem IQ (h:x=sL\/x=sR):Br (lrx x a b) (.inr x) d=lrx x d b:=by
 rw [Re h];unfold lrx;rw [Yv,Yw]
end
abbrev kLy:Key:=.inr (Str.ofString "lying")
abbrev kTa:Key:=.inr (Str.ofString "talk")
abbrev kTo:Key:=.inr (Str.ofString "told")
abbrev haD (Y K Z:Nat):List (Key×D):=[(kLy,.obj Y),(kTa,.obj K),(kTo,.obj Z)]
section
variable {Y K Z:Nat}
theorem n12:decide (kLy=kTa)=false:=by decide +kernel
theorem n13:decide (kLy=kTo)=false:=by decide +kernel
theorem n23:decide (kTa=kTo)=false:=by decide +kernel
theorem IJ:AU (haD Y K Z) kLy=some (.obj Y):=by simp [AU,uj3]
theorem Mf:AU (haD Y K Z) kTa=some (.obj K):=by
 unfold AU;rw [uj3,n12];simp [uj3]
theorem Gc:AU (haD Y K Z) kTo=some (.obj Z):=by
 unfold AU;rw [uj3,n13];dsimp only;rw [uj3,n23];simp [uj3]
end
structure Vw (g:List GS)(o:Str)(mv m1 m2:List Mv)(tk n:Nat):Prop where
 e:mv=m1++m2
 al:Ea g o (Ap g 0 m1) m2
 a:(Am g o 0 m1).length<=tk
 t:tk<=n
 c:KF g (Ap g 0 m1) (Am g o 0 m1).length tk m2
structure Vs where
 m1:List Mv
 m2:List Mv
 t:Nat
 h:Nat
 w:List Nat
structure Ix where
 kx:Nat
 lx:Nat
 qx:Nat
 ko:Nat
 lo:Nat
 qo:Nat
 L:Nat
 H:Nat
 Y:Nat
 Z:Nat
 K:Nat
def Ix.swap (i:Ix):Ix:=⟨i.ko,i.lo,i.qo,i.kx,i.lx,i.qx,i.L,i.H,i.Y,i.Z,i.K⟩
structure Ix.ok (i:Ix):Prop where
 k:i.kx≠i.ko
 yz:i.Y≠i.Z
 a:i.lx≠i.lo
 b:i.lx≠i.qo
 c:i.qx≠i.lo
 d:i.qx≠i.qo
 e:i.lx≠i.K
 f:i.qx≠i.K
 g:i.lo≠i.K
 h:i.qo≠i.K
 ly:i.L≠i.Y
 lz:i.L≠i.Z
 hy:i.H≠i.Y
 hz:i.H≠i.Z
theorem Ix.ok.swap {i:Ix}(h:i.ok):i.swap.ok:=⟨Ne.symm h.k,h.yz,Ne.symm h.a,Ne.symm h.c,Ne.symm h.b,Ne.symm h.d,h.g,h.h,h.e,h.f,h.ly,h.lz,h.hy,h.hz⟩
structure J (g:List GS)(x o:Str)(i:Ix)(S:List Ob)(mv:List Mv)(a b:Vs):Prop where
 two:Two x o
 ok:okQ g 0 mv
 ex:Am g x 0 mv=wD a.w
 eo:Am g o 0 mv=wD b.w
 vx:Vw g o mv a.m1 a.m2 a.t b.w.length
 vo:Vw g x mv b.m1 b.m2 b.t a.w.length
 hx:a.h<=b.t
 ho:b.h<=a.t
 jL:S[i.L]?=some (.dct (lrx x (.obj i.kx) (.obj i.ko)))
 jH:S[i.H]?=some (.dct (haD i.Y i.K i.Z))
 jY:S[i.Y]?=some (.dct (lrx x (.lst (wD (a.w.drop b.t))) (.lst (wD (b.w.drop a.t)))))
 jZ:S[i.Z]?=some (.dct (lrx x (.lst (BH g o 0 a.m1)) (.lst (BH g x 0 b.m1))))
 jK:S[i.K]?=some (.lst (AO g 0 mv))
 jX:∃W P,Lst S g x o (Ap g 0 a.m1) (Am g o 0 a.m1).length a.t a.h (b.w.take a.t) a.w i.kx i.lx i.qx W P
 jO:∃W P,Lst S g o x (Ap g 0 b.m1) (Am g x 0 b.m1).length b.t b.h (a.w.take b.t) b.w i.ko i.lo i.qo W P
theorem J.swap {g:List GS}{x o:Str}{i:Ix}{S:List Ob}{mv:List Mv}{a b:Vs}(h:J g x o i S mv a b):J g o x i.swap S mv b a:=
 ⟨h.two.swap,h.ok,h.eo,h.ex,h.vo,h.vx,h.ho,h.hx,by rw [<-EO h.two];exact h.jL,h.jH,by rw [<-EO h.two];exact h.jY,by rw [<-EO h.two];exact h.jZ,h.jK,h.jO,h.jX⟩
theorem Vw.lt (hg:GOk g){o:Str}{mv m1 m2:List Mv}{tk n:Nat}(v:Vw g o mv m1 m2 tk n)(hk:okQ g 0 mv):Ap g 0 m1 < g.length:=by
 rw [v.e,Em] at hk;exact GC hg hg.ne hk.1
variable {mv m1 m2:List Mv}
theorem Vw.all {x o:Str}(v:Vw g o mv m1 m2 tk n)(h:(Aw g (Ap g 0 m1)).side=x)(ne:x≠o):m2=[]:=by
 cases m2 with
 | nil=>rfl
 | cons m r=>
   obtain ⟨p,d⟩:=m;have:=v.al;rw [Ea] at this;exact absurd (h.symm.trans this.1) ne
section
variable {S S1:List Ob}{g:List GS}{x o:Str}{h a tk hd:Nat}{w sd:List Nat}{k l q W P j:Nat}{b:Ob}
theorem Lst.nd {d:List (Key×D)}(R:Lst S g x o h a tk hd w sd k l q W P)(e:S[j]?=some (.dct d)):j∉[k,l,q]:=by
 simp only [uk8,ui0,or_false,not_or];exact ⟨Ar e R.ik (by simp),Ar e R.il (by simp),Ar e R.iq (by simp)⟩
theorem Lst.nl {d:List D}(R:Lst S g x o h a tk hd w sd k l q W P)(e:S[j]?=some (.lst d))(n1:j≠l)(n2:j≠q):j∉[k,l,q]:=by
 simp only [uk8,ui0,or_false,not_or];exact ⟨Ar e R.ik (by simp),n1,n2⟩
theorem Lst.ni {n:Str}{d:List (Str×D)}(R:Lst S g x o h a tk hd w sd k l q W P)(e:S[j]?=some (.ins n d))(n1:j≠k):j∉[k,l,q]:=by
 simp only [uk8,ui0,or_false,not_or];exact ⟨n1,Ar e R.il (by simp),Ar e R.iq (by simp)⟩
theorem Lst.oth {x2 o2:Str}{h2 a2 tk2 hd2:Nat}{w2 sd2:List Nat}{k2 l2 q2 W2 P2:Nat}(R:Lst S g x o h a tk hd w sd k l q W P)(Q:Lst S g x2 o2 h2 a2 tk2 hd2 w2 sd2 k2 l2 q2 W2 P2)(K:Kx [k,l,q] S S1)(n0:k2≠k)(n1:l2≠l)(n2:l2≠q)(n3:q2≠l)(n4:q2≠q):Lst S1 g x2 o2 h2 a2 tk2 hd2 w2 sd2 k2 l2 q2 W2 P2:=
 Q.keep K (R.ni Q.ik n0) (R.nl Q.il n1 n2) (R.nl Q.iq n3 n4) (R.nd Q.iw) (R.nd Q.ip)
theorem Lst.setD {u:D}(R:Lst S g x o h a tk hd w sd k l q W P)(e:S[j]?=some (.dct (lr u v))):Lst (S.set j b) g x o h a tk hd w sd k l q W P:=
 ⟨Ah R.ik (Ar e R.ik (by simp)),Ah R.iw (Ar e R.iw (by simp)),Ah R.ip (Ar e R.ip (by simp)),Ah R.il (Ar e R.il (by simp)),Ah R.iq (Ar e R.iq (by simp)),R.ne⟩
theorem Lst.setL {d:List D}(R:Lst S g x o h a tk hd w sd k l q W P)(e:S[j]?=some (.lst d))(n1:j≠l)(n2:j≠q):Lst (S.set j b) g x o h a tk hd w sd k l q W P:=
 ⟨Ah R.ik (Ar e R.ik (by simp)),Ah R.iw (Ar e R.iw (by simp)),Ah R.ip (Ar e R.ip (by simp)),Ah R.il n1,Ah R.iq n2,R.ne⟩
end
theorem SW {m r:List Mv}(h:KF g q a tk m)(n:m≠[]):KF g q a tk (m++r):=by
 cases m with
 | nil=>exact absurd rfl n
 | cons p m=>exact h
def SD (f:Fn):Prop:=∀(g:List GS) (x o:Str) (i:Ix) (S:List Ob) (mv:List Mv) (a b:Vs) (cell:Int),GOk g->(∀s∈g,Tin s)->i.ok->mv.length<=500->J g x o i S mv a b->Wf f [.obj i.L,.lst (g.map GS.d),.str x,.int cell,.obj i.H] S λr S'=>r = .non/\∃mv' a' b',mv'.length<=mv.length + 1/\J g x o i S' mv' a' b'
theorem V1 {cs cv:Fn}(hs:SG cs)(hv:Mu cv 3):SD (fnOf 5 10 (Go cs cv (fnOf 1 1 CZ))):=by
 intro g x o i S mv a b cell hg ht hi hml h;have hL:LIM=100000:=rfl;obtain ⟨W,P,X⟩:=h.jX;obtain ⟨W2,P2,O⟩:=h.jO;have hlt:=h.vx.lt hg h.ok;refine An rfl ?_;unfold Go;symm;refine AH h.jL (CY h.two.x) ?_;refine ⟨_,_,rfl,X.ik,W_ret.mpr ?_⟩;refine (Ic X).use ?_;symm;refine Bb (CJ hlt) ?_;symm;refine QU ?_;symm;refine Cp (λz=>?_) λz=>?_
 ·have hsd:(Aw g (Ap g 0 a.m1)).side=x:=by simpa using z
  have hm2:=h.vx.all hsd h.two.ne;have hm1:a.m1=mv:=by have:=h.vx.e;rw [hm2,ui8] at this;exact this.symm
  have hgs:=CW hg hlt;have hix:=CJ hlt;obtain ⟨ws,e⟩:∃ws,Aw g (Ap g 0 a.m1) = .st x ws:=by
   cases e:Aw g (Ap g 0 a.m1) with
   | fin=>rw [e] at hsd;rcases h.two.x with q | q <;> (rw [q] at hsd;exact absurd hsd (by decide +kernel))
   | st s ws=>rw [e] at hsd;exact ⟨ws,by rw [<-show s=x from hsd]⟩
  rw [e] at hgs hix;rw [GS.d] at hix;have hw0:0 < ws.length/\ws.length<=9:=by cases hgs with | st _ h1 h2 _ _=>exact ⟨h1,h2⟩
  have h1:=uk0 cell (b:=(ws.length:Int)) (by lia);have h2:=uf8 cell (b:=(ws.length:Int)) (by lia);obtain ⟨p,hp⟩:=uc0 h1;have hpl:p < ws.length:=by lia
  have ew:ws[p]?=some ws[p]:=ub3 hpl;have hwd:wdAt g (Ap g 0 a.m1) p=ws[p]:=by unfold wdAt;rw [e];show ws.getD p _=_;rw [ua7,ew];rfl
  have hdr:Dr 2 ws[p].2.1:=ht _ (M5 hlt) _ (by rw [e];exact ui1 hpl);symm;refine Bb hix ?_;symm;refine Bb hix ?_;symm;rw [ui6];refine Iw (by lia) ?_;symm;rw [hp];refine Bb (Iz ew) ?_;unfold wdD;symm;refine (hv _ hdr.dep hdr.ok hdr.nar hdr.tin _ S).mono ?_;rintro r0 S0 ⟨e0,v,l,rfl,hf⟩;have e0:=e0.symm;subst e0;have hm:MvOk g (Ap g 0 a.m1) p v:=⟨hlt,by rw [e];exact hpl,by rw [hwd];exact hf⟩;obtain ⟨y,hy,_⟩:=Q0 (LS hg x (Ap g 0 a.m1) [(p,v)] ⟨hm,trivial⟩);rw [Am,Am,ui8,if_pos hsd] at hy;have hy:mbQ g (Ap g 0 a.m1) p v=wD y:=hy;have hyl:=Ri ht hm;rw [hy,A6] at hyl;have hwl:=GR ht x mv 0 h.ok;rw [h.ex,A6] at hwl;have hto:=h.vo.t;symm;refine AH h.jH IJ ?_;symm;refine AH h.jY (CY h.two.x) ?_;symm;refine AH h.jL (CY h.two.x) ?_;refine ⟨_,_,rfl,X.ik,?_⟩;symm;refine GX ?_;have hsay:=hs S g x o _ _ _ _ _ _ y _ _ _ _ _ p v hg hm hsd hy (by lia) X;rw [hwd] at hsay;refine hsay.mono ?_;rintro r S1 ⟨rfl,K1,R1⟩;refine ⟨rfl,?_⟩;have O1:=X.oth O K1 (Ne.symm hi.k) (Ne.symm hi.a) (Ne.symm hi.c) (Ne.symm hi.b) (Ne.symm hi.d);have L1:=K1.get (X.nd h.jL) h.jL;have H1:=K1.get (X.nd h.jH) h.jH;have Y1:=K1.get (X.nd h.jY) h.jY;have Z1:=K1.get (X.nd h.jZ) h.jZ;have T1:=K1.get (X.nl h.jK (Ne.symm hi.e) (Ne.symm hi.f)) h.jK;symm;refine CK (by rw [A6,A6,uh4,hL];lia) ?_;symm;refine AH H1 IJ ?_;symm;refine Dm Y1 (by show 2 < 100000;decide) ?_;rw [IQ h.two.x];have X2:=R1.setD (b:=.dct (lrx x (.lst (wD (a.w.drop b.t)++wD y)) (.lst (wD (b.w.drop a.t))))) Y1;have O2:=O1.setD (b:=.dct (lrx x (.lst (wD (a.w.drop b.t)++wD y)) (.lst (wD (b.w.drop a.t))))) Y1;have L2:=Ah (o:=.dct (lrx x (.lst (wD (a.w.drop b.t)++wD y)) (.lst (wD (b.w.drop a.t))))) L1 (Ne.symm hi.ly);have H2:=Ah (o:=.dct (lrx x (.lst (wD (a.w.drop b.t)++wD y)) (.lst (wD (b.w.drop a.t))))) H1 (Ne.symm hi.hy);have Z2:=Ah (o:=.dct (lrx x (.lst (wD (a.w.drop b.t)++wD y)) (.lst (wD (b.w.drop a.t))))) Z1 hi.yz;have T2:=Ah (o:=.dct (lrx x (.lst (wD (a.w.drop b.t)++wD y)) (.lst (wD (b.w.drop a.t))))) T1 (Ar Y1 T1 (by simp));have Y2:=A7 (o':=.dct (lrx x (.lst (wD (a.w.drop b.t)++wD y)) (.lst (wD (b.w.drop a.t))))) Y1;generalize S1.set i.Y (.dct (lrx x (.lst (wD (a.w.drop b.t)++wD y)) (.lst (wD (b.w.drop a.t)))))=S2 at X2 O2 L2 H2 Z2 T2 Y2 ⊢;symm;refine Mj (k:=i.K) ?_;symm;refine AH H2 Mf ?_;refine ⟨rfl,_,T2,?_⟩;symm;have emsg:AO g 0 (mv++[(p,v)])=AO g 0 mv++[.tup [.str x,.str ws[p].1,v]]:=by
   rw [LI,<-hm1,AO,AO,DJ,hsd,hwd]
  refine ⟨_,AO g 0 (mv++[(p,v)]),T2,by rw [emsg];simp only [Dt];rw [if_pos (by rw [DK,hL];lia)],?_⟩;symm;have hne:¬(Aw g (Ap g 0 mv)).side=o:=λq=>h.two.ne (by rw [<-hsd,hm1];exact q);have hmy:mbQ g (Ap g 0 mv) p v=wD y:=by rw [<-hm1];exact hy
  have hsd':(Aw g (Ap g 0 mv)).side=x:=by rw [<-hm1];exact hsd
  have ewx:Am g x 0 (mv++[(p,v)])=wD (a.w++y):=by rw [CH,Am,Am,ui8,if_pos hsd',h.ex,GQ,<-hmy]
  have ewo:Am g o 0 (mv++[(p,v)])=Am g o 0 mv:=by rw [CH,Am,Am,ui8,if_neg hne,ui8]
  have hat:(Am g o 0 mv).length<=a.t:=by rw [<-hm1];exact h.vx.a
  have hyp:0 < y.length:=by
   have:=congrArg List.length hy;rw [uh1,A6] at this;lia
  refine ⟨rfl,mv++[(p,v)],⟨mv++[(p,v)],[],a.t,a.h,a.w++y⟩,⟨b.m1,b.m2++[(p,v)],b.t,b.h,b.w⟩,by rw [uf4];exact um8 _,?_⟩;refine ⟨h.two,(Em g 0 mv [(p,v)]).mpr ⟨h.ok,by rw [<-hm1];exact ⟨hm,trivial⟩⟩,ewx,by rw [ewo];exact h.eo,?_,?_,h.hx,h.ho,?_,?_,?_,?_,?_,?_,?_⟩
  ·exact ⟨(ui8 _).symm,trivial,by rw [ewo];exact hat,h.vx.t,trivial⟩
  ·refine ⟨by show mv++_=b.m1++(b.m2++_);rw [<-ug4,<-h.vo.e],?_,h.vo.a,by show b.t<=(a.w++y).length;rw [uf4];lia,?_⟩
   ·refine (Jh _ b.m2 _).mpr ⟨h.vo.al,?_⟩;rw [<-C5,<-h.vo.e];exact ⟨hsd',trivial⟩
   ·by_cases q:b.m2=[]
    ·have e3:b.m1=mv:=by have:=h.vo.e;rw [q,ui8] at this;exact this.symm
     show KF g (Ap g 0 b.m1) (Am g x 0 b.m1).length b.t (b.m2++[(p,v)]);rw [q,e3];show b.t < (Am g x 0 mv).length + (mbQ g (Ap g 0 mv) p v).length;rw [hmy,h.ex,A6,A6];lia
    ·exact SW h.vo.c q
  ·exact Ah L2 (Ar T2 L2 (by simp))
  ·exact Ah H2 (Ar T2 H2 (by simp))
  ·refine (Ah Y2 (Ar T2 Y2 (by simp))).trans ?_;show _=some (Ob.dct (lrx x (.lst (wD ((a.w++y).drop b.t))) _));rw [List.drop_append_of_le_length hto,GQ]
  ·refine (Ah Z2 (Ar T2 Z2 (by simp))).trans ?_;show _=some (Ob.dct (lrx x (.lst (BH g o 0 (mv++[(p,v)]))) _));rw [FZ,BH,BH,if_neg hne,ui8,ui8,hm1]
  ·exact A7 T2
  ·refine ⟨W,P,?_⟩;show Lst _ g x o (Ap g 0 (mv++[(p,v)])) (Am g o 0 (mv++[(p,v)])).length a.t a.h (b.w.take a.t) (a.w++y) _ _ _ _ _;rw [C5,ewo];rw [hm1] at X2;exact X2.setL T2 (Ne.symm hi.e) (Ne.symm hi.f)
  ·refine ⟨W2,P2,?_⟩;show Lst _ g o x (Ap g 0 b.m1) (Am g x 0 b.m1).length b.t b.h ((a.w++y).take b.t) b.w _ _ _ _ _;rw [List.take_append_of_le_length hto];exact O2.setL T2 (Ne.symm hi.g) (Ne.symm hi.h)
 ·symm;exact ⟨rfl,mv,a,b,un0 _,h⟩
section
variable {x o:Str}{a b d:D}
theorem EN (h:Two x o):AU (lrx x a b) (.inr o)=some b:=by rw [EO h];exact CY h.o
theorem M9 (h:Two x o):Br (lrx x a b) (.inr o) d=lrx x a d:=by rw [EO h,IQ h.o,<-EO h]
end
theorem aB (l c:Int)(hl:0<=l):∃n:Nat,atI [D.int l,.int 1,.int (c / 3 % (l + 1))] (c % 3)=some (.int (n:Int))/\(c=0->(n:Int)=l):=by
 have h1:=uk0 (c / 3) (b:=l + 1) (by lia);have:c % 3=0\/c % 3=1\/c % 3=2:=by lia
 rcases this with h | h | h <;> rw [h]
 ·exact ⟨l.toNat,by rw [ue7 hl];rfl,λ_=>ue7 hl⟩
 ·exact ⟨1,rfl,λe=>by subst e;exact absurd h (by decide)⟩
 ·exact ⟨(c / 3 % (l + 1)).toNat,by rw [ue7 h1];rfl,λe=>by subst e;exact absurd h (by decide)⟩
theorem Rx (w:List α)(t n:Nat):w.take t++(w.drop t).take n=w.take (t + ((w.drop t).take n).length):=by
 have h:(w.drop t).take n=(w.drop t).take ((w.drop t).take n).length:=by
  rw [uh3];exact List.take_eq_take_min
 rw [List.take_add,<-h]
theorem Rw (w:List α)(t n:Nat):(w.drop t).drop n=w.drop (t + ((w.drop t).take n).length):=by
 rw [List.drop_drop,uh3,uh4]
 by_cases z:n<=w.length - t
 ·rw [uj9 z]
 ·rw [ud0 (by lia),ud0 (by lia)]
def L5 (f:Fn):Prop:=∀(g:List GS) (x o:Str) (i:Ix) (S:List Ob) (mv:List Mv) (a b:Vs) (cell:Int),GOk g->(∀s∈g,Tin s)->i.ok->mv.length<=500->J g x o i S mv a b->Wf f [.obj i.L,.str x,.str o,.int cell,.obj i.H] S λr S'=>r = .non/\∃a',J g x o i S' mv a' b/\a'.w=a.w/\(cell=0->a'.t=b.w.length)
theorem TK (hc:Pa c):L5 (fnOf 5 8 (ED c)):=by
 intro g x o i S mv a b cell hg ht hi hml h;have hL:LIM=100000:=rfl;obtain ⟨W,P,X⟩:=h.jX;obtain ⟨W2,P2,O⟩:=h.jO;have hlt:=h.vx.lt hg h.ok;have hwl:=GR ht o mv 0 h.ok;rw [h.eo,A6] at hwl;have htl:=h.vx.t;have hal:=h.vx.a;obtain ⟨n,hn,hn0⟩:=aB ((b.w.drop a.t).length:Nat) cell (by lia);have hyl:((b.w.drop a.t).take n).length<=b.w.length - a.t:=by rw [uh3,uh4];lia
 have hpt:=Rx b.w a.t n;have hpd:=Rw b.w a.t n;have hyd:cell=0->((b.w.drop a.t).take n).length=b.w.length - a.t:=λz=>by
  have:=hn0 z;rw [uh3];rw [uh4] at this ⊢;lia
 generalize hy:(b.w.drop a.t).take n=y at hyl hpt hpd hyd;have hko:=h.ok;rw [h.vx.e,Em] at hko;have ewo:wD b.w=Am g o 0 a.m1++Am g o (Ap g 0 a.m1) a.m2:=by rw [<-h.eo,h.vx.e,CH]
 have elen:(Am g o 0 a.m1).length + (Am g o (Ap g 0 a.m1) a.m2).length=b.w.length:=by
  have:=congrArg List.length ewo;rw [A6,uf4] at this;exact this.symm
 obtain ⟨m1,m2,em,hle,hcut,hw1⟩:=OR hg h.two.o (w:=b.w) (tk:=a.t + y.length) (by lia) a.m2 (Ap g 0 a.m1) (Am g o 0 a.m1).length (a.t + y.length + 1) [] hlt hko.2 h.vx.al ⟨Am g o 0 a.m1,[],by rw [ui8];exact ewo,rfl⟩ elen (by lia) (by lia);rw [uj2] at hw1;have hal2:=h.vx.al;rw [em,Jh] at hal2;have hown:=Nl hal2.1;refine An rfl ?_;unfold ED;symm;refine AH h.jH IJ ?_;symm;refine AH h.jY (EN h.two) ?_;symm;rw [A6];refine Iw (by lia) ?_;symm;refine Bb hn ?_;symm;refine AH h.jL (CY h.two.x) ?_;refine ⟨_,_,rfl,X.ik,?_⟩;symm;rw [XJ,hy];refine GX ?_;refine (hc S g x o _ _ _ _ _ _ y _ _ _ _ _ _ _ _ _ hg h.two hlt (by rw [uh3];lia) (by rw [hpt,uh3];lia) (by rw [hpt,uh3,uj9 (by lia)];exact hw1) X).mono ?_;rintro r S1 ⟨rfl,K1,P1,R1⟩;refine ⟨rfl,?_⟩;rw [Ld,hpt] at R1;have O1:=X.oth O K1 (Ne.symm hi.k) (Ne.symm hi.a) (Ne.symm hi.c) (Ne.symm hi.b) (Ne.symm hi.d);have L1:=K1.get (X.nd h.jL) h.jL;have H1:=K1.get (X.nd h.jH) h.jH;have Y1:=K1.get (X.nd h.jY) h.jY;have Z1:=K1.get (X.nd h.jZ) h.jZ;have T1:=K1.get (X.nl h.jK (Ne.symm hi.e) (Ne.symm hi.f)) h.jK;symm;rw [Qx,hpd];refine AH H1 IJ ?_;symm;refine Dm Y1 (by show 2 < 100000;decide) ?_;rw [M9 h.two];have X2:=R1.setD (b:=.dct (lrx x (.lst (wD (a.w.drop b.t))) (.lst (wD (b.w.drop (a.t + y.length)))))) Y1;have O2:=O1.setD (b:=.dct (lrx x (.lst (wD (a.w.drop b.t))) (.lst (wD (b.w.drop (a.t + y.length)))))) Y1;have L2:=Ah (o:=.dct (lrx x (.lst (wD (a.w.drop b.t))) (.lst (wD (b.w.drop (a.t + y.length)))))) L1 (Ne.symm hi.ly);have H2:=Ah (o:=.dct (lrx x (.lst (wD (a.w.drop b.t))) (.lst (wD (b.w.drop (a.t + y.length)))))) H1 (Ne.symm hi.hy);have Z2:=Ah (o:=.dct (lrx x (.lst (wD (a.w.drop b.t))) (.lst (wD (b.w.drop (a.t + y.length)))))) Z1 hi.yz;have T2:=Ah (o:=.dct (lrx x (.lst (wD (a.w.drop b.t))) (.lst (wD (b.w.drop (a.t + y.length)))))) T1 (Ar Y1 T1 (by simp));have Y2:=A7 (o':=.dct (lrx x (.lst (wD (a.w.drop b.t))) (.lst (wD (b.w.drop (a.t + y.length)))))) Y1;generalize S1.set i.Y (.dct (lrx x (.lst (wD (a.w.drop b.t))) (.lst (wD (b.w.drop (a.t + y.length))))))=S2 at X2 O2 L2 H2 Z2 T2 Y2 ⊢;have hol:=JC g o 0 a.m1;have hml1:a.m1.length + (m1.length + m2.length)=mv.length:=by
  have:=congrArg List.length h.vx.e;rw [em,uf4,uf4] at this;exact this.symm
 symm;refine AH H2 Gc ?_;symm;refine AH Z2 (CY h.two.x) ?_;symm;refine CK (by rw [DK,hL];lia) ?_;symm;refine AH H2 Gc ?_;symm;refine Dm Z2 (by show 2 < 100000;decide) ?_;rw [IQ h.two.x];refine ⟨rfl,⟨a.m1++m1,m2,a.t + y.length,a.h,a.w⟩,?_,rfl,λz=>by show a.t + y.length=_;rw [hyd z];lia⟩;have ew1:(Am g o 0 (a.m1++m1)).length=(Am g o 0 a.m1).length + (Am g o (Ap g 0 a.m1) m1).length:=by rw [CH,uf4]
 refine ⟨h.two,h.ok,h.ex,h.eo,⟨by show mv=(a.m1++m1)++m2;rw [ug4,<-em];exact h.vx.e,by show Ea g o (Ap g 0 (a.m1++m1)) m2;rw [C5];exact hal2.2,by show (Am g o 0 (a.m1++m1)).length<=a.t + y.length;rw [ew1];exact hle,by show a.t + y.length<=_;lia,by show KF g (Ap g 0 (a.m1++m1)) (Am g o 0 (a.m1++m1)).length (a.t + y.length) m2;rw [C5,ew1];exact hcut⟩,h.vo,h.hx,um0 h.ho (uh8 _ _),?_,?_,?_,?_,?_,?_,?_⟩
 ·exact Ah L2 (Ne.symm hi.lz)
 ·exact Ah H2 (Ne.symm hi.hz)
 ·exact Ah Y2 (Ne.symm hi.yz)
 ·refine (A7 Z2).trans ?_;show _=some (Ob.dct (lrx x (.lst (BH g o 0 (a.m1++m1))) _));rw [FZ,hown]
 ·exact Ah T2 (Ar Z2 T2 (by simp))
 ·refine ⟨W,P1,?_⟩;show Lst _ g x o (Ap g 0 (a.m1++m1)) (Am g o 0 (a.m1++m1)).length (a.t + y.length) a.h (b.w.take (a.t + y.length)) a.w _ _ _ _ _;rw [C5,ew1];exact X2.setD Z2
 ·exact ⟨W2,P2,O2.setD Z2⟩
def OZ (f:Fn):Prop:=∀(g:List GS) (i:Ix) (S:List Ob) (mv:List Mv) (a b:Vs),GOk g->i.ok->J g sL sR i S mv a b->Wf f [.obj i.L,.obj i.H] S λr S'=>r = .non/\∃a' b',J g sL sR i S' mv a' b'
theorem TC (hc:Sz c):OZ (fnOf 2 4 (FR c (fnOf 1 1 Ci))):=by
 intro g i S mv a b hg hi h;obtain ⟨W,P,X⟩:=h.jX;obtain ⟨W2,P2,O⟩:=h.jO;have gL:AU (lrx sL (.obj i.kx) (.obj i.ko)) (.inr sL)=some (.obj i.kx):=CY h.two.x;have gR:AU (lrx sL (.obj i.kx) (.obj i.ko)) (.inr sR)=some (.obj i.ko):=EN h.two;refine An rfl ?_;unfold FR;symm;refine AH h.jL gL ?_;refine ⟨_,_,rfl,X.ik,W_ret.mpr ?_⟩;refine (Gf X).use ?_;symm;refine AH h.jL gR ?_;refine ⟨_,_,rfl,O.ik,W_ret.mpr ?_⟩;refine (Gf O).use ?_;symm;refine AH h.jL gL ?_;refine ⟨_,_,rfl,X.ik,?_⟩;symm;refine GX ?_;refine (hc S g sL sR _ _ _ _ b.t _ _ _ _ _ _ _ h.hx h.vo.t X).mono ?_;rintro r S1 ⟨rfl,K1,X1⟩;refine ⟨rfl,?_⟩;have O1:=X.oth O K1 (Ne.symm hi.k) (Ne.symm hi.a) (Ne.symm hi.c) (Ne.symm hi.b) (Ne.symm hi.d);have L1:=K1.get (X.nd h.jL) h.jL;have H1:=K1.get (X.nd h.jH) h.jH;have Y1:=K1.get (X.nd h.jY) h.jY;have Z1:=K1.get (X.nd h.jZ) h.jZ;have T1:=K1.get (X.nl h.jK (Ne.symm hi.e) (Ne.symm hi.f)) h.jK;symm;refine AH H1 IJ ?_;symm;refine Dm Y1 (by show 2 < 100000;decide) ?_;rw [IQ h.two.x];have X2:=X1.setD (b:=.dct (lrx sL (.lst (wD (a.w.drop b.t))) (.lst (wD (b.w.drop a.t))))) Y1;have O2:=O1.setD (b:=.dct (lrx sL (.lst (wD (a.w.drop b.t))) (.lst (wD (b.w.drop a.t))))) Y1;have L2:=Ah (o:=.dct (lrx sL (.lst (wD (a.w.drop b.t))) (.lst (wD (b.w.drop a.t))))) L1 (Ne.symm hi.ly);have H2:=Ah (o:=.dct (lrx sL (.lst (wD (a.w.drop b.t))) (.lst (wD (b.w.drop a.t))))) H1 (Ne.symm hi.hy);have Z2:=Ah (o:=.dct (lrx sL (.lst (wD (a.w.drop b.t))) (.lst (wD (b.w.drop a.t))))) Z1 hi.yz;have T2:=Ah (o:=.dct (lrx sL (.lst (wD (a.w.drop b.t))) (.lst (wD (b.w.drop a.t))))) T1 (Ar Y1 T1 (by simp));have Y2:=A7 (o':=.dct (lrx sL (.lst (wD (a.w.drop b.t))) (.lst (wD (b.w.drop a.t))))) Y1;generalize S1.set i.Y (.dct (lrx sL (.lst (wD (a.w.drop b.t))) (.lst (wD (b.w.drop a.t)))))=S2 at X2 O2 L2 H2 Z2 T2 Y2 ⊢;symm;refine AH L2 gR ?_;refine ⟨_,_,rfl,O2.ik,?_⟩;symm;refine GX ?_;refine (hc S2 g sR sL _ _ _ _ a.t _ _ _ _ _ _ _ h.ho h.vx.t O2).mono ?_;rintro r S3 ⟨rfl,K3,O3⟩;refine ⟨rfl,?_⟩;have X3:=O2.oth X2 K3 hi.k hi.a hi.b hi.c hi.d;have L3:=K3.get (O2.nd L2) L2;have H3:=K3.get (O2.nd H2) H2;have Y3:=K3.get (O2.nd Y2) Y2;have Z3:=K3.get (O2.nd Z2) Z2;have T3:=K3.get (O2.nl T2 (Ne.symm hi.g) (Ne.symm hi.h)) T2;symm;refine AH H3 IJ ?_;symm;refine Dm Y3 (by show 2 < 100000;decide) ?_;rw [M9 h.two];refine ⟨rfl,⟨a.m1,a.m2,a.t,b.t,a.w⟩,⟨b.m1,b.m2,b.t,a.t,b.w⟩,?_⟩;exact ⟨h.two,h.ok,h.ex,h.eo,h.vx,h.vo,um8 _,um8 _,Ah L3 (Ne.symm hi.ly),Ah H3 (Ne.symm hi.hy),A7 Y3,Ah Z3 hi.yz,Ah T3 (Ar Y3 T3 (by simp)),⟨W,P,X3.setD Y3⟩,⟨W2,P2,O3.setD Y3⟩⟩
theorem Kk (hg:GOk g){mv:List Mv}(hk:okQ g 0 mv)(s:Str):Rq 5 (.lst (BH g s 0 mv)):=RV λx hx=>Kr 4 x (Lc hg hk x (Nm g s 0 mv x hx))
theorem Vw.ok1 {o:Str}(v:Vw g o mv m1 m2 tk n)(hk:okQ g 0 mv):okQ g 0 m1:=by rw [v.e,Em] at hk;exact hk.1
def Mo (f:Fn):Prop:=∀(g:List GS) (i:Ix) (S:List Ob) (mv:List Mv) (a b:Vs),GOk g->mv.length<=500->J g sL sR i S mv a b->PureS S f [.obj i.H] (.bl true)
theorem Rf (hc:O5 c):Mo (fnOf 1 4 (ER c)):=by
 intro g i S mv a b hg hl h;refine An rfl ?_;unfold ER;have e1:BH g sR 0 mv=BH g sR 0 a.m1++BH g sR (Ap g 0 a.m1) a.m2:=by rw [<-FZ,<-h.vx.e]
 have e2:BH g sL 0 mv=BH g sL 0 b.m1++BH g sL (Ap g 0 b.m1) b.m2:=by rw [<-FZ,<-h.vo.e]
 symm;refine W_forL_cons.mpr ?_;symm;refine AH h.jH Mf ?_;symm;refine (hc g mv S i.K sR (by lia) h.jK).use ?_;symm;refine AH h.jH Gc ?_;symm;refine AH h.jZ (CY h.two.x) ?_;symm;refine AH h.jH Gc ?_;symm;refine AH h.jZ (CY h.two.x) ?_;symm;rw [e1,Qw];refine FC rfl (Kk hg (h.vx.ok1 h.ok) sR 40 (by decide)) ?_;symm;refine W_forL_cons.mpr ?_;symm;refine AH h.jH Mf ?_;symm;refine (hc g mv S i.K sL (by lia) h.jK).use ?_;symm;refine AH h.jH Gc ?_;symm;refine AH h.jZ (EN h.two) ?_;symm;refine AH h.jH Gc ?_;symm;refine AH h.jZ (EN h.two) ?_;symm;rw [e2,Qw];refine FC rfl (Kk hg (h.vo.ok1 h.ok) sL 40 (by decide)) ?_;symm;refine W_forL_nil.mpr ?_;symm;exact ⟨rfl,rfl⟩
theorem Vw.done {o:Str}(v:Vw g o mv m1 m2 tk n)(e:(Am g o 0 mv).length=tk):m1=mv:=by
 cases m2 with
 | nil=>have:=v.e;rw [ui8] at this;exact this.symm
 | cons m r=>
   obtain ⟨p,d⟩:=m;exfalso;have hc:tk < (Am g o 0 m1).length + (mbQ g (Ap g 0 m1) p d).length:=v.c;have ha:=v.al;rw [Ea] at ha;rw [v.e,CH,Am,if_pos ha.1,uf4,uf4] at e;have e:(Am g o 0 m1).length + ((mbQ g (Ap g 0 m1) p d).length + (Am g o (BR g (Ap g 0 m1) p) r).length)=tk:=e;lia
def SC (f:Fn):Prop:=∀(g:List GS) (i:Ix) (S:List Ob) (mv:List Mv) (a b:Vs),GOk g->(∀s∈g,Tin s)->i.ok->mv.length<=500->J g sL sR i S mv a b->Wf f [.obj i.L,.lst (g.map GS.d),.obj i.H] S λr S'=>r = .bl true
theorem VY {cj:Fn}(hj:SA cj)(hb:IB cb)(hw:Mz cw)(hy:KK ct)(ho:O5 co)(hl:L5 cl):SC (fnOf 3 9 (Ef cj ct (fnOf 1 1 Ci) cw (fnOf 1 1 CZ) cb co cl)):=by
 intro g i S mv a b hg ht hi hml h;have hL:LIM=100000:=rfl;refine An rfl ?_;unfold Ef;symm;refine W_forL_cons.mpr ?_;symm;refine (hl g sL sR i S mv a b 0 hg ht hi hml h).mono ?_;rintro r S1 ⟨rfl,a1,h1,ew1,et1⟩;symm;refine W_forL_cons.mpr ?_;symm;refine (hl g sR sL i.swap S1 mv b a1 0 hg ht hi.swap hml h1.swap).mono ?_;rintro r S2 ⟨rfl,b1,h2,ew2,et2⟩;have h2:J g sL sR i S2 mv a1 b1:=h2.swap;have et1:=et1 rfl;have et2:=et2 rfl;have hm1:a1.m1=mv:=h2.vx.done (by rw [h2.eo,A6,et1,ew2]);have hm2:b1.m1=mv:=h2.vo.done (by rw [h2.ex,A6,et2]);have eta:a1.t=b1.w.length:=by rw [et1,ew2]
 clear h h1 et1 ew1;have hz:=h2.jZ;rw [hm1,hm2] at hz;have gL:AU (lrx sL (.obj i.kx) (.obj i.ko)) (.inr sL)=some (.obj i.kx):=CY h2.two.x;have gR:AU (lrx sL (.obj i.kx) (.obj i.ko)) (.inr sR)=some (.obj i.ko):=EN h2.two;obtain ⟨W,P,X⟩:=h2.jX;obtain ⟨W2,P2,O⟩:=h2.jO;have hlt:=GC hg hg.ne h2.ok;symm;refine W_forL_nil.mpr ?_;symm;refine AH h2.jH Mf ?_;symm;refine AH h2.jH Gc ?_;symm;refine AH hz (CY h2.two.x) ?_;symm;refine (ho g mv S2 i.K sR (by lia) h2.jK).use ?_;symm;refine FC rfl (Kk hg h2.ok sR 40 (by decide)) ?_;symm;refine AH h2.jH Gc ?_;symm;refine AH hz (EN h2.two) ?_;symm;refine (ho g mv S2 i.K sL (by lia) h2.jK).use ?_;symm;refine FC rfl (Kk hg h2.ok sL 40 (by decide)) ?_;symm;refine GX ((hb g mv S2 i.K hg h2.ok (by lia) h2.jK).use ⟨rfl,?_⟩);symm;refine AH h2.jL gL ?_;refine ⟨_,_,rfl,X.ik,W_ret.mpr ?_⟩;refine (Ic X).use ?_;rw [hm1];symm;refine EA (by simp) ?_;symm;refine AH h2.jL gR ?_;refine ⟨_,_,rfl,O.ik,W_ret.mpr ?_⟩;refine (Ic O).use ?_;rw [hm2];symm;refine EA (by simp) ?_;symm;have hb1:=GR ht sL mv 0 h2.ok;have hb2:=GR ht sR mv 0 h2.ok;refine GX ((hw g mv S2 i.K h2.jK hg h2.ok (by lia) (by lia) (by lia)).mono ?_);rintro r S3 ⟨K3,A3,B3,rfl,w3,G3,_,_⟩;refine ⟨rfl,?_⟩;have X3:=X.gr G3;have O3:=O.gr G3;have L3:=G3.get h2.jL;have T3:=G3.get h2.jK;have ea:=w3.a;have eb:=w3.b;rw [h2.ex] at ea;rw [h2.eo] at eb;have hl1:a1.w.length<=25000:=by have:=hb1;rw [h2.ex,A6] at this;lia
 have hl2:b1.w.length<=25000:=by have:=hb2;rw [h2.eo,A6] at this;lia
 symm;refine AH L3 gL ?_;refine ⟨_,_,rfl,X3.ik,W_ret.mpr ?_⟩;refine (Gf X3).use ?_;symm;refine KB eb ?_;symm;rw [A6,eta];refine EA (by simp) ?_;symm;refine AH L3 gR ?_;refine ⟨_,_,rfl,O3.ik,W_ret.mpr ?_⟩;refine (Gf O3).use ?_;symm;refine KB ea ?_;symm;rw [A6,et2];refine EA (by simp) ?_;symm;have hwa:=UM hg h2.ok [] [] h2.ex.symm h2.eo.symm (.inl ⟨rfl,rfl⟩);rw [ui8,ui8] at hwa;refine GX ((hy g a1.w b1.w (.obj A3) (.obj B3) S3 (.inr ⟨A3,rfl,ea⟩) (.inr ⟨B3,rfl,eb⟩) hg hl1 hl2).mono ?_);rintro r S4 ⟨G4,hr⟩;rw [hwa] at hr;have hr:r = .tup [.lst (AO g 0 mv),.int _,.tup [.int _,.int _]]:=hr;subst hr;refine ⟨rfl,?_⟩;have T4:=G4.get T3;have hn:nvO 16 (.lst (AO g 0 mv))=true:=by
  rw [nvO,uh5,ug8,uh9];exact ⟨by rw [DK];lia,λx hx=>Ot (Lc hg h2.ok x hx) 11⟩
 have hres:=OF (S:=S4) 16 _ hn;symm;refine cZ (d:=.lst (AO g 0 mv)) hres ?_ hn ?_
 ·unfold CN;rw [show (S4[i.K]? : Option Ob)=_ from T4];dsimp only;unfold CN at hres;exact hres
 symm;have hjr:=hj g mv S4 i.K hg h2.ok (by lia) T4;have hix:=CJ hlt;have hgs:=CW hg hlt;have rqt:∀xs:List D,(∀x∈xs,∃s:Str,x = .str s)->eqN EQD (.tup xs) (.tup xs)=some true:=λxs h=>RY (n:=0) (λx hx=>by obtain ⟨s,rfl⟩:=h x hx;exact Ny) EQD (by decide)
 cases e:Aw g (Ap g 0 mv) with
 | fin=>
   rw [e] at hjr hix;rw [if_pos (show GS.fin.isFin=true from rfl)] at hjr;rw [GS.d] at hix;refine hjr.use ?_;symm;refine Bb hix ?_;symm;refine Bb hix ?_;symm;refine FC rfl (rqt _ (Xz ⟨_,rfl⟩)) ?_;exact rfl
 | st s ws=>
   rw [e] at hjr hix hgs;have hs:(s == Str.ofString "end")=false:=by cases hgs with | st h1 _ _ _ _=>rcases h1 with rfl | rfl <;> decide +kernel
   rw [if_neg (show ¬(GS.st s ws).isFin=true from uf1)] at hjr;rw [GS.d] at hix;refine hjr.use ?_;symm;refine Bb hix ?_;symm;refine Bb hix ?_;symm;rw [hs];symm;refine FC rfl (rqt _ (bU ⟨_,rfl⟩ ⟨_,rfl⟩)) ?_;exact rfl
theorem Kp.gr1 {o:Ob}(K:Kp S.length (S++[o]) S'):Gr S S':=by
 refine ⟨um0 (by rw [uf4];lia) K.1,λi hi=>?_⟩;rw [K.2 i (by rw [uf4];lia) (by lia),ua9 hi]
theorem Na {x:Str}{a:D}:lrx x a a=lr a a:=by unfold lrx onS;split <;> rfl
theorem ap {a:D}:lrx sL a b=lr a b:=by unfold lrx onS;rw [if_pos rfl,if_pos rfl]
theorem Ts {Y Z:Nat}:Bi (haD Y K Z)=haD Y K Z:=by
 unfold Bi;simp only [uj1,List.foldl_nil];have e1:Br [] kLy (.obj Y)=[(kLy,.obj Y)]:=by simp [Br]
 have e2:Br [(kLy,.obj Y)] kTa (.obj K)=[(kLy,.obj Y),(kTa,.obj K)]:=by
  unfold Br;rw [if_neg (by simp only [ul1,List.any_nil,ul0,ug8];exact of_decide_eq_false n12)];rfl
 rw [e1,e2];unfold Br;rw [if_neg (by simp only [ul1,List.any_nil,ul0,uj6,ug8,not_or];exact ⟨of_decide_eq_false n13,of_decide_eq_false n23⟩)];rfl
theorem Lst.set0 {x o:Str}{sd:List Nat}{k W P:Nat}{b:Ob}(R:Lst S g x o h a tk hd w sd k l q W P)(e:S[j]?=some (.dct [])):Lst (S.set j b) g x o h a tk hd w sd k l q W P:=
 ⟨Ah R.ik (Ar e R.ik (by simp)),Ah R.iw (Ar e R.iw (by simp)),Ah R.ip (Ar e R.ip (by simp)),Ah R.il (Ar e R.il (by simp)),Ah R.iq (Ar e R.iq (by simp)),R.ne⟩
def vs0:Vs:=⟨[],[],0,0,[]⟩
theorem vw0 {o:Str}:Vw g o [] [] [] 0 0:=⟨rfl,trivial,um8 _,um8 _,trivial⟩
theorem ao {cf cs ci cg:Fn}(he:SC ce)(hf:Mo cf)(hs:SD cs)(ht:L5 ct)(hl:OZ cl)(hi:OY ci)(hc:OU cc)(hg:GrC cg){ns:List Int}{S:List Ob}:Wf (fnOf 1 7 (Ig ce cf cs ct cl ci cc cg)) [.scr ns] S λr _=>r = .bl true:=by
 have hL:LIM=100000:=rfl;obtain ⟨c0,hc0⟩:=hc ns 0 (by decide) (by decide);have b0:=uk0 c0 (b:=6) (by decide);have b1:=uf8 c0 (b:=6) (by decide);refine An rfl ?_;unfold Ig;symm;refine hc0.use ?_;symm;refine Gw (Cn (by lia) (by lia)) ?_;refine (HF (P:=λxs t'=>t'.S=S/\∃cells:List Int,xs=cells.map D.int/\cells.length=(1 + c0 % 6).toNat) (λacc r t=>∃(cells:List Int) (j:Nat) (e0:Option Sl),acc=cells.map D.int/\cells.length=j/\j<=(1 + c0 % 6).toNat/\r=(Bd 0 (1 + c0 % 6).toNat).drop j/\t=⟨[e0,some (.val (.scr ns))],S⟩) (Bd 0 (1 + c0 % 6).toNat) [] _ ⟨[],0,none,rfl,rfl,um9 _,rfl,rfl⟩ ?_ ?_).mono ?_
 ·rintro acc d r t ⟨cells,j,e0,ha,hl,hj',hr,rfl⟩ _;obtain ⟨rfl,hr',hjn⟩:=F4 hr;obtain ⟨c,hcc⟩:=hc ns (1 + (0 + (j:Int))) (by lia) (by lia);symm;rw [if_pos rfl];symm;refine hcc.use ?_;subst ha;exact ⟨cells++[c],j + 1,_,by rw [uj7];rfl,by rw [uf4,hl];rfl,hjn,hr',rfl⟩
 ·rintro acc t ⟨cells,j,e0,ha,hl,hj',hr,rfl⟩;have:=congrArg List.length hr;rw [uj4,uh4,Dl] at this;exact ⟨rfl,cells,ha,by lia⟩
 rintro xs t' ⟨hS,cells,rfl,hcl⟩;refine CK (by rw [ui6,hL];lia) ?_;symm;rw [hS];refine (hg cells S (by lia) (by lia)).mono ?_;rintro r S' ⟨e,g,rfl,hgo,hti⟩;have e:=e.symm;subst e;symm;refine Hw ?_;refine Bg ?_;symm;refine (hi (S++[Ob.dct []]++[Ob.ins "Lasting" []]) (S++[Ob.dct []]).length g sL sR hgo (.inl ⟨rfl,rfl⟩) CT).mono ?_;rintro r S1 ⟨rfl,K1,W1,P1,l1,q1,R1,hl1,hq1⟩;refine ⟨rfl,?_⟩;refine Bg ?_;symm;refine (hi (S1++[Ob.ins "Lasting" []]) S1.length g sR sL hgo (.inr ⟨rfl,rfl⟩) CT).mono ?_;rintro r S2 ⟨rfl,K2,W2,P2,l2,q2,R2,hl2,hq2⟩;refine ⟨rfl,?_⟩;have G1:=K1.gr1;have G2:=K2.gr1;have LL:S2[S.length]?=some (.dct []):=G2.get (G1.get CT);have X2:=R1.gr G2;refine DQ ?_;refine ⟨LL,by show 2<=15;decide,?_⟩;have hlen0:(S++[Ob.dct []]).length=S.length + 1:=by rw [uf4];rfl
 have hb1:=B1 R1.ik;have hb2:=B1 R1.il;have hb3:=B1 R1.iq;have hb4:=B1 R2.ik;have hb5:=B1 R2.il;have hb6:=B1 R2.iq;have hb7:=B1 LL;rw [uf4] at hl2 hq2;simp only [uh1,uj4] at hl2 hq2;have X3:=X2.set0 (b:=.dct (lr (.obj (S++[Ob.dct []]).length) (.obj S1.length))) LL;have O3:=R2.set0 (b:=.dct (lr (.obj (S++[Ob.dct []]).length) (.obj S1.length))) LL;have L3:=A7 (o':=.dct (lr (.obj (S++[Ob.dct []]).length) (.obj S1.length))) LL;have N3:(S2.set S.length (.dct (lr (.obj (S++[Ob.dct []]).length) (.obj S1.length)))).length=S2.length:=uj8;rw [EM];generalize S2.set S.length (.dct (lr (.obj (S++[Ob.dct []]).length) (.obj S1.length)))=S3 at X3 O3 L3 N3 ⊢;symm;refine Hw ?_;refine Bg ?_;refine Hw ?_;refine Bg ?_;symm;refine Bg ?_;symm;refine DQ ?_;refine ⟨by simp,by show 2<=15;decide,?_⟩;rw [EM,MB];refine Bg ?_;symm;refine Bg ?_;refine Hw ?_;refine Bg ?_;symm;refine Bg ?_;symm;refine DQ ?_;refine ⟨by simp,by show 2<=15;decide,?_⟩;rw [EM,MB];refine DQ ?_;refine ⟨by simp,by show 3<=15;decide,?_⟩;have hY:(S3++[Ob.dct []]).length=S3.length + 1:=by simp
 have hK:(S3++[Ob.dct []]++[Ob.dct (lr (.lst []) (.lst []))]).length=S3.length + 2:=by simp
 have hZ:(S3++[Ob.dct []]++[Ob.dct (lr (.lst []) (.lst []))]++[Ob.lst []]).length=S3.length + 3:=by simp
 show DM _ _ Out.next ⟨[some (.val (.scr ns)),some (.val (.lst (g.map GS.d))),some (.val (.obj S.length)),some (.val (.obj S3.length)),none,none,none],(S3++[Ob.dct []]++[Ob.dct (lr (.lst []) (.lst []))]++[Ob.lst []]++[Ob.dct (lr (.lst []) (.lst []))]).set S3.length (.dct (Bi (haD (S3++[Ob.dct []]).length (S3++[Ob.dct []]++[Ob.dct (lr (.lst []) (.lst []))]).length (S3++[Ob.dct []]++[Ob.dct (lr (.lst []) (.lst []))]++[Ob.lst []]).length)))⟩;rw [Ts,hY,hK,hZ,show (S3++[Ob.dct []]++[Ob.dct (lr (.lst []) (.lst []))]++[Ob.lst []]++[Ob.dct (lr (.lst []) (.lst []))]).set S3.length (.dct (haD (S3.length + 1) (S3.length + 2) (S3.length + 3)))=S3++[Ob.dct (haD (S3.length + 1) (S3.length + 2) (S3.length + 3)),Ob.dct (lr (.lst []) (.lst [])),Ob.lst [],Ob.dct (lr (.lst []) (.lst []))] by simp];obtain ⟨i,hiL,hiH,hiok,hJ⟩:∃i:Ix,i.L=S.length/\i.H=S3.length/\i.ok/\J g sL sR i (S3++[Ob.dct (haD (S3.length + 1) (S3.length + 2) (S3.length + 3)),Ob.dct (lr (.lst []) (.lst [])),Ob.lst [],Ob.dct (lr (.lst []) (.lst []))]) [] vs0 vs0:=by
  refine ⟨⟨(S++[Ob.dct []]).length,l1,q1,S1.length,l2,q2,S.length,S3.length,S3.length + 1,S3.length + 3,S3.length + 2⟩,rfl,rfl,⟨?_,?_,?_,?_,?_,?_,?_,?_,?_,?_,?_,?_,?_,?_⟩,?_⟩
  all_goals first | (show _≠_;simp only [ne_eq];lia) | skip
  have G:Gr S3 (S3++[Ob.dct (haD (S3.length + 1) (S3.length + 2) (S3.length + 3)),Ob.dct (lr (.lst []) (.lst [])),Ob.lst [],Ob.dct (lr (.lst []) (.lst []))]):=Gr.app;refine ⟨.inl ⟨rfl,rfl⟩,trivial,rfl,rfl,vw0,vw0,um8 _,um8 _,?_,by simp,?_,?_,by simp [AO],⟨W1,P1,X3.gr G⟩,⟨W2,P2,O3.gr G⟩⟩
  ·rw [ap];exact G.get L3
  ·show _=some (Ob.dct (lrx sL (.lst []) (.lst [])));rw [Na];simp
  ·show _=some (Ob.dct (lrx sL (.lst []) (.lst [])));rw [Na];simp
 generalize S3++[Ob.dct (haD (S3.length + 1) (S3.length + 2) (S3.length + 3)),Ob.dct (lr (.lst []) (.lst [])),Ob.lst [],Ob.dct (lr (.lst []) (.lst []))]=S8 at hJ ⊢;rw [<-hiL,<-hiH];clear hiL hiH hY hK hZ N3 L3 O3 X3 hb1 hb2 hb3 hb4 hb5 hb6 hb7 hlen0 X2 LL G1 G2 hl1 hq1 hl2 hq2 R1 R2 K1 K2;have hcl:(Bx ns (some 8) (some 56)).length<=48:=by
  unfold Bx;rw [show (8:Int)=((8:Nat):Int) from rfl,show (56:Int)=((56:Nat):Int) from rfl,HT.GM,HT.GM,uh3];lia
 symm;refine Dx (λr t=>∃(mv:List Mv) (a b:Vs) (S9:List Ob) (cs:List Int) (e4 e5 e6:Option Sl),r=cs.map D.int/\mv.length + cs.length<=48/\J g sL sR i S9 mv a b/\t=⟨[some (.val (.scr ns)),some (.val (.lst (g.map GS.d))),some (.val (.obj i.L)),some (.val (.obj i.H)),e4,e5,e6],S9⟩) _ _ ⟨[],vs0,vs0,S8,Bx ns (some 8) (some 56),none,none,none,rfl,by simpa using hcl,hJ,rfl⟩ ?_ ?_
 ·rintro d r t ⟨mv,a,b,S9,cs',e4,e5,e6,hr,hml,h,rfl⟩ _
  cases cs' with
  | nil=>cases hr
  | cons c cs'=>
    rw [uk9] at hr;injection hr with q1' q2'
    subst q1' q2';rw [uh1] at hml;have hm2:c % 2=0\/c % 2=1:=by lia
    rcases hm2 with z | z
    ·symm;rw [z];symm;rw [z];symm;refine Cp (λu=>?_) λu=>?_
     ·symm;refine (hs g sL sR i S9 mv a b _ hgo hti hiok (by lia) h).mono ?_;rintro r S10 ⟨rfl,mv',a',b',hl',h'⟩;symm;refine (hf g i S10 mv' a' b' hgo (by lia) h').use ?_;symm;exact ⟨mv',a',b',S10,cs',_,_,_,rfl,by lia,h',rfl⟩
     ·symm;refine Cp (λu=>?_) λu=>?_
      ·symm;refine (ht g sL sR i S9 mv a b _ hgo hti hiok (by lia) h).mono ?_;rintro r S10 ⟨rfl,a',h',_,_⟩;symm;refine (hf g i S10 mv a' b hgo (by lia) h').use ?_;symm;exact ⟨mv,a',b,S10,cs',_,_,_,rfl,by lia,h',rfl⟩
      ·symm;refine (hl g i S9 mv a b hgo hiok h).mono ?_;rintro r S10 ⟨rfl,a',b',h'⟩;symm;refine (hf g i S10 mv a' b' hgo (by lia) h').use ?_;symm;exact ⟨mv,a',b',S10,cs',_,_,_,rfl,by lia,h',rfl⟩
    ·symm;rw [z];symm;rw [z];symm;refine Cp (λu=>?_) λu=>?_
     ·symm;refine (hs g sR sL i.swap S9 mv b a _ hgo hti hiok.swap (by lia) h.swap).mono ?_;rintro r S10 ⟨rfl,mv',b',a',hl',h'⟩;have h':J g sL sR i S10 mv' a' b':=h'.swap;symm;refine (hf g i S10 mv' a' b' hgo (by lia) h').use ?_;symm;exact ⟨mv',a',b',S10,cs',_,_,_,rfl,by lia,h',rfl⟩
     ·symm;refine Cp (λu=>?_) λu=>?_
      ·symm;refine (ht g sR sL i.swap S9 mv b a _ hgo hti hiok.swap (by lia) h.swap).mono ?_;rintro r S10 ⟨rfl,b',h',_,_⟩;have h':J g sL sR i S10 mv a b':=h'.swap;symm;refine (hf g i S10 mv a b' hgo (by lia) h').use ?_;symm;exact ⟨mv,a,b',S10,cs',_,_,_,rfl,by lia,h',rfl⟩
      ·symm;refine (hl g i S9 mv a b hgo hiok h).mono ?_;rintro r S10 ⟨rfl,a',b',h'⟩;symm;refine (hf g i S10 mv a' b' hgo (by lia) h').use ?_;symm;exact ⟨mv,a',b',S10,cs',_,_,_,rfl,by lia,h',rfl⟩
 ·rintro t ⟨mv,a,b,S9,cs',e4,e5,e6,hr,hml,h,rfl⟩;symm;refine (he g i S9 mv a b hgo hti hiok (by lia) h).mono ?_;rintro r S10 rfl;rfl
end LW
set_option maxHeartbeats 4000000
namespace F2
open PySem L2 PySem.Spec PySem.W
theorem TR {k:Kd}{P:Program}{w:World}{K:PySem.W.Frag}{mg:Str->Option Value}{base:Heap}{n:Nat}{fa:Addr}{fd:FuncData}{ps:List Str}:okK k P w K mg base n fa fd ps (λ_ _=>none):=by
 cases k <;> exact ⟨λvs H Q E h=>(by obtain ⟨c,ds,S,_,_,r,S',e,_⟩:=h;cases e),λA' outer s H args us vs Q E _ _ _ _ h=>(by obtain ⟨c,ds,S,_,_,r,S',e,_⟩:=h;cases e)⟩
theorem us0 {n:Nat}:∀{us:List Value},us.length=n + 1->∃a vs,us=a :: vs/\vs.length=n
 | _ :: _,h=>⟨_,_,rfl,Nat.succ.inj h⟩
variable {us:List Value}
theorem us1 (h:us.length=1):∃a,us=[a]:=by
 obtain ⟨a,vs,rfl,q⟩:=us0 h;exact ⟨a,by rw [List.eq_nil_of_length_eq_zero q]⟩
theorem us2 (h:us.length=2):∃a b,us=[a,b]:=by
 obtain ⟨_,vs,rfl,q⟩:=us0 h;obtain ⟨_,rfl⟩:=us1 q;exact ⟨_,_,rfl⟩
theorem us3 (h:us.length=3):∃a b c,us=[a,b,c]:=by
 obtain ⟨_,vs,rfl,q⟩:=us0 h;obtain ⟨_,_,rfl⟩:=us2 q;exact ⟨_,_,_,rfl⟩
theorem us4 (h:us.length=4):∃a b c d,us=[a,b,c,d]:=by
 obtain ⟨_,vs,rfl,q⟩:=us0 h;obtain ⟨_,_,_,rfl⟩:=us3 q;exact ⟨_,_,_,_,rfl⟩
theorem us5 (h:us.length=5):∃a b c d e,us=[a,b,c,d,e]:=by
 obtain ⟨_,vs,rfl,q⟩:=us0 h;obtain ⟨_,_,_,_,rfl⟩:=us4 q;exact ⟨_,_,_,_,_,rfl⟩
theorem us6 (h:us.length=6):∃a b c d e f,us=[a,b,c,d,e,f]:=by
 obtain ⟨_,vs,rfl,q⟩:=us0 h;obtain ⟨_,_,_,_,_,rfl⟩:=us5 q;exact ⟨_,_,_,_,_,_,rfl⟩
theorem us7 (h:us.length=7):∃a b c d e f g,us=[a,b,c,d,e,f,g]:=by
 obtain ⟨_,vs,rfl,q⟩:=us0 h;obtain ⟨_,_,_,_,_,_,rfl⟩:=us6 q;exact ⟨_,_,_,_,_,_,_,rfl⟩
end F2
namespace K80
open PySem L2 F2 LW
inductive Fx where
 | DF | CA | A5 | Ez | Cz | Dc | Da | Db | Ch | Bs | CG | Bz | BT | BW | C7 | Dq | BE | Bo | BA | BF | Dd | Bq | CI | By | Cm | Dk | DN | Di | Dj | Cl | C6 | Bp | DP | CL | BG | BS | El | BC | Cc | BO | BP | Cd | BD | C4 | B7 | Cv | Cw | BV | Bu | law_ | Ay | AE | AQ | AS | AK | Cb | BN | AT | AI | Ba | A9 | AM | A1 | Az | AR | AF | Ax | As
noncomputable def top (i:Nat):Stmt:=PySem.Challenge.pw_wireparley_k80_whole_lost_and_gone_on.main.body.getD i (.Pass ⟨0,0,0,0⟩)
noncomputable abbrev nm:Fx->Str
 | .DF=>"_wall"
 | .CA=>"is_number"
 | .A5=>"is_number_within"
 | .Ez=>"fits"
 | .Cz=>"fits_text"
 | .Dc=>"is_sign"
 | .Da=>"fits_list"
 | .Db=>"fits_pair"
 | .Ch=>"fits_choice"
 | .Bs=>"state_behind"
 | .CG=>"steps_of"
 | .Bz=>"state_next"
 | .BT=>"place_said"
 | .BW=>"place_named"
 | .C7=>"words_of"
 | .Dq=>"is_end"
 | .BE=>"grammar_copy"
 | .Bo=>"fitting_bytes"
 | .BA=>"width_up_to"
 | .BF=>"number_bytes"
 | .Dd=>"leading"
 | .Bq=>"read_value"
 | .CI=>"byte_at"
 | .By=>"byte_up_to"
 | .Cm=>"read_number"
 | .Dk=>"read_text"
 | .DN=>"sign_at"
 | .Di=>"read_list"
 | .Dj=>"read_pair"
 | .Cl=>"read_choice"
 | .C6=>"wires_of"
 | .Bp=>"message_bytes"
 | .DP=>"talk_by"
 | .CL=>"read_on"
 | .BG=>"read_message"
 | .BS=>"other_side"
 | .El=>"judged"
 | .BC=>"_law_cell_at"
 | .Cc=>"_law_mixed"
 | .BO=>"_law_shape"
 | .BP=>"_law_value"
 | .Cd=>"_law_state"
 | .BD=>"_law_grammar"
 | .C4=>"_law_say"
 | .B7=>"_law_take"
 | .Cv=>"_law_lose"
 | .Cw=>"_law_own"
 | .BV=>"_law_so_far"
 | .Bu=>"_law_end_good"
 | .law_=>"law"
 | .Ay=>"__init__"
 | .AE=>"state"
 | .AQ=>"hear"
 | .AS=>"unread_of"
 | .AK=>"__init__"
 | .Cb=>"say"
 | .BN=>"take"
 | .AT=>"speak"
 | .AI=>"listen"
 | .Ba=>"waiting"
 | .A9=>"may_say"
 | .AM=>"shape_to_say"
 | .A1=>"has_ended"
 | .Az=>"__init__"
 | .AR=>"say"
 | .AF=>"take"
 | .Ax=>"ticket"
 | .As=>"said_behind"
abbrev ql:Fx->Str
 | .Ay=>"Hearer.__init__"
 | .AE=>"Hearer.state"
 | .AQ=>"Hearer.hear"
 | .AS=>"Hearer.unread_of"
 | .AK=>"Side.__init__"
 | .Cb=>"Side.say"
 | .BN=>"Side.take"
 | .AT=>"Side.speak"
 | .AI=>"Side.listen"
 | .Ba=>"Side.waiting"
 | .A9=>"Side.may_say"
 | .AM=>"Side.shape_to_say"
 | .A1=>"Side.has_ended"
 | .Az=>"Lasting.__init__"
 | .AR=>"Lasting.say"
 | .AF=>"Lasting.take"
 | .Ax=>"Lasting.ticket"
 | .As=>"Lasting.said_behind"
 | x=>nm x
abbrev me:Fx->Bool
 | .Ay=>true
 | .AE=>true
 | .AQ=>true
 | .AS=>true
 | .AK=>true
 | .Cb=>true
 | .BN=>true
 | .AT=>true
 | .AI=>true
 | .Ba=>true
 | .A9=>true
 | .AM=>true
 | .A1=>true
 | .Az=>true
 | .AR=>true
 | .AF=>true
 | .Ax=>true
 | .As=>true
 | _=>false
abbrev ow:Fx->Str
 | .Ay=>"Hearer"
 | .AE=>"Hearer"
 | .AQ=>"Hearer"
 | .AS=>"Hearer"
 | .AK=>"Side"
 | .Cb=>"Side"
 | .BN=>"Side"
 | .AT=>"Side"
 | .AI=>"Side"
 | .Ba=>"Side"
 | .A9=>"Side"
 | .AM=>"Side"
 | .A1=>"Side"
 | .Az=>"Lasting"
 | .AR=>"Lasting"
 | .AF=>"Lasting"
 | .Ax=>"Lasting"
 | .As=>"Lasting"
 | _=>""
abbrev st:Fx->Stmt
 | .DF=>top 0
 | .CA=>top 11
 | .A5=>top 12
 | .Ez=>top 13
 | .Cz=>top 14
 | .Dc=>top 15
 | .Da=>top 16
 | .Db=>top 17
 | .Ch=>top 18
 | .Bs=>top 20
 | .CG=>top 21
 | .Bz=>top 22
 | .BT=>top 23
 | .BW=>top 24
 | .C7=>top 25
 | .Dq=>top 26
 | .BE=>top 27
 | .Bo=>top 30
 | .BA=>top 31
 | .BF=>top 32
 | .Dd=>top 33
 | .Bq=>top 34
 | .CI=>top 35
 | .By=>top 36
 | .Cm=>top 37
 | .Dk=>top 38
 | .DN=>top 39
 | .Di=>top 40
 | .Dj=>top 41
 | .Cl=>top 42
 | .C6=>top 44
 | .Bp=>top 45
 | .DP=>top 46
 | .CL=>top 47
 | .BG=>top 48
 | .BS=>top 52
 | .El=>top 55
 | .BC=>top 58
 | .Cc=>top 59
 | .BO=>top 60
 | .BP=>top 61
 | .Cd=>top 62
 | .BD=>top 63
 | .C4=>top 64
 | .B7=>top 65
 | .Cv=>top 66
 | .Cw=>top 67
 | .BV=>top 68
 | .Bu=>top 69
 | .law_=>top 70
 | .Ay=>AV (top 50) 0
 | .AE=>AV (top 50) 1
 | .AQ=>AV (top 50) 2
 | .AS=>AV (top 50) 3
 | .AK=>AV (top 53) 0
 | .Cb=>AV (top 53) 1
 | .BN=>AV (top 53) 2
 | .AT=>AV (top 53) 3
 | .AI=>AV (top 53) 4
 | .Ba=>AV (top 53) 5
 | .A9=>AV (top 53) 6
 | .AM=>AV (top 53) 7
 | .A1=>AV (top 53) 8
 | .Az=>AV (top 56) 0
 | .AR=>AV (top 56) 1
 | .AF=>AV (top 56) 2
 | .Ax=>AV (top 56) 3
 | .As=>AV (top 56) 4
noncomputable abbrev ps:Fx->List Str
 | .DF=>["k"]
 | .CA=>["thing"]
 | .A5=>["thing", "low", "high"]
 | .Ez=>["s", "thing"]
 | .Cz=>["s", "thing"]
 | .Dc=>["number"]
 | .Da=>["s", "thing"]
 | .Db=>["s", "thing"]
 | .Ch=>["s", "thing"]
 | .Bs=>["g", "talk"]
 | .CG=>["g", "talk"]
 | .Bz=>["g", "step"]
 | .BT=>["state", "thing"]
 | .BW=>["state", "thing"]
 | .C7=>["state"]
 | .Dq=>["state"]
 | .BE=>["g"]
 | .Bo=>["s", "value"]
 | .BA=>["most"]
 | .BF=>["number", "width"]
 | .Dd=>["number", "cut"]
 | .Bq=>["s", "wire", "at"]
 | .CI=>["wire", "at"]
 | .By=>["most", "wire", "at"]
 | .Cm=>["s", "wire", "at"]
 | .Dk=>["s", "wire", "at"]
 | .DN=>["wire", "at"]
 | .Di=>["s", "wire", "at"]
 | .Dj=>["s", "wire", "at"]
 | .Cl=>["s", "wire", "at"]
 | .C6=>["g", "talk"]
 | .Bp=>["state", "place", "value"]
 | .DP=>["g", "left", "right"]
 | .CL=>["g", "state", "wires", "places"]
 | .BG=>["state", "wire", "at"]
 | .BS=>["side"]
 | .El=>["g", "messages"]
 | .BC=>["script", "k"]
 | .Cc=>["cell", "k"]
 | .BO=>["cell", "depth"]
 | .BP=>["shape", "cell"]
 | .Cd=>["cell", "k", "many"]
 | .BD=>["cells"]
 | .C4=>["lastings", "g", "side", "cell", "hall"]
 | .B7=>["lastings", "side", "other", "cell", "hall"]
 | .Cv=>["lastings", "hall"]
 | .Cw=>["talk", "side"]
 | .BV=>["hall"]
 | .Bu=>["lastings", "g", "hall"]
 | .law_=>["script"]
 | .Ay=>["self", "g", "sides"]
 | .AE=>["self"]
 | .AQ=>["self", "side", "piece"]
 | .AS=>["self", "side"]
 | .AK=>["self", "g", "side"]
 | .Cb=>["self", "name", "value"]
 | .BN=>["self", "piece"]
 | .AT=>["self", "name", "value"]
 | .AI=>["self", "piece"]
 | .Ba=>["self"]
 | .A9=>["self"]
 | .AM=>["self", "name"]
 | .A1=>["self"]
 | .Az=>["self", "g", "side"]
 | .AR=>["self", "name", "value"]
 | .AF=>["self", "piece"]
 | .Ax=>["self"]
 | .As=>["self", "ticket"]
noncomputable abbrev ns:Fx->List Str
 | .DF=>["k"]
 | .CA=>["thing"]
 | .A5=>["thing", "low", "high"]
 | .Ez=>["s", "thing", "kind"]
 | .Cz=>["s", "thing", "sign"]
 | .Dc=>["number"]
 | .Da=>["s", "thing", "part"]
 | .Db=>["s", "thing"]
 | .Ch=>["s", "thing"]
 | .Bs=>["g", "talk", "steps"]
 | .CG=>["g", "talk", "state", "steps", "k", "place", "step"]
 | .Bz=>["g", "step"]
 | .BT=>["state", "thing", "place"]
 | .BW=>["state", "thing", "words", "place"]
 | .C7=>["state"]
 | .Dq=>["state"]
 | .BE=>["g"]
 | .Bo=>["s", "value", "kind", "row", "thing"]
 | .BA=>["most"]
 | .BF=>["number", "width"]
 | .Dd=>["number", "cut"]
 | .Bq=>["s", "wire", "at", "kind"]
 | .CI=>["wire", "at"]
 | .By=>["most", "wire", "at", "byte"]
 | .Cm=>["s", "wire", "at", "most", "width", "number", "k"]
 | .Dk=>["s", "wire", "at", "length", "place", "text", "k"]
 | .DN=>["wire", "at", "number"]
 | .Di=>["s", "wire", "at", "length", "place", "things", "k", "part"]
 | .Dj=>["s", "wire", "at", "first", "second"]
 | .Cl=>["s", "wire", "at", "k", "part"]
 | .C6=>["g", "talk", "wires", "steps", "k", "state"]
 | .Bp=>["state", "place", "value"]
 | .DP=>["g", "left", "right", "read"]
 | .CL=>["g", "state", "wires", "places", "talk", "standing", "behind", "side", "read"]
 | .BG=>["state", "wire", "at", "word", "read", "e"]
 | .BS=>["side"]
 | .El=>["g", "messages", "state", "e"]
 | .BC=>["script", "k"]
 | .Cc=>["cell", "k", "number"]
 | .BO=>["cell", "depth", "kind", "left", "low", "one", "other"]
 | .BP=>["shape", "cell", "kind", "many", "left", "found", "k", "one", "other", "number"]
 | .Cd=>["cell", "k", "many", "left", "words", "side", "count", "name", "shape"]
 | .BD=>["cells"]
 | .C4=>["lastings", "g", "side", "cell", "hall", "state", "name", "shape", "after", "value"]
 | .B7=>["lastings", "side", "other", "cell", "hall", "wire", "some", "told"]
 | .Cv=>["lastings", "hall", "left", "right"]
 | .Cw=>["talk", "side"]
 | .BV=>["hall", "side", "other", "own"]
 | .Bu=>["lastings", "g", "hall", "side", "other", "talk", "state", "left", "right"]
 | .law_=>["script", "g", "lastings", "hall", "cell", "side", "other"]
 | .Ay=>["self", "g", "sides", "side"]
 | .AE=>["self"]
 | .AQ=>["self", "side", "piece", "read"]
 | .AS=>["self", "side"]
 | .AK=>["self", "g", "side"]
 | .Cb=>["self", "name", "value"]
 | .BN=>["self", "piece"]
 | .AT=>["self", "name", "value", "state", "place"]
 | .AI=>["self", "piece"]
 | .Ba=>["self"]
 | .A9=>["self"]
 | .AM=>["self", "name"]
 | .A1=>["self"]
 | .Az=>["self", "g", "side"]
 | .AR=>["self", "name", "value", "row"]
 | .AF=>["self", "piece", "told"]
 | .Ax=>["self"]
 | .As=>["self", "ticket"]
def body (Φ:Fx->Fn):Fx->Fn
 | .DF=>fnOf 1 1 (TL)
 | .CA=>fnOf 1 1 (Gu)
 | .A5=>fnOf 3 3 (DI (Φ .CA))
 | .Ez=>fnOf 2 3 (Nc (Φ .Ch) (Φ .Db) (Φ .Da) (Φ .Cz) (Φ .A5))
 | .Cz=>fnOf 2 3 (Gs (Φ .Dc))
 | .Dc=>fnOf 1 1 (Ie)
 | .Da=>fnOf 2 3 (Gp (Φ .Ez))
 | .Db=>fnOf 2 2 (Gq (Φ .Ez))
 | .Ch=>fnOf 2 2 (Fl (Φ .Ez) (Φ .A5))
 | .Bs=>fnOf 2 3 (DY (Φ .Bz) (Φ .CG))
 | .CG=>fnOf 2 7 (Fo (Φ .Bz) (Φ .BT))
 | .Bz=>fnOf 2 2 (FV)
 | .BT=>fnOf 2 3 (FT (Φ .Ez) (Φ .BW))
 | .BW=>fnOf 2 4 (Fm (Φ .C7))
 | .C7=>fnOf 1 1 (Hg (Φ .Dq))
 | .Dq=>fnOf 1 1 (Jt)
 | .BE=>fnOf 1 1 (ES (Φ .Dq))
 | .Bo=>fnOf 2 5 (EE (Φ .Bo) (Φ .BA) (Φ .BF))
 | .BA=>fnOf 1 1 (Fp)
 | .BF=>fnOf 2 2 (ET (Φ .Dd))
 | .Dd=>fnOf 2 2 (Ih)
 | .Bq=>fnOf 3 4 (DA (Φ .Cl) (Φ .Dj) (Φ .Di) (Φ .Dk) (Φ .Cm))
 | .CI=>fnOf 2 2 (FQ)
 | .By=>fnOf 3 4 (EC (Φ .CI))
 | .Cm=>fnOf 3 7 (Df (Φ .Dd) (Φ .CI) (Φ .BA))
 | .Dk=>fnOf 3 7 (DU (Φ .DN) (Φ .By))
 | .DN=>fnOf 2 3 (FU (Φ .Dc) (Φ .CI))
 | .Di=>fnOf 3 8 (DS (Φ .Bq) (Φ .By))
 | .Dj=>fnOf 3 5 (DT (Φ .Bq))
 | .Cl=>fnOf 3 5 (De (Φ .Bq) (Φ .By))
 | .C6=>fnOf 2 6 (Fq (Φ .Bp) (Φ .CG))
 | .Bp=>fnOf 3 3 (EF (Φ .Bo))
 | .DP=>fnOf 3 4 (Ii (Φ .CL))
 | .CL=>fnOf 4 9 (Fb (Φ .BG))
 | .BG=>fnOf 3 6 (EU (Φ .Bq))
 | .BS=>fnOf 1 1 (FS)
 | .El=>fnOf 2 4 (Ju (Φ .Dq) (Φ .Bs))
 | .BC=>fnOf 2 2 (Dz)
 | .Cc=>fnOf 2 3 (Eg)
 | .BO=>fnOf 2 7 (Cj (Φ .BO))
 | .BP=>fnOf 2 10 (Ei (Φ .BP))
 | .Cd=>fnOf 3 9 (Eh (Φ .BO) (Φ .Cc))
 | .BD=>fnOf 1 1 (DH (Φ .Cd))
 | .C4=>fnOf 5 10 (Go (Φ .AR) (Φ .BP) (Φ .AE))
 | .B7=>fnOf 5 8 (ED (Φ .AF))
 | .Cv=>fnOf 2 4 (FR (Φ .As) (Φ .Ax))
 | .Cw=>fnOf 2 2 (Gn)
 | .BV=>fnOf 1 4 (ER (Φ .Cw))
 | .Bu=>fnOf 3 9 (Ef (Φ .El) (Φ .DP) (Φ .Ax) (Φ .C6) (Φ .AE) (Φ .Bs) (Φ .Cw) (Φ .B7))
 | .law_=>fnOf 1 7 (Ig (Φ .Bu) (Φ .BV) (Φ .C4) (Φ .B7) (Φ .Cv) (Φ .Az) (Φ .BC) (Φ .BD))
 | .Ay=>fnOf 3 4 (EB (Φ .BE))
 | .AE=>fnOf 1 1 (CZ)
 | .AQ=>fnOf 3 4 (Fh (Φ .CL))
 | .AS=>fnOf 2 2 (GF (Φ .DF))
 | .AK=>fnOf 3 3 (Fj (Φ .BS) (Φ .Ay))
 | .Cb=>fnOf 3 3 (Pz (Φ .AT))
 | .BN=>fnOf 2 2 (NP (Φ .AI))
 | .AT=>fnOf 3 5 (FP (Φ .Bp) (Φ .Bz) (Φ .BT))
 | .AI=>fnOf 2 2 (Fk (Φ .BS) (Φ .AQ))
 | .Ba=>fnOf 1 1 (Lb (Φ .DF))
 | .A9=>fnOf 1 1 (La (Φ .DF))
 | .AM=>fnOf 2 2 (HA (Φ .DF))
 | .A1=>fnOf 1 1 (Js (Φ .DF))
 | .Az=>fnOf 3 3 (Ee (Φ .AK))
 | .AR=>fnOf 3 4 (Fi (Φ .AT))
 | .AF=>fnOf 2 3 (EQ (Φ .AI))
 | .Ax=>fnOf 1 1 (Ci)
 | .As=>fnOf 2 2 (C1 (Φ .A5))
def run:Nat->Fx->Fn
 | 0=>λ_ _ _=>none
 | n + 1=>body (run n)
structure Md (K:PySem.W.Frag)(mg:Str->Option Value)(A:Fx->Addr)(fd:Fx->FuncData):Prop where
 fn:∀x,Fun K (nm x) (ql x) (st x) (A x) (fd x)
 mgs:∀x,me x=false->mg (nm x)=some (.ref (A x))
 bd:∀x,Binds K (fd x) (ps x) []
 cm:CM K
 Lz:∃C,PySem.W.nsIn K mainGlobals "Lasting" = some (some (.ref C))/\mg "Lasting" = some (.ref C)/\Mk K C (A .Az)/\Meth K C "say" (A .AR)/\Meth K C "take" (A .AF)/\Meth K C "ticket" (A .Ax)/\Meth K C "said_behind" (A .As)/\Meth K C "speak" (A .AT)/\Meth K C "listen" (A .AI)/\Meth K C "waiting" (A .Ba)/\Meth K C "may_say" (A .A9)/\Meth K C "shape_to_say" (A .AM)/\Meth K C "has_ended" (A .A1)/\Meth K C "state" (A .AE)/\Meth K C "hear" (A .AQ)/\Meth K C "unread_of" (A .AS)
 gS:∃C,mg "Hearer" = some (.ref C)/\ByCls K C "__init__" (A .Ay)
 i0:∃C,mg "Side" = some (.ref C)/\ByCls K C "__init__" (A .AK)
 fY:mg "bool" = none
 fW:mg "dict" = none
 eT:mg "enumerate" = none
 g7:mg "int" = none
 eR:mg "isinstance" = none
 gE:mg "len" = none
 fP:mg "list" = none
 gG:mg "ord" = none
 fK:mg "range" = none
 gF:mg "str" = none
 fN:mg "tuple" = none
 eO:∃tk,mg "FIRST_SIGN" = some (.int 32 tk)
 eP:∃tk,mg "LAST_SIGN" = some (.int 126 tk)
 eM:∃tk,mg "PERCENT_SIGN" = some (.int 37 tk)
 f8:∃tk,mg "SIGNS" = some (.str " !\"#$ &'()*+,-./0123456789:;<=>?@ABCDEFGHIJKLMNOPQRSTUVWXYZ[\\]^_`abcdefghijklmnopqrstuvwxyz{|}~" tk)
 xm:∃(P:Addr) (ca:Str->Addr),XM K mg P ca/\(XF1 K (ca "NoTalk") P "NoTalk.__init__" (AV (top 5) 0)/\XF2 K (ca "Broken") P "Broken.__init__" (AV (top 4) 0))/\∀n∈(["NoName", "Short"]:List Str),XN0 K (ca n)
noncomputable abbrev kd:Fx->Kd
 | .DF=>.pl
 | .CA=>.pl
 | .A5=>.pl
 | .Ez=>.pl
 | .Cz=>.pl
 | .Dc=>.pl
 | .Da=>.pl
 | .Db=>.pl
 | .Ch=>.pl
 | .Bs=>.ex
 | .CG=>.ex
 | .Bz=>.pl
 | .BT=>.pl
 | .BW=>.pl
 | .C7=>.pl
 | .Dq=>.pl
 | .BE=>.pl
 | .Bo=>.fr
 | .BA=>.pl
 | .BF=>.fr
 | .Dd=>.pl
 | .Bq=>.ex
 | .CI=>.ex
 | .By=>.ex
 | .Cm=>.ex
 | .Dk=>.ex
 | .DN=>.ex
 | .Di=>.ex
 | .Dj=>.ex
 | .Cl=>.ex
 | .C6=>.ex
 | .Bp=>.pl
 | .DP=>.er
 | .CL=>.er
 | .BG=>.er
 | .BS=>.pl
 | .El=>.pl
 | .BC=>.pl
 | .Cc=>.pl
 | .BO=>.pl
 | .BP=>.pl
 | .Cd=>.pl
 | .BD=>.pl
 | .C4=>.pl
 | .B7=>.pl
 | .Cv=>.pl
 | .Cw=>.pl
 | .BV=>.pl
 | .Bu=>.pl
 | .law_=>.pl
 | .Ay=>.pl
 | .AE=>.pl
 | .AQ=>.er
 | .AS=>.pl
 | .AK=>.pl
 | .Cb=>.ex
 | .BN=>.er
 | .AT=>.ex
 | .AI=>.er
 | .Ba=>.pl
 | .A9=>.pl
 | .AM=>.pl
 | .A1=>.pl
 | .Az=>.pl
 | .AR=>.ex
 | .AF=>.er
 | .Ax=>.pl
 | .As=>.ex
theorem U9:FnScope ["self", "at", "side"] ["self", "at", "side"] (Al (AV (top 4) 0)):=⟨rfl,rfl,rfl,by decide +kernel,rfl,by decide +kernel,by decide +kernel⟩
theorem aG:FnScope ["self", "at"] ["self", "at"] (Al (AV (top 5) 0)):=⟨rfl,rfl,rfl,by decide +kernel,rfl,by decide +kernel,by decide +kernel⟩
section
variable {P:Program}{w:World}{K:PySem.W.Frag}{mg:Str->Option Value}{base:Heap}{A:Fx->Addr}{fd:Fx->FuncData}{n:Nat}
theorem GH {a:Kd}(k:Kd){P:Program}{w:World}{K:PySem.W.Frag}{mg:Str->Option Value}{base:Heap}{n:Nat}{fa:Addr}{fd:FuncData}{ps:List Str}{f:Fn}(h:okK a P w K mg base n fa fd ps f)(e:a=k):okK k P w K mg base n fa fd ps f:=e ▸ h
section
variable {X:Cx}{A:Fx->Addr}{fd:Fx->FuncData}{n k:Nat}{x:Fx}{s:Str}{e:Expr}{es:List Expr}{f:M (List D)}{p pos:Pos}{E:L2.St->XK}
theorem bV (M:Md X.K X.mg A fd)(ih:∀x,okK (kd x) X.prog X.w X.K X.mg X.base k (A x) (fd x) (ps x) (run n x))(hr:Room k X.A)(ha:PA X (e :: es) (RA X.K f))(hk:kd x = .er)(hm:me x=false)(hs:nm x=s)(hg:Gl X s)(h1:AY e=false)(h2:A4 es=true)(hd:(s == ("__debug__" : Str))=false):PE X (.Call (.Name s p) (e :: es) [] pos) (RE X.K (Ai (Dg (run n x)) f)):=by subst hs;exact Jq (JY (GH .er (ih x) hk)) hr hg (M.mgs x hm) (Fun.kp (M.fn x)) (M.bd x) ha hd h1 h2
theorem bW (M:Md X.K X.mg A fd)(ih:∀x,okK (kd x) X.prog X.w X.K X.mg X.base k (A x) (fd x) (ps x) (run n x))(hr:Room k X.A)(ha:PA X (e :: es) (RA X.K f))(hk:kd x = .ex)(hm:me x=false)(hs:nm x=s)(hg:Gl X s)(h1:AY e=false)(h2:A4 es=true)(hd:(s == ("__debug__" : Str))=false):PE X (.Call (.Name s p) (e :: es) [] pos) (RE X.K (Ai (Dg (run n x)) f)):=by subst hs;exact Jq (JY (GH .ex (ih x) hk)) hr hg (M.mgs x hm) (Fun.kp (M.fn x)) (M.bd x) ha hd h1 h2
theorem cP (M:Md X.K X.mg A fd)(ih:∀x,okK (kd x) X.prog X.w X.K X.mg X.base k (A x) (fd x) (ps x) (run n x))(hr:Room k X.A)(ha:PA X (e :: es) (RA X.K f))(hk:kd x = .pl)(hm:me x=false)(hs:nm x=s)(hg:Gl X s)(h1:AY e=false)(h2:A4 es=true)(hd:(s == ("__debug__" : Str))=false):PE X (.Call (.Name s p) (e :: es) [] pos) (RE X.K (Ai (run n x) f)):=by subst hs;exact Jq (GH .pl (ih x) hk) hr hg (M.mgs x hm) (Fun.kp (M.fn x)) (M.bd x) ha hd h1 h2
theorem fF (M:Md X.K X.mg A fd)(ih:∀x,okK (kd x) X.prog X.w X.K X.mg X.base k (A x) (fd x) (ps x) (run n x))(hr:Room k X.A)(ha:PA X (e :: es) (RA X.K f))(hk:kd x = .fr)(hm:me x=false)(hs:nm x=s)(hg:Gl X s)(h1:AY e=false)(h2:A4 es=true)(hd:(s == ("__debug__" : Str))=false):PE X (.Call (.Name s p) (e :: es) [] pos) (RF X.K (D3 (run n x) f)):=by subst hs;exact Tc (GH .fr (ih x) hk) hr hg (M.mgs x hm) (Fun.kp (M.fn x)) (M.bd x) ha hd h1 h2
theorem xer (M:Md X.K X.mg A fd)(ih:∀x,okK (kd x) X.prog X.w X.K X.mg X.base k (A x) (fd x) (ps x) (run n x))(hr:Room k X.A)(hp:Cr (CX1 false X.prog X.w) X E)(ha:PA X (e :: es) (RA X.K f))(hk:kd x = .er)(hm:me x=false)(hs:nm x=s)(hg:Gl X s)(h1:AY e=false)(h2:A4 es=true)(hd:(s == ("__debug__" : Str))=false):PE X (.Call (.Name s p) (e :: es) [] pos) (RX X.K E (Ai (run n x) f)):=by subst hs;exact Ol (GH .er (ih x) hk) hr hg (M.mgs x hm) (Fun.kp (M.fn x)) (M.bd x) hp ha hd h1 h2
theorem xex (M:Md X.K X.mg A fd)(ih:∀x,okK (kd x) X.prog X.w X.K X.mg X.base k (A x) (fd x) (ps x) (run n x))(hr:Room k X.A)(hp:Cr (CX1 true X.prog X.w) X E)(ha:PA X (e :: es) (RA X.K f))(hk:kd x = .ex)(hm:me x=false)(hs:nm x=s)(hg:Gl X s)(h1:AY e=false)(h2:A4 es=true)(hd:(s == ("__debug__" : Str))=false):PE X (.Call (.Name s p) (e :: es) [] pos) (RX X.K E (Ai (run n x) f)):=by subst hs;exact Ol (GH .ex (ih x) hk) hr hg (M.mgs x hm) (Fun.kp (M.fn x)) (M.bd x) hp ha hd h1 h2
end
seal PH PE PA PSs PS PG PT PGs PPf PW PI PO PIf
theorem sc (x:Fx):FnScope (ns x) (ps x) (Al (st x)):=by
 cases x <;> exact ⟨rfl,rfl,rfl,by decide +kernel,rfl,by decide +kernel,by decide +kernel⟩
local macro_rules | `(tactic| clear 30 $t)=>`(tactic| with_reducible refine (?_ : $t))
seal JN
theorem step (M:Md K mg A fd)(ih0:∀x,okK (kd x) P w K mg base (2 * n + 2) (A x) (fd x) (ps x) (run n x))(y:Fx):okK (kd y) P w K mg base (2 * n + 2 + 1 + 1) (A y) (fd y) (ps y) (run (n + 1) y):=by
 have ih:=λx=>Yu (ih0 x);obtain ⟨_,eO⟩:=M.eO;obtain ⟨_,eP⟩:=M.eP;obtain ⟨_,eM⟩:=M.eM;obtain ⟨P',ca,x,xt,x0⟩:=M.xm;have xn:XN1 P w K mg base (ca "NoTalk") P':=Tw rfl aG rfl rfl xt.1;have xb:XN2 P w K mg base (ca "Broken") P':=Tx rfl U9 rfl rfl rfl xt.2;obtain ⟨_,f8⟩:=M.f8;have xh:SI P w K mg base (ca "Broken") P':=QZ rfl U9 rfl rfl rfl xt.2;obtain ⟨Lasting_,eL,gZ,gX,iL,iH,i6,gO,iA,i3,iN,iM,i8,iJ,iC,iE,iK⟩:=M.Lz;have iG:MAt K "Lasting" "say" Lasting_ (A .AR):=⟨by decide,eL,iL,by decide⟩;have i5:MAt K "Lasting" "state" Lasting_ (A .AE):=⟨by decide,eL,iC,by decide⟩;have iD:MAt K "Lasting" "take" Lasting_ (A .AF):=⟨by decide,eL,iH,by decide⟩;have gM:MAt K "Lasting" "said_behind" Lasting_ (A .As):=⟨by decide,eL,gO,by decide⟩;have hU:MAt K "Lasting" "ticket" Lasting_ (A .Ax):=⟨by decide,eL,i6,by decide⟩;obtain ⟨Hearer_b,hV,gY⟩:=M.gS;have i4:MAt K "Lasting" "speak" Lasting_ (A .AT):=⟨by decide,eL,iA,by decide⟩;have hX:MAt K "Lasting" "listen" Lasting_ (A .AI):=⟨by decide,eL,i3,by decide⟩;have i7:MAt K "Lasting" "hear" Lasting_ (A .AQ):=⟨by decide,eL,iE,by decide⟩;obtain ⟨Side_b,i9,iB⟩:=M.i0;have sy:=sc y;have nd:=sy.nd;have mf:=M.fn y
 cases y <;> first | (clear 30 (okK .pl ..);refine Zj (g:=fnOf _ _ _) rfl (X9 rfl rfl mf sy (λcdv A' outer s H E hr=>?_))) | (clear 30 (okK .ex ..);refine OI (g:=fnOf _ _ _) rfl (Oc rfl rfl mf sy (λcdv A' outer s H E hr hp hq ho=>?_))) | (clear 30 (okK .fr ..);refine WK (g:=fnOf _ _ _) rfl (VG rfl rfl mf sy (λcdv A' outer s H E hr=>?_))) | (clear 30 (okK .er ..);refine OI (g:=fnOf _ _ _) rfl (VH rfl rfl mf sy (λcdv A' outer s H E hr hp hq ho ht=>?_)))
 all_goals repeat' first
  | (clear 30 (PH ..);first
    | (clear 30 (PH _ _ (.ExceptHandler (some (.Name _ _)) (some _) [.Raise (some (.Call (.Name _ _) [_,_] [] _)) (some _) _] _ :: _) (RH _ _ (μX _ _) (hAs _ _ (DL _ _) _)));refine aa x xh rfl rfl (hr.mono (by lia)) rfl (x.ms "Broken" (by decide)) (x.cl "Broken" (by decide)) (λ_ hn=>x.subE hn (by decide)) nd rfl rfl ht rfl (λy=>?_) VP ?_)
    | exact X6
    | (clear 30 (PH _ _ (.ExceptHandler (some (.Name _ _)) none (_ :: _) _ :: _) (RH _ _ _ (hNo _ _ _)));refine Z9 x rfl (x.ms "Short" (by decide)) (x.cl "Short" (by decide)) (λ_ hn=>x.subE hn (by decide)) (λy=>?_) ?_)
    | (clear 30 (PH _ _ (.ExceptHandler (some (.Name _ _)) (some _) (_ :: _) _ :: _) (RH _ _ _ (hAs _ _ _ _)));refine Z8 x rfl (x.ms "NoTalk" (by decide)) (x.cl "NoTalk" (by decide)) (λ_ hn=>x.subE hn (by decide)) nd rfl rfl (λy=>?_) ?_))
  | (clear 30 (PE ..);first
    | (clear 30 (PE _ (.Name ..) ..);first
      | (clear 30 (PE _ _ (RE _ (Aa _)));exact (X4 _))
      | (clear 30 (PE _ (.Name _ _) (RE _ (fC (.ty _))));exact (Kb rfl M.gF XD))
      | (clear 30 (PE _ (.Name _ _) (RE _ (fC (.ty _))));exact (Kb rfl M.fN SQ))
      | (clear 30 (PE _ (.Name _ _) (RE _ (fC (.int _))));exact (KZ rfl eO))
      | (clear 30 (PE _ (.Name _ _) (RE _ (fC (.ty _))));exact (Kb rfl M.g7 Qp))
      | (clear 30 (PE _ (.Name _ _) (RE _ (fC (.ty _))));exact (Kb rfl M.fY Vl))
      | (clear 30 (PE _ (.Name _ _) (RE _ (fC (.int _))));exact (KZ rfl eP))
      | (clear 30 (PE _ (.Name _ _) (RE _ (fC (.int _))));exact (KZ rfl eM))
      | (clear 30 (PE _ (.Name _ _) (RE _ (fC (.ty _))));exact (Kb rfl M.fP N5))
      | (clear 30 (PE _ _ (RE _ (fC (.str _))));exact (Ta rfl f8)))
    | (clear 30 (PE _ (.Constant ..) ..);first
      | (clear 30 (PE _ _ (RE _ (fC (.int _))));exact XV)
      | (clear 30 (PE _ _ (RE _ (fC (.str _))));exact X0)
      | (clear 30 (PE _ _ (RE _ (fC (.bl _))));exact Z0)
      | (clear 30 (PE _ _ (RE _ (fC .non)));exact XW))
    | (clear 30 (PE _ (.Subscript ..) ..);first
      | (clear 30 (PE _ _ (RE _ (Ac _ _ ixD)));refine UV Q5 R7 ?_ ?_ (λ_ _=>rfl))
      | (clear 30 (PE _ _ (RE _ (Ac _ _ AL)));refine UV Yh R5 ?_ ?_ (λ_ _=>rfl))
      | (clear 30 (PE _ _ (RE _ (fSl _ _ _ DO)));refine MY sl3 ON ?_ ?_ ?_)
      | (clear 30 (PE _ _ (RX _ _ (Fv _ _ ixD)));refine ag Q5 R7 ?_ ?_ (λ_ _=>rfl))
      | (clear 30 (PE _ _ (RE _ (fSl _ _ _ Lo)));refine MY sl3 Ur ?_ ?_ ?_))
    | (clear 30 (PE _ (.Call ..) ..);first
      | (clear 30 (PE _ _ (RE _ (Ai (run _ _) _)));refine @cP _ _ _ _ _ _ _ _ _ _ _ _ M ih hr ?_ (by rfl) (by rfl) (by rfl) (by rfl) (by rfl) (by rfl) (by decide))
      | (clear 30 (PE _ _ (RE _ (fB _ A0)));refine Pn SS WU rfl M.gE XB ?_)
      | (clear 30 (PE _ (.Call (.Name _ _) _ _ _) (RX _ _ (Ai (run _ _) _)));refine @xex _ _ _ _ _ _ _ _ _ _ _ _ _ M ih hr hp ?_ (by rfl) (by rfl) (by rfl) (by rfl) (by rfl) (by rfl) (by decide))
      | (clear 30 (PE _ _ (RE _ (fB _ Du)));refine Pn SR WT rfl M.eR LU ?_)
      | (clear 30 (PE _ _ (RF _ (D3 (run _ _) _)));refine @fF _ _ _ _ _ _ _ _ _ _ _ _ M ih hr ?_ (by rfl) (by rfl) (by rfl) (by rfl) (by rfl) (by rfl) (by decide))
      | (clear 30 (PE _ _ (RE _ (Bj _ (run _ .Ax) _ (ret []))));refine MX M.cm hU (ih .Ax) hr (M.bd .Ax) ?_)
      | (clear 30 (PE _ _ (RF _ (fBF _ Hf)));refine Z5 MM WV rfl M.fP N5 ?_)
      | (clear 30 (PE _ _ (RE _ (objM Ec _ _)));refine QD ?_ ?_)
      | (clear 30 (PE _ (.Call (.Name _ _) _ _ _) (RX _ _ (Ai (run _ _) _)));refine @xer _ _ _ _ _ _ _ _ _ _ _ _ _ M ih hr hp ?_ (by rfl) (by rfl) (by rfl) (by rfl) (by rfl) (by rfl) (by decide))
      | (clear 30 (PE _ _ (RE _ (Bj _ (run _ .AE) _ (ret []))));refine MX M.cm i5 (ih .AE) hr (M.bd .AE) ?_)
      | (clear 30 (PE _ _ (RE _ (fB _ JB)));refine Pn ST W0 rfl M.gG XC ?_)
      | (clear 30 (PE _ _ (RE _ (Bj _ (Dg (run _ .As)) _ _)));refine K0 M.cm gM (JY (ih .As)) hr (M.bd .As) ?_ ?_)
      | (clear 30 (PE _ (.Call (.Name _ _) _ _ _) (RE _ (Ai (Dg (run _ _)) _)));refine bW M ih hr ?_ (by rfl) (by rfl) (by rfl) (by rfl) (by rfl) (by rfl) (by decide))
      | (clear 30 (PE _ _ (RE _ (Ka _ _ _)));refine Vv (by decide) eL gX (ih0 .Az) hr rfl gZ (M.bd .Az) ?_)
      | (clear 30 (PE _ _ (RX _ _ (Bj _ (run _ .AT) _ _)));refine K5 M.cm i4 (ih .AT) hr (M.bd .AT) hp ?_ ?_)
      | (clear 30 (PE _ _ (RX _ _ (Bj _ (run _ .AI) _ _)));refine K5 M.cm hX (ih .AI) hr (M.bd .AI) hp ?_ ?_)
      | (clear 30 (PE _ _ (RE _ (fUn _ JR)));refine QB ?_)
      | (clear 30 (PE _ _ (RE _ (fB _ IF)));refine S7 rfl M.fW ?_)
      | (clear 30 (PE _ _ (RE _ (joinM _ _)));refine Vu ?_ ?_)
      | (clear 30 (PE _ _ (RE _ (Bj _ (Dg (run _ .AR)) _ _)));refine K0 M.cm iG (JY (ih .AR)) hr (M.bd .AR) ?_ ?_)
      | (clear 30 (PE _ _ (RE _ (objM Dt _ _)));refine QA ?_ ?_)
      | (clear 30 (PE _ _ (RE _ (Bj _ (Dg (run _ .AF)) _ _)));refine K0 M.cm iD (JY (ih .AF)) hr (M.bd .AF) ?_ ?_)
      | (clear 30 (PE _ (.Call (.Name _ _) _ _ _) (RE _ (Ai (Dg (run _ _)) _)));refine bV M ih hr ?_ (by rfl) (by rfl) (by rfl) (by rfl) (by rfl) (by rfl) (by decide))
      | (clear 30 (PE _ _ (RE _ (fB _ K6)));refine ZZ Qr WS rfl M.g7 Qp ?_)
      | (clear 30 (PE _ (.Call (.Attribute (.Name _ _) _ _) (_ :: _) [] _) (RE _ (Ai _ _)));refine MV (ih .Ay) hr rfl hV gY (M.bd .Ay) ?_)
      | (clear 30 (PE _ _ (RX _ _ (Bj _ (run _ .AQ) _ _)));refine K5 M.cm i7 (ih .AQ) hr (M.bd .AQ) hp ?_ ?_)
      | (clear 30 (PE _ (.Call (.Attribute (.Name _ _) _ _) (_ :: _) [] _) (RE _ (Ai _ _)));refine MV (ih .AK) hr rfl i9 iB (M.bd .AK) ?_))
    | (clear 30 (PE _ (.Tuple ..) ..);first
      | (clear 30 (PE _ (.Tuple _ _ _) (RE _ (AD _)));refine @QE _ _ _ _ _ ?_)
      | (clear 30 (PE _ (.Tuple _ _ _) (RE _ (AD _)));refine QE ?_))
    | (clear 30 (PE _ (.BinOp ..) ..);first
      | (clear 30 (PE _ _ (RE _ (Ac _ _ AW)));refine G7 Ow NB ?_ ?_)
      | (clear 30 (PE _ _ (RE _ (Ac _ _ Bl)));refine G7 YD WX ?_ ?_)
      | (clear 30 (PE _ _ (RE _ (Ac _ _ Bc)));refine G7 We Up ?_ ?_)
      | (clear 30 (PE _ _ (RE _ (Ac _ _ Dv)));refine G7 YH W5 ?_ ?_)
      | (clear 30 (PE _ _ (RE _ (Ac _ _ DZ)));refine G7 Wg Uq ?_ ?_)
      | (clear 30 (PE _ _ (RF _ _));refine Z6 op_cat Uo ?_ ?_)
      | (clear 30 (PE _ _ (RX _ _ (Fv _ _ AW)));refine ah Ow NB ?_ ?_)
      | (clear 30 (PE _ _ (RE _ (Ac _ _ NC)));refine G7 YG W4 ?_ ?_)
      | (clear 30 (PE _ _ (RE _ (Ac _ _ No)));refine G7 YE W3 ?_ ?_))
    | (clear 30 (PE _ (.List ..) ..);first
      | refine @X5 _ _ _ _ ?_)
    | (clear 30 (PE _ (.Attribute ..) ..);first
      | (clear 30 (PE _ _ (RE _ (Cg _ _)));refine XU M.cm (by decide) ?_ rfl)
      | (clear 30 (PE _ _ (RE _ (bnd _ (HG _))));refine XT x x.na ?_ rfl))
    | (clear 30 (PE _ (.Dict ..) ..);first
      | (clear 30 (PE _ _ (RE _ (Ey _)));refine Vt ?_)
      | (clear 30 (PE _ _ (RE _ (E8 [])));exact QC))
    | (clear 30 (PE _ (.BoolOp ..) ..);first
      | (clear 30 (PE _ _ (RE _ (Ft _ _)));refine XS ?_ ?_)
      | (clear 30 (PE _ _ (RE _ _));refine XZ ?_))
    | (clear 30 (PE _ (.IfExp ..) ..);first
      | refine Tb ?_ ?_ ?_)
    | (clear 30 (PE _ (.Compare ..) ..);first
      | (clear 30 (PE _ (.Compare _ [.Eq] [_] _) (RE _ (Ac _ _ (eqS _))));refine MW (Rt hr.units) (IV (g:=id)) ?_ ?_ (D5 _))
      | (clear 30 (PE _ _ (RE _ (E7 _ _ _ _ _)));refine S6 Rv Rv OM OM ?_ ?_ ?_)
      | (clear 30 (PE _ _ (RE _ (Ac _ _ isC)));refine MW Ru R6 ?_ ?_ (D5 _))
      | (clear 30 (PE _ (.Compare _ [.NotEq] [_] _) (RE _ (Ac _ _ (eqS _))));refine MW (Nk hr.units) (IV (g:=λb=>!b)) ?_ ?_ (D5 _)))
    | (clear 30 (PE _ (.UnaryOp ..) ..);first
      | (clear 30 (PE _ _ (RE _ (IG _)));refine XX ?_)
      | (clear 30 (PE _ _ (RE _ (fUn _ Ng)));refine Z4 ZD WZ ?_))
    | (clear 30 (PE _ (.ListComp ..) ..);first
      | (clear 30 (PE _ (.ListComp _ [⟨(.Name ("state" : Str) _),_,_,0⟩] _ _) (RF _ (B6 _ [] _ _ _ _)));refine GA (FJ ["state"] [] rfl rfl rfl rfl rfl) rfl ?_ (λ_ _ _ _ _=>?_) (λ_ _ _ _ _=>?_) (λ_ _ _ _ _=>?_))
      | (clear 30 (PE _ (.ListComp _ [⟨(.Name ("sign" : Str) _),_,_,0⟩] _ _) (RF _ (B6 _ [] _ _ _ _)));refine GA (FJ ["sign"] [] rfl rfl rfl rfl rfl) rfl ?_ (λ_ _ _ _ _=>?_) (λ_ _ _ _ _=>?_) (λ_ _ _ _ _=>?_))
      | (clear 30 (PE _ _ (RF _ (B6 _ [0,1] _ _ _ _)));refine GA (FJ ["k"] [(0 , "number") ,(1 , "width")] rfl rfl rfl rfl rfl) rfl ?_ (λ_ _ _ _ _=>?_) (λ_ _ _ _ _=>?_) (λ_ _ _ _ _=>?_))
      | (clear 30 (PE _ _ (RF _ (B6 _ [4] _ _ _ _)));refine GA (FJ ["k"] [(4 , "left")] rfl rfl rfl rfl rfl) rfl ?_ (λ_ _ _ _ _=>?_) (λ_ _ _ _ _=>?_) (λ_ _ _ _ _=>?_))
      | (clear 30 (PE _ _ (RF _ (B6 _ _ _ _ _ _)));refine Td (FJ ["k" , "cell"] [(0 , "cells")] rfl rfl rfl rfl rfl) rfl ?_ (λ_ _ _ _ _=>?_) (λ_ _ _ _ _=>?_) (λ_ _ _ _ _=>?_))
      | (clear 30 (PE _ _ (RF _ (HS _ _ _ _ _ _)));refine Te (FJ ["message"] [(1 , "side")] rfl rfl rfl rfl rfl) rfl ?_ (λ_ _ _ _ _=>?_) (λ_ _ _ _ _=>?_) (λ_ _ _ _ _=>?_))
      | (clear 30 (PE _ _ (RF _ (B6 _ [0] _ _ _ _)));refine GA (FJ ["k"] [(0 , "script")] rfl rfl rfl rfl rfl) rfl ?_ (λ_ _ _ _ _=>?_) (λ_ _ _ _ _=>?_) (λ_ _ _ _ _=>?_)))
    | (clear 30 (PE _ _ (RE _ (AX _)));refine Vx ?_)
    | (clear 30 (PE _ _ (RE _ (Gk _)));refine XY ?_))
  | (clear 30 (PA ..);first
    | refine @SZ _ _ _ _ _ ?_ ?_ rfl
    | exact XR)
  | (clear 30 (PSs ..);first
    | refine @Tj _ _ _ _ _ _ ?_ ?_
    | refine @Oj _ _ _ _ ?_
    | exact VM
    | refine Tk ?_
    | exact (Oj Oe))
  | (clear 30 (PS ..);first
    | (clear 30 (PS _ (.Return ..) ..);first
      | (clear 30 (PS _ _ (RSg _ (μR _) (Ao _)));refine QO ?_)
      | (clear 30 (PS _ _ (RSg _ (μX _ _) (Ao (nxD _))));refine Og ?_)
      | (clear 30 (PS _ _ (RSg _ (μX _ _) (Ao _)));refine Hq (Oh ?_))
      | (clear 30 (PS _ _ (RSg _ (μF _) (Ho _)));refine Of ?_)
      | (clear 30 (PS _ _ (RSg _ (μF _) (GL _)));exact (QP _)))
    | (clear 30 (PS _ (.If ..) ..);first
      | refine ad ?_ ?_ ?_)
    | (clear 30 (PS _ (.Assign ..) ..);first
      | (clear 30 (PS _ (.Assign [.Name _ _] _ _) (RSg _ _ (AA _ _)));refine QQ nd rfl (.inl rfl) ?_)
      | (clear 30 (PS _ _ (RSg _ (μX _ _) (B9 _ _)));refine Hq (Oi nd rfl (.inl rfl) ?_))
      | (clear 30 (PS _ _ (RSg _ _ (Ce _ _)));refine Ya ?_ ?_)
      | (clear 30 (PS _ _ (RSg _ _ (B4 _ _ _)));refine Yb M.cm (by decide) ?_ ?_)
      | (clear 30 (PS _ _ (RSg _ _ (EX _ _)));refine Yc nd rfl (.inl rfl) ?_)
      | (clear 30 (PS _ _ (RSX _ _ (B9 _ _)));refine Oi nd rfl (.inl rfl) ?_)
      | (clear 30 (PS _ (.Assign [.Name _ _] _ _) (RSg _ _ (AA _ _)));refine QQ nd rfl (.inr rfl) ?_))
    | (clear 30 (PS _ (.Expr ..) ..);first
      | (clear 30 (PS _ _ (RSg _ _ (BX _)));refine Od ?_)
      | (clear 30 (PS _ _ (RSg _ _ (ownM _ Dt _)));refine Ps _ ?_)
      | (clear 30 (PS _ _ (RSg _ _ (ownM _ Ec _)));refine Pt _ ?_))
    | (clear 30 (PS _ (.For ..) ..);first
      | (clear 30 (PS _ (.For _ _ _ [] _) (RSg _ _ (B8 _ _ _)));refine QL PassesOwn.never rfl ?_ ?_ ?_)
      | (clear 30 (PS _ (.For _ _ _ [] _) (RSg _ _ (B8 _ _ _)));refine QL ho rfl ?_ ?_ ?_))
    | (clear 30 (PS _ (.Raise ..) ..);first
      | (clear 30 (PS _ _ (RSg _ (μX _ _) (DL _ _)));refine Hq (QM x xb (hr.mono (by lia)) rfl hq rfl ?_))
      | (clear 30 (PS _ _ (RSg _ (μX _ _) (Kn _ _)));refine Hq (QN x xn (hr.mono (by lia)) rfl hq rfl ?_))
      | (clear 30 (PS _ _ (RSg _ (μX _ _) (F1 ("Short" : Str) _)));refine Hq (LC (n:="Short") x (by decide) rfl (x0 "Short" (by decide)) rfl hq rfl ?_))
      | (clear 30 (PS _ _ (RSg _ (μX _ _) (F1 ("NoName" : Str) _)));refine Hq (LC (n:="NoName") x (by decide) rfl (x0 "NoName" (by decide)) rfl hq rfl ?_)))
    | exact Oe
    | (clear 30 (PS _ (.While ..) ..);first
      | (clear 30 (PS _ (.While _ _ [] _) _);refine M4 PassesOwn.never ?_ ?_)
      | (clear 30 (PS _ (.While _ _ [] _) (RSg _ _ (Iy _ _)));refine M4 ho ?_ ?_))
    | (clear 30 (PS _ (.Break ..) ..);first
      | exact Ti)
    | (clear 30 (PS _ (.Try ..) ..);first
      | (clear 30 (PS _ _ (RSg _ (μX _ _) (EY _ _)));refine QR (qx:=true) x Ys rfl rfl (λpn E hp=>?_) ?_)
      | (clear 30 (PS _ _ (RSg _ (μR _) (EY _ _)));refine QR (qx:=true) x Yr rfl rfl (λpn E hp=>?_) ?_))
    | refine QO ?_
    | refine Of ?_
    | refine Og ?_
    | refine Hq (Oh ?_)
    | refine Od ?_)
  | (clear 30 (PG ..);first
    | (clear 30 (PG _ (.Name ..) ..);first
      | (clear 30 (PG _ (.Name _ _) (RG _ (AB _)));exact (DR nd rfl (.inl rfl)))
      | (clear 30 (PG _ (.Name _ _) (RG _ (AB _)));exact (DR nd rfl (.inr rfl)))
      | (clear 30 (PG _ (.Name _ _) (RG _ (AB _)));exact (DR (by show List.Nodup [("k" : Str) ,("cell" : Str) ,("cells" : Str)] ;decide +kernel) rfl (.inl rfl)))
      | (clear 30 (PG _ (.Name _ _) (RG _ (AB _)));exact (DR (by show List.Nodup [("state" : Str)] ;decide +kernel) rfl (.inl rfl)))
      | (clear 30 (PG _ (.Name _ _) (RG _ (AB _)));exact (DR (by show List.Nodup [("sign" : Str)] ;decide +kernel) rfl (.inl rfl)))
      | (clear 30 (PG _ (.Name _ _) (RG _ (AB _)));exact (DR (by show List.Nodup [("k" : Str) ,("number" : Str) ,("width" : Str)] ;decide +kernel) rfl (.inl rfl)))
      | (clear 30 (PG _ (.Name _ _) (RG _ (AB _)));exact (DR (by show List.Nodup [("k" : Str) ,("left" : Str)] ;decide +kernel) rfl (.inl rfl)))
      | (clear 30 (PG _ (.Name _ _) (RG _ (AB _)));exact (DR (by show List.Nodup [("message" : Str) ,("side" : Str)] ;decide +kernel) rfl (.inl rfl)))
      | (clear 30 (PG _ (.Name _ _) (RG _ (AB _)));exact (DR (by show List.Nodup [("k" : Str) ,("script" : Str)] ;decide +kernel) rfl (.inl rfl))))
    | (clear 30 (PG _ (.Tuple ..) ..);first
      | refine Z7 rfl ?_)
    | (clear 30 (PG _ (.Subscript ..) ..);first
      | refine QG ?_ ?_))
  | (clear 30 (PT ..);first
    | (clear 30 (PT _ (.Compare ..) ..);first
      | (clear 30 (PT _ (.Compare _ [.Eq] [_] _) (RT _ (Aq (Ac _ _ (eqS _)))));refine E9 (Rt hr.units) (IV (g:=id)) ?_ ?_ (D5 _))
      | (clear 30 (PT _ (.Compare _ [.NotEq] [_] _) (RT _ (Aq (Ac _ _ (eqS _)))));refine E9 (Nk hr.units) (IV (g:=λb=>!b)) ?_ ?_ (D5 _))
      | (clear 30 (PT _ _ (RT _ (Aq (Ac _ _ gtA))));refine E9 YA WQ ?_ ?_ (D5 _))
      | (clear 30 (PT _ _ (RT _ (Aq (Ac _ _ isC))));refine E9 Ru R6 ?_ ?_ (D5 _))
      | (clear 30 (PT _ _ (RT _ (Aq (Ac _ _ geA))));refine E9 Yz WP ?_ ?_ (D5 _))
      | (clear 30 (PT _ _ (RT _ (Aq (Ac _ _ ltA))));refine E9 YC WW ?_ ?_ (D5 _))
      | (clear 30 (PT _ _ (RT _ (Aq (Ac _ _ (inS _)))));refine E9 (YB hr.units) (WR (neg:=false)) ?_ ?_ (by with_unfolding_all rfl))
      | (clear 30 (PT _ _ (RT _ (Aq (Ac _ _ (eqO _)))));refine E9 (Nk hr.units) (WO (g:=λb=>!b)) ?_ ?_ (D5 _)))
    | (clear 30 (PT _ (.BoolOp ..) ..);first
      | refine ae ?_)
    | (clear 30 (PT _ (.UnaryOp ..) ..);first
      | refine Yd ?_)
    | (clear 30 (PT _ _ (RT _ (Aq _)));refine QS ?_)
    | (clear 30 (PT _ _ (RT _ (Aq _)));refine QS ?_))
  | (clear 30 (PGs ..);first
    | refine Tf ?_ ?_
    | exact Vy)
  | (clear 30 (PPf ..);first
    | refine Th ?_ ?_
    | exact VL)
  | (clear 30 (PW ..);first
    | (clear 30 (PW _ (.BoolOp .Or (_ :: _ :: _) _) (RT _ (fOr _ _)));refine af ?_ ?_)
    | (clear 30 (PW _ (.BoolOp .Or [_] _) (RT _ _));refine Yf ?_)
    | (clear 30 (PW _ (.BoolOp .And (_ :: _ :: _) _) (RT _ (Jo _ _)));refine Ye ?_ ?_)
    | (clear 30 (PW _ (.BoolOp .And [_] _) (RT _ _));refine VN ?_))
  | (clear 30 (PI ..);first
    | (clear 30 (PI _ _ (.Call ..) ..);first
      | (clear 30 (PI _ _ _ (RI _ (CP _)));refine Po rfl M.fK ?_)
      | (clear 30 (PI _ _ _ (RI _ (G6 _)));refine Pp rfl M.fK ?_))
    | (clear 30 (PI _ (.Tuple ..) ..);first
      | refine VA rfl M.eT ?_)
    | (clear 30 (PI _ _ _ (RI _ (DX _)));refine X7 ?_)
    | (clear 30 (PI _ _ _ (RIG _ (Pk _)));refine Vz ?_))
  | (clear 30 (PO ..);first
    | refine VJ ?_
    | exact VI)
  | (clear 30 (PIf ..);first
    | exact VB
    | (clear 30 (PIf _ [_] (RT _ _));refine VC ?_))
theorem all_ok (M:Md K mg A fd):∀(n:Nat) (x:Fx),okK (kd x) P w K mg base (2 * n + 2) (A x) (fd x) (ps x) (run n x)
 | 0,x=>TR
 | n + 1,x=>by
   have ih:=all_ok M n;exact step M ih x
end
abbrev fno (x:Fx)(kV dc pm:Value)(an:Option Addr)(cd ct:Value):FuncData:=PySem.W.fnOf (nm x) (ql x) (CU (st x)) (Be (st x)) (Al (st x)) .none kV dc pm an cd ct
structure At (K:PySem.W.Frag)(x:Fx)(f:Addr)(fd:FuncData):Prop where
 a:me x=false->PySem.W.nsIn K mainGlobals (nm x)=some (some (.ref f))
 m:me x=true->∃C,PySem.W.nsIn K mainGlobals (ow x)=some (some (.ref C))/\PySem.W.findIn K (.ref C) (nm x)=some (some (.ref f))/\PySem.W.isFn K (.ref f)=true
 fn:Fun K (nm x) (ql x) (st x) f fd
 bd:Binds K fd (ps x) []
 eq:∃kV dc pm an cd ct,fd=fno x kV dc pm an cd ct
theorem at_mk {K:PySem.W.Frag}{x:Fx}{f:Addr}{od an:Option Addr}{sl:Array (Option Value)}{oc kV dc pm cd ct:Value}(e:me x=false)(a:PySem.W.nsIn K mainGlobals (nm x)=some (some (.ref f)))(l:K.lookup f=some ⟨oc,od,.func (fno x kV dc pm an cd ct),sl⟩)(c:PySem.W.codeIn K cd (ql x)=true)(k:PySem.W.keepIn K (.ref f)=true):∃p:Addr×FuncData,At K x p.1 p.2:=by
 refine ⟨(f,fno x kV dc pm an cd ct),λ_=>a,λz=>(by rw [e] at z;cases z),Fa (st:=st x) l c k,(Fa (st:=st x) l c k).binds (ps:=ps x) λ_ _ _ _ _ _ us hl=>?_,_,_,_,_,_,_,rfl⟩
 cases x <;> first | (obtain ⟨_,rfl⟩:=us1 hl;rfl) | (obtain ⟨_,_,rfl⟩:=us2 hl;rfl) | (obtain ⟨_,_,_,rfl⟩:=us3 hl;rfl) | (obtain ⟨_,_,_,_,rfl⟩:=us4 hl;rfl) | (obtain ⟨_,_,_,_,_,rfl⟩:=us5 hl;rfl) | (obtain ⟨_,_,_,_,_,_,rfl⟩:=us6 hl;rfl) | (obtain ⟨_,_,_,_,_,_,_,rfl⟩:=us7 hl;rfl)
theorem XA {K:PySem.W.Frag}{x:Fx}{f C:Addr}{od an:Option Addr}{sl:Array (Option Value)}{oc kV dc pm cd ct:Value}(e:me x=true)(hc:PySem.W.nsIn K mainGlobals (ow x)=some (some (.ref C)))(a:PySem.W.findIn K (.ref C) (nm x)=some (some (.ref f)))(l:K.lookup f=some ⟨oc,od,.func (fno x kV dc pm an cd ct),sl⟩)(c:PySem.W.codeIn K cd (ql x)=true)(k:PySem.W.keepIn K (.ref f)=true)(t:PySem.W.isFn K (.ref f)=true):∃p:Addr×FuncData,At K x p.1 p.2:=by
 refine ⟨(f,fno x kV dc pm an cd ct),λz=>(by rw [e] at z;cases z),λ_=>⟨C,hc,a,t⟩,Fa (st:=st x) l c k,(Fa (st:=st x) l c k).binds (ps:=ps x) λ_ _ _ _ _ _ us hl=>?_,_,_,_,_,_,_,rfl⟩
 cases x <;> first | (obtain ⟨_,rfl⟩:=us1 hl;rfl) | (obtain ⟨_,_,rfl⟩:=us2 hl;rfl) | (obtain ⟨_,_,_,rfl⟩:=us3 hl;rfl) | (obtain ⟨_,_,_,_,rfl⟩:=us4 hl;rfl) | (obtain ⟨_,_,_,_,_,rfl⟩:=us5 hl;rfl) | (obtain ⟨_,_,_,_,_,_,rfl⟩:=us6 hl;rfl) | (obtain ⟨_,_,_,_,_,_,_,rfl⟩:=us7 hl;rfl)
theorem xm_all {K:PySem.W.Frag}{h:Heap}{mg:Str->Option Value}{P c1 c2 c3 c4:Addr}{f:Addr}{od an:Option Addr}{sl:Array (Option Value)}{oc kV dc pm cd ct:Value}{f2:Addr}{od2 an2:Option Addr}{sl2:Array (Option Value)}{oc2 kV2 dc2 pm2 cd2 ct2:Value}(X:K.In h)(G:h.Ns mainGlobals mg)(p:PySem.W.nsIn K mainGlobals "ParleyError" = some (some (.ref P)))(a1:PySem.W.nsIn K mainGlobals "Short" = some (some (.ref c1)))(a2:PySem.W.nsIn K mainGlobals "Broken" = some (some (.ref c2)))(a3:PySem.W.nsIn K mainGlobals "NoTalk" = some (some (.ref c3)))(a4:PySem.W.nsIn K mainGlobals "NoName" = some (some (.ref c4)))(q:Qg K P [c1,c2,c3,c4]=true)(nd:[P,c1,c2,c3,c4].Nodup)(fi:PySem.W.findIn K (.ref c3) "__init__" = some (some (.ref f)))(l:K.lookup f=some ⟨oc,od,.func (PySem.W.fnOf "__init__" "NoTalk.__init__" (CU (AV (top 5) 0)) (Be (AV (top 5) 0)) (Al (AV (top 5) 0)) .none kV dc pm an cd ct),sl⟩)(ii:GB K c3 f=true)(hf:PySem.W.isFn K (.ref f)=true)(hs:PySem.W.findIn K (.ref c3) "__setattr__" = some (some (.builtin "object.__setattr__")))(cc:PySem.W.codeIn K cd "NoTalk.__init__" = true)(k:PySem.W.keepIn K (.ref f)=true)(fi2:PySem.W.findIn K (.ref c2) "__init__" = some (some (.ref f2)))(l2:K.lookup f2=some ⟨oc2,od2,.func (PySem.W.fnOf "__init__" "Broken.__init__" (CU (AV (top 4) 0)) (Be (AV (top 4) 0)) (Al (AV (top 4) 0)) .none kV2 dc2 pm2 an2 cd2 ct2),sl2⟩)(ii2:GB K c2 f2=true)(hf2:PySem.W.isFn K (.ref f2)=true)(hs2:PySem.W.findIn K (.ref c2) "__setattr__" = some (some (.builtin "object.__setattr__")))(cc2:PySem.W.codeIn K cd2 "Broken.__init__" = true)(k2:PySem.W.keepIn K (.ref f2)=true)(n4:Kj K c4=true)(n1:Kj K c1=true):∃(P:Addr) (ca:Str->Addr),XM K mg P ca/\(XF1 K (ca "NoTalk") P "NoTalk.__init__" (AV (top 5) 0)/\XF2 K (ca "Broken") P "Broken.__init__" (AV (top 4) 0))/\∀n∈(["NoName", "Short"]:List Str),XN0 K (ca n):=by
 have x:=bF X G p a1 a2 a3 a4 q nd;refine ⟨P,_,x,⟨ZS (C:=c3) (st:=(AV (top 5) 0)) ⟨x.cl "NoTalk" (by decide),x.kp "NoTalk" (by decide),x.gt "NoTalk" (by decide),x.gc "NoTalk" (by decide),x.na "NoTalk" (by decide),x.nd "NoTalk" (by decide)⟩ ii hf hs l cc k (λ_ _ _ _ _ _ us hl=>by match us,hl with | [_,_],_=>rfl),ZU (C:=c2) (st:=(AV (top 4) 0)) ⟨x.cl "Broken" (by decide),x.kp "Broken" (by decide),x.gt "Broken" (by decide),x.gc "Broken" (by decide),x.na "Broken" (by decide),x.nd "Broken" (by decide)⟩ ii2 hf2 hs2 l2 cc2 k2 (λ_ _ _ _ _ _ us hl=>by match us,hl with | [_,_,_],_=>rfl)⟩,?_⟩;intro n hn;simp only [uk8,ui0,or_false] at hn;rcases hn with rfl | rfl
 ·exact Sy n4
 ·exact Sy n1
theorem fin_mk {K:PySem.W.Frag}{h:Heap}{mg:Str->Option Value}{fa:Addr}(X:K.In h)(G:h.Ns mainGlobals mg)(hmg:mg "law" = some (.ref fa))(H:∀x:Fx,∃p:Addr×FuncData,At K x p.1 p.2)(fY:PySem.W.nsIn K mainGlobals "bool" = some none)(fW:PySem.W.nsIn K mainGlobals "dict" = some none)(eT:PySem.W.nsIn K mainGlobals "enumerate" = some none)(g7:PySem.W.nsIn K mainGlobals "int" = some none)(eR:PySem.W.nsIn K mainGlobals "isinstance" = some none)(gE:PySem.W.nsIn K mainGlobals "len" = some none)(fP:PySem.W.nsIn K mainGlobals "list" = some none)(gG:PySem.W.nsIn K mainGlobals "ord" = some none)(fK:PySem.W.nsIn K mainGlobals "range" = some none)(gF:PySem.W.nsIn K mainGlobals "str" = some none)(fN:PySem.W.nsIn K mainGlobals "tuple" = some none){g8:Tok}(eO:PySem.W.nsIn K mainGlobals "FIRST_SIGN" = some (some (.int 32 g8))){gD:Tok}(eP:PySem.W.nsIn K mainGlobals "LAST_SIGN" = some (some (.int 126 gD))){fR:Tok}(eM:PySem.W.nsIn K mainGlobals "PERCENT_SIGN" = some (some (.int 37 fR))){gP:Tok}(f8:PySem.W.nsIn K mainGlobals "SIGNS" = some (some (.str " !\"#$ &'()*+,-./0123456789:;<=>?@ABCDEFGHIJKLMNOPQRSTUVWXYZ[\\]^_`abcdefghijklmnopqrstuvwxyz{|}~" gP)))(xm:∃(P:Addr) (ca:Str->Addr),XM K mg P ca/\(XF1 K (ca "NoTalk") P "NoTalk.__init__" (AV (top 5) 0)/\XF2 K (ca "Broken") P "Broken.__init__" (AV (top 4) 0))/\∀n∈(["NoName", "Short"]:List Str),XN0 K (ca n)){fO fE eN:Addr}(gK:PySem.W.nsIn K mainGlobals "Reader" = some none)(gJ:PySem.W.nsIn K mainGlobals "Parley" = some none)(g6:PySem.W.nsIn K mainGlobals "Listener" = some none)(gN:PySem.W.nsIn K mainGlobals "Relay" = some none)(gW:PySem.W.nsIn K mainGlobals "Desk" = some none)(eZ:PySem.W.nsIn K mainGlobals "Hearer" = some (some (.ref fO)))(eS:PySem.W.nsIn K mainGlobals "Side" = some (some (.ref fE)))(eL:PySem.W.nsIn K mainGlobals "Lasting" = some (some (.ref eN)))(gQ:MP K fE=true)(gB:MP K eN=true)(gC:PB K eN=true)(fA:PySem.W.findIn K (.ref eN) "speak" = PySem.W.findIn K (.ref fE) "speak")(f7:PySem.W.findIn K (.ref eN) "listen" = PySem.W.findIn K (.ref fE) "listen")(eW:PySem.W.findIn K (.ref eN) "waiting" = PySem.W.findIn K (.ref fE) "waiting")(eX:PySem.W.findIn K (.ref eN) "may_say" = PySem.W.findIn K (.ref fE) "may_say")(eQ:PySem.W.findIn K (.ref eN) "shape_to_say" = PySem.W.findIn K (.ref fE) "shape_to_say")(eV:PySem.W.findIn K (.ref eN) "has_ended" = PySem.W.findIn K (.ref fE) "has_ended")(f9:PySem.W.findIn K (.ref eN) "state" = PySem.W.findIn K (.ref fO) "state")(fJ:PySem.W.findIn K (.ref eN) "hear" = PySem.W.findIn K (.ref fO) "hear")(eU:PySem.W.findIn K (.ref eN) "unread_of" = PySem.W.findIn K (.ref fO) "unread_of")(gI:byB K fO "__init__" = true)(gU:byB K fE "__init__" = true):∃(A:Fx->Addr) (fd:Fx->FuncData),Md K mg A fd/\A .law_=fa/\∀(s:Shared) (u:Value),BindsTo s (fd .law_) ⟨[u],[]⟩ [("script",u)]:=by
 obtain ⟨F,hF⟩:=Classical.axiomOfChoice H;have fm:∀x,me x=true->∀C,PySem.W.nsIn K mainGlobals (ow x)=some (some (.ref C))->PySem.W.findIn K (.ref C) (nm x)=some (some (.ref (F x).1))/\PySem.W.isFn K (.ref (F x).1)=true:=λx hx C h=>by
  obtain ⟨C,e1,e2,e3⟩:=(hF x).m hx;have e4:=e1.symm.trans h
  cases e4
  exact ⟨e2,e3⟩
 have gA:=fm .Ay rfl _ eZ;have fT:=fm .AE rfl _ eZ;have fV:=fm .AQ rfl _ eZ;have fH:=fm .AS rfl _ eZ;have gH:=fm .AK rfl _ eS;have iI:=fm .Cb rfl _ eS;have iF:=fm .BN rfl _ eS;have g9:=fm .AT rfl _ eS;have fZ:=fm .AI rfl _ eS;have fQ:=fm .Ba rfl _ eS;have fU:=fm .A9 rfl _ eS;have fD:=fm .AM rfl _ eS;have fL:=fm .A1 rfl _ eS;have fG:=fm .Az rfl _ eL;have fX:=fm .AR rfl _ eL;have fS:=fm .AF rfl _ eL;have fM:=fm .Ax rfl _ eL;have eY:=fm .As rfl _ eL;have cm:CM K:=ZX λn hn=>by
  simp only [KY,uk8,ui0,or_false] at hn;rcases hn with rfl | rfl | rfl | rfl | rfl | rfl | rfl
  ·exact .inl gK
  ·exact .inr ⟨_,eS,gQ⟩
  ·exact .inr ⟨_,eL,gB⟩
  ·exact .inl gJ
  ·exact .inl g6
  ·exact .inl gN
  ·exact .inl gW
 refine ⟨λx=>(F x).1,λx=>(F x).2,{ fn:=λx=>(hF x).fn,mgs:=λx e=>ul6 X G ((hF x).a e),bd:=λx=>(hF x).bd,cm:=cm,Lz:=⟨_,eL,ul6 X G eL,aq gC fG.1 fG.2,⟨fX.1,fX.2,Fun.kp (hF .AR).fn⟩,⟨fS.1,fS.2,Fun.kp (hF .AF).fn⟩,⟨fM.1,fM.2,Fun.kp (hF .Ax).fn⟩,⟨eY.1,eY.2,Fun.kp (hF .As).fn⟩,⟨fA.trans g9.1,g9.2,Fun.kp (hF .AT).fn⟩,⟨f7.trans fZ.1,fZ.2,Fun.kp (hF .AI).fn⟩,⟨eW.trans fQ.1,fQ.2,Fun.kp (hF .Ba).fn⟩,⟨eX.trans fU.1,fU.2,Fun.kp (hF .A9).fn⟩,⟨eQ.trans fD.1,fD.2,Fun.kp (hF .AM).fn⟩,⟨eV.trans fL.1,fL.2,Fun.kp (hF .A1).fn⟩,⟨f9.trans fT.1,fT.2,Fun.kp (hF .AE).fn⟩,⟨fJ.trans fV.1,fV.2,Fun.kp (hF .AQ).fn⟩,⟨eU.trans fH.1,fH.2,Fun.kp (hF .AS).fn⟩⟩,gS:=⟨_,ul6 X G eZ,US gI gA.1 (Fun.kp (hF .Ay).fn)⟩,i0:=⟨_,ul6 X G eS,US gU gH.1 (Fun.kp (hF .AK).fn)⟩,xm:=xm,fY:=uf9 X G fY,fW:=uf9 X G fW,eT:=uf9 X G eT,g7:=uf9 X G g7,eR:=uf9 X G eR,gE:=uf9 X G gE,fP:=uf9 X G fP,gG:=uf9 X G gG,fK:=uf9 X G fK,gF:=uf9 X G gF,fN:=uf9 X G fN,eO:=⟨g8,ul6 X G eO⟩,eP:=⟨gD,ul6 X G eP⟩,eM:=⟨fR,ul6 X G eM⟩,f8:=⟨gP,ul6 X G f8⟩ },?_,λs u=>?_⟩
 ·have e:=hmg.symm.trans (ul6 X G ((hF .law_).a rfl))
  cases e
  rfl
 ·obtain ⟨_,_,_,_,_,_,e⟩:=(hF .law_).eq;show BindsTo s (F .law_).2 _ _;rw [e];exact .of_eq rfl
theorem walk {l:PySem.W.OpenLaw}{q:Program}{loose:List Str}{XP:(Str->Option Value)->Heap->Prop}{YP:World->Heap->Prop}{d:DefRec}{K:Params->PySem.W.Frag}(m:Nat)(hm:Room (2 * m + 2) callerA)(hn:l.most=some 63)(hdf:d.params.defaults=[])
 (hY:∀(w:World) (h:Heap),YP w h->(K w.params).In h) (lt:∀ns:List Int,ns.length<=63->∃S',run m .law_ [.scr ns] []=some (.bl true,S'))
 (F:∀(w:World) (mg:Str->Option Value) (fa:Addr) (h:Heap),(K w.params).In h->h.Ns mainGlobals mg->mg d.name=some (.ref fa)->
   ∃(A:Fx->Addr) (fd:Fx->FuncData),Md (K w.params) mg A fd/\A .law_=fa/\∀(s:Shared) (u:Value),BindsTo s (fd .law_) ⟨[u],[]⟩ [("script",u)]) :
 PySem.W.WalkO q loose XP YP l.row.toRowW d [] (λf vs=>PySem.call f vs):=
 L2.Xn (n:=63) (k:=2 * m + 2) (x:="script") (CX:=λ_=>CX0) (sp:=λw=>spF (K w.params) (run m .law_)) hn (by decide) hdf hm hY
  (λw mg fa h KX G hmg=>by obtain ⟨A,fd,M,e,b⟩:=F w mg fa h KX G hmg;subst e;exact ⟨fd .law_,b,λbase _ _=>all_ok M m .law_⟩)
  (λw H a ns hl hO hS=>by obtain ⟨S',e⟩:=lt ns hl;exact Q9 hO hS e) λ_ _ _ _ _ z=>z
theorem V9 (k:Nat):N0 (run (k + 1) .CA):=λd h=>M6 h
theorem Hx (k:Nat):FF (run (k + 2) .A5):=Sw (V9 k)
theorem NE (k:Nat):JL (run (k + 1) .Dc):=Pv
theorem UD (k:Nat):Mt (run (k + 2) .Cz):=M3 (NE k)
theorem M0:∀(n k:Nat),2 * n + 3<=k->Gx (run k .Ez) n
 | 0,k,_=>λs hs=>absurd s.depth_pos (by lia)
 | n + 1,k,h=>by
   obtain ⟨j,rfl⟩:∃j,k=j + 4:=Nat.exists_eq_add_of_le' (by lia);have ih:=M0 n (j + 2) (by lia);exact VF (K4 ih (Hx j)) (M2 ih) (M1 ih) (UD (j + 1)) (Hx (j + 1))
theorem M7 (k:Nat):HB (run (k + 1) .Dd):=VX
theorem TQ (k:Nat):Mp (run (k + 2) .BF):=Wa (M7 k)
theorem OT (k:Nat):JP (run (k + 1) .BA):=UN
theorem MZ:∀(n k:Nat),n + 3<=k->IC (run k .Bo) n
 | 0,k,_=>λs hs=>absurd s.depth_pos (by lia)
 | n + 1,k,h=>by
   obtain ⟨j,rfl⟩:∃j,k=j + 3:=Nat.exists_eq_add_of_le' (by lia);exact VD (MZ n (j + 2) (by lia)) (OT (j + 1)) (TQ j)
theorem MD (k:Nat):BXw (run (k + 1) .CI):=XF
theorem ZE (k:Nat):UXw (run (k + 2) .By):=ZF (MD k)
theorem Zu (k:Nat):SXw (run (k + 2) .DN):=Zv (NE k) (MD k)
theorem Nu:∀(n k:Nat),2 * n + 4<=k->HE (run k .Bq) n
 | 0,k,_=>λs hs=>absurd s.depth_pos (by lia)
 | n + 1,k,h=>by
   obtain ⟨j,rfl⟩:∃j,k=j + 5:=Nat.exists_eq_add_of_le' (by lia);exact PY rfl rfl rfl rfl rfl (ZE (j + 1)) (Zu (j + 1)) (M7 (j + 2)) (MD (j + 2)) (OT (j + 2)) (Nu n (j + 3) (by lia))
theorem Om (k:Nat):O0 (run (k + 11) .BG):=V3 (Nu 3 (k + 10) (by lia))
theorem PZ (k:Nat):KJ (run (k + 12) .CL):=NU (Om k)
theorem P6 (k:Nat):KK (run (k + 13) .DP):=Si (PZ k)
theorem NV (k:Nat):KI (run (k + 12) .CL):=NT (Om k)
theorem Tu (k:Nat):OW (run (k + 13) .AQ):=Tt (NV k)
theorem Ox (k:Nat):L7 (run (k + 1) .BS):=YI
theorem Py (k:Nat):KG (run (k + 14) .AI):=Rb (Ox (k + 12)) (Tu k)
theorem Sg (k:Nat):Pa (run (k + 15) .AF):=UC (Py k)
theorem HY (k:Nat):Gy (run (k + 1) .Dq):=Q3
theorem Sx (k:Nat):KL (run (k + 2) .C7):=UO (HY k)
theorem PP (k:Nat):Jg (run (k + 3) .BW):=Lg (Sx k)
theorem Km (k:Nat):GU (run (k + 10) .BT):=LZ (M0 3 (k + 9) (by lia)) (PP (k + 6))
theorem Jy (k:Nat):HC (run (k + 1) .Bz):=V8
theorem LN (k:Nat):JM (run (k + 11) .CG):=Xb (Jy (k + 9)) (Km k)
theorem JQ (k:Nat):IB (run (k + 12) .Bs):=SL (Jy (k + 10)) (LN k)
theorem Nd (k:Nat):L6 (run (k + 7) .Bp):=Yq (MZ 3 (k + 6) (by lia))
theorem Sv (k:Nat):Mz (run (k + 12) .C6):=Xo (Nd (k + 4)) (LN k)
theorem VU (k:Nat):SA (run (k + 13) .El):=am (HY (k + 11)) (JQ k)
theorem Sa (k:Nat):Ms (run (k + 11) .AT):=Uy (Nd (k + 3)) (Jy (k + 9)) (Km k)
theorem Um (k:Nat):SG (run (k + 12) .AR):=WL (Sa k)
theorem Vj (k:Nat):Sz (run (k + 3) .As):=Vi (Hx k)
theorem QT (k:Nat):OV (run (k + 2) .BE):=Tn (HY k)
theorem QX (k:Nat):Mn (run (k + 3) .Ay):=QW (QT k)
theorem R8 (k:Nat):O6 (run (k + 4) .AK):=Ux (Ox (k + 2)) (QX k)
theorem Ra (k:Nat):OY (run (k + 5) .Az):=TB (R8 k)
theorem LK:∀(d k:Nat),d + 1<=k->Gz (run k .BO) d
 | 0,k,h=>by
   obtain ⟨j,rfl⟩:∃j,k=j + 1:=Nat.exists_eq_add_of_le' (by lia);exact Uv
 | d + 1,k,h=>by
   obtain ⟨j,rfl⟩:∃j,k=j + 1:=Nat.exists_eq_add_of_le' (by lia);exact Uw (LK d j (by lia))
theorem OQ:∀(n k:Nat),n<=k->Mu (run k .BP) n
 | 0,k,_=>UH
 | n + 1,k,h=>by
   obtain ⟨j,rfl⟩:∃j,k=j + 1:=Nat.exists_eq_add_of_le' (by lia);exact ZG (OQ n j (by lia))
theorem SU (k:Nat):OU (run (k + 1) .BC):=XG
theorem V2 (k:Nat):SE (run (k + 1) .Cc):=Yo
theorem Zs:StC (run 98 .Cd):=cF (LK 2 97 (by decide)) (V2 96)
theorem Tq:GrC (run 99 .BD):=ck Zs
theorem Oy (k:Nat):O5 (run (k + 1) .Cw):=Wj
theorem WM:SD (run 99 .C4):=V1 (Um 86) (OQ 3 98 (by decide))
theorem NH (k:Nat):L5 (run (k + 16) .B7):=TK (Sg k)
theorem TJ:OZ (run 99 .Cv):=TC (Vj 95)
theorem R9:Mo (run 99 .BV):=Rf (Oy 97)
theorem Vo:SC (run 99 .Bu):=VY (VU 85) (JQ 86) (Sv 86) (P6 85) (Oy 97) (NH 82)
theorem law_true (ns:List Int)(h:ns.length<=63):∃S',run 100 .law_ [.scr ns] []=some (.bl true,S'):=by
 obtain ⟨r,S',e,p⟩:=ao Vo R9 WM (NH 83) TJ (Ra 94) (SU 98) Tq (ns:=ns) (S:=[]);subst p;exact ⟨S',e⟩
end K80
namespace PySem.W.Fast
def tw10025286908312859763:=0
def tw10033971488630456944:=0
def tw10035169736274552604:=0
def tw10054418242825833852:=0
def tw10072158241002169854:=0
def tw10182438597701538772:=0
def tw10234312468039680183:=0
def tw10241828992799675856:=0
def tw10254479953543291177:=0
def tw10265077166475531546:=0
def tw10265120497217987579:=0
def tw10267910431523196757:=0
def tw10305793784748085981:=0
def tw10339679773372870871:=0
def tw10350046454645052422:=0
def tw10370198135010339458:=0
def tw10395445905272603053:=0
def tw10416245281020085244:=0
def tw1041644002978429212:=0
def tw10458507564635373695:=0
def tw10495235180151955171:=0
def tw10500639420205124510:=0
def tw10503169968786458445:=0
def tw10605338586921498061:=0
def tw10607675273808004494:=0
def tw10633802121981984444:=0
def tw10666034233102436837:=0
def tw10676549048460811867:=0
def tw10681829038945399313:=0
def tw10687608371428885406:=0
def tw10711510413305496794:=0
def tw10727876465940997772:=0
def tw10771698676188097928:=0
def tw10833000911092782078:=0
def tw10847314566938947704:=0
def tw1093923671012417973:=0
def tw10959734650232060490:=0
def tw10967493232912081876:=0
def tw10980571630195467108:=0
def tw11027226057119298330:=0
def tw11047698682106542628:=0
def tw1105381832096972198:=0
def tw11101803885637595766:=0
def tw11139865006371695674:=0
def tw11156613834193506571:=0
def tw11273993070717517190:=0
def tw11305252840433196139:=0
def tw11375134991240935835:=0
def tw11392861891524651379:=0
def tw11489287834041344431:=0
def tw11601818051287093822:=0
def tw11607344908414099224:=0
def tw11622135938578687370:=0
def tw11658275372251641325:=0
def tw1169849896902613670:=0
def tw11821208068549387503:=0
def tw11898751292589892694:=0
def tw11916208046653317695:=0
def tw12036153129963082219:=0
def tw12060793106926491235:=0
def tw12100401080776495154:=0
def tw12186156277902088105:=0
def tw12189123614519128807:=0
def tw12232722759295028358:=0
def tw12340804610594281067:=0
def tw12352423030102065874:=0
def tw12354053437388946805:=0
def tw12361063713247662069:=0
def tw12363704032187398394:=0
def tw12390880105868318521:=0
def tw12413207809867757256:=0
def tw12430679391318117098:=0
def tw12518559602419381670:=0
def tw1255614993105591350:=0
def tw12661611175991515842:=0
def tw12756804694845217696:=0
def tw12776318418588696957:=0
def tw12783360227937579793:=0
def tw1279206217755534197:=0
def tw12812018665792114949:=0
def tw12831220045048096095:=0
def tw12851218019380553707:=0
def tw12862764490342698765:=0
def tw12900510186061412468:=0
def tw13067114347984149862:=0
def tw1308367851305225036:=0
def tw13095243765432637345:=0
def tw13101975017791531393:=0
def tw13106097951588449836:=0
def tw131510947832121139:=0
def tw13250583319512403787:=0
def tw13302432505813226307:=0
def tw13303753106956145570:=0
def tw13317985885514128693:=0
def tw13358396162685628258:=0
def tw13384341533561178267:=0
def tw13505124447573416846:=0
def tw13513255469331027188:=0
def tw13611836245133841887:=0
def tw13618852492804868304:=0
def tw13620656270729366156:=0
def tw13814371949891048177:=0
def tw13833537962826643880:=0
def tw13850709156172240237:=0
def tw13852703388509950939:=0
def tw1395662278665112583:=0
def tw13961246630390018708:=0
def tw14020556526555104753:=0
def tw14030574303332642865:=0
def tw14069393117837696349:=0
def tw1409103328463465077:=0
def tw14116437531302191534:=0
def tw14132465810401571701:=0
def tw14133910195763489142:=0
def tw14145896737225615504:=0
def tw14206058900895578325:=0
def tw14284051501358475012:=0
def tw14294505920462405471:=0
def tw14353242019187383458:=0
def tw14353404905529096193:=0
def tw14424656107812283173:=0
def tw14425890570309738773:=0
def tw14439935544265108225:=0
def tw14465476812741651026:=0
def tw14516054114906987867:=0
def tw1453491523601072524:=0
def tw14585743716939171118:=0
def tw1462536244334258179:=0
def tw14649489104868300588:=0
def tw14664083687210521175:=0
def tw14701880963691815410:=0
def tw14747011672826533870:=0
def tw14773159113024119110:=0
def tw14811767728150764331:=0
def tw14869213341760634436:=0
def tw14954384990198288698:=0
def tw14976627692831491293:=0
def tw15022629298473096145:=0
def tw15030782266462690558:=0
def tw15044949882697277243:=0
def tw15088618246134974701:=0
def tw15158794549799632241:=0
def tw15234022933006689099:=0
def tw15294367265465736279:=0
def tw15303628300361101929:=0
def tw1536185500300731206:=0
def tw15397797258112455946:=0
def tw15405367332863474905:=0
def tw15416068507997179616:=0
def tw15422389533141380407:=0
def tw15427438181223320367:=0
def tw15437187017090925075:=0
def tw15450386945448283436:=0
def tw15455194502160227134:=0
def tw15492249427488173288:=0
def tw1549688667348864496:=0
def tw15562000110353073445:=0
def tw15622392153068721925:=0
def tw15670437499258276598:=0
def tw15730160619781913859:=0
def tw15787768481341190158:=0
def tw15806123594764935395:=0
def tw15818627591481295706:=0
def tw15845527679748790498:=0
def tw15922804907684290336:=0
def tw15964172636878733819:=0
def tw15970275366926909757:=0
def tw16058159846078043794:=0
def tw16067686373346478826:=0
def tw16118521945900370449:=0
def tw16136249883244135883:=0
def tw16177683858148623177:=0
def tw16231235401261258334:=0
def tw16319453956903955122:=0
def tw16340812566878852430:=0
def tw16350793521409380153:=0
def tw16413294439156069271:=0
def tw16450303782377436137:=0
def tw16474044011375665848:=0
def tw16474467971721483505:=0
def tw16660332848174153157:=0
def tw16745955514599052989:=0
def tw16935137209353898883:=0
def tw16981909218241465860:=0
def tw16995342110606883390:=0
def tw17006333786802753273:=0
def tw17014429270794732377:=0
def tw17053738018692107262:=0
def tw17101477465281472194:=0
def tw17153737130441587018:=0
def tw17246122767287539719:=0
def tw17267688820429772169:=0
def tw17353325660520605425:=0
def tw17420880253283706450:=0
def tw17511799110048176636:=0
def tw17565188892777556207:=0
def tw17591631100943014140:=0
def tw17661936852834032677:=0
def tw17685324371786193669:=0
def tw17700836363521739480:=0
def tw17709812064819947643:=0
def tw17737010053678996126:=0
def tw17753236195706555333:=0
def tw1776920978419429215:=0
def tw1782072053284703451:=0
def tw17828160138983312060:=0
def tw1782937992643149241:=0
def tw17933520400237669962:=0
def tw17974377744739972769:=0
def tw17997812130359578755:=0
def tw18062453059192085517:=0
def tw18126708852549764250:=0
def tw1815566045230952533:=0
def tw18254218337545771612:=0
def tw18263164024067159889:=0
def tw18306066848803193583:=0
def tw18308292977716436866:=0
def tw1841421718971750404:=0
def tw1884362184003640730:=0
def tw1897201548365327093:=0
def tw190103485040195420:=0
def tw1907448664356288246:=0
def tw1927683245953740457:=0
def tw1932070585562306762:=0
def tw2044259959584598853:=0
def tw2096648201759846957:=0
def tw2157762783512023163:=0
def tw2227469469302408526:=0
def tw2289986334715127815:=0
def tw2363975578220343943:=0
def tw2393344119121101187:=0
def tw2461380009869447468:=0
def tw2566810779184154555:=0
def tw2577376819567827965:=0
def tw2614971931237743285:=0
def tw2629981773538694392:=0
def tw2664461376491701640:=0
def tw2667988672781603956:=0
def tw2687486080928552995:=0
def tw2692670006910231247:=0
def tw2727773010085973953:=0
def tw2734709886790459952:=0
def tw2740723459828639264:=0
def tw2751806242460631797:=0
def tw2816129188501674775:=0
def tw2820569202239481381:=0
def tw2848508968913354761:=0
def tw2879408482501202781:=0
def tw2890069430901790062:=0
def tw2902461995852242050:=0
def tw2906833995932337411:=0
def tw2935028619834845390:=0
def tw2943136845968935374:=0
def tw2980947766235354008:=0
def tw3118067053229011675:=0
def tw3157832002532684767:=0
def tw3179843899107660044:=0
def tw3222583167271138576:=0
def tw3291993520695610957:=0
def tw333962944702109721:=0
def tw3350074188260135710:=0
def tw340592488637498492:=0
def tw343964278197586976:=0
def tw3495850506143996981:=0
def tw3509899999012283578:=0
def tw3526246041830413748:=0
def tw3532090450105648573:=0
def tw3590925531568047161:=0
def tw3650382038837297914:=0
def tw367538955296381708:=0
def tw374951841706540418:=0
def tw3753688348398090910:=0
def tw3754766155085350711:=0
def tw3840660628968735883:=0
def tw3884946145810925756:=0
def tw3887254952770682282:=0
def tw3965080816474966268:=0
def tw3998305572010133172:=0
def tw4041529747714100282:=0
def tw4173219068827174156:=0
def tw4200837974414276112:=0
def tw4261824497638628586:=0
def tw4292366328505958942:=0
def tw4327091807100732005:=0
def tw4517080011829184271:=0
def tw4528957900860499928:=0
def tw4569375984467157672:=0
def tw4609341970723936463:=0
def tw4621220940084785409:=0
def tw4690131073834082236:=0
def tw4694047078302894024:=0
def tw4713660207694211826:=0
def tw4722274576390024464:=0
def tw4723821351337633071:=0
def tw4736476937710467443:=0
def tw4781427921396899503:=0
def tw4847603242052868335:=0
def tw4859028843782247506:=0
def tw4871640897460501239:=0
def tw4874921029348357905:=0
def tw4925213727762183439:=0
def tw4993114610630254316:=0
def tw5044343266445344675:=0
def tw5048773704071613272:=0
def tw5058433219740469493:=0
def tw5088835628430060602:=0
def tw5105795561615790727:=0
def tw5121941193343135740:=0
def tw512875853835824832:=0
def tw518369792477120901:=0
def tw5184990050244327156:=0
def tw5220126289429622768:=0
def tw5239665953234028375:=0
def tw5252075945047974495:=0
def tw5262631704896257949:=0
def tw5282077380581030751:=0
def tw5301065745034756202:=0
def tw5374267075503227411:=0
def tw5376688816747463535:=0
def tw5399764195176797716:=0
def tw5415160177183792744:=0
def tw5484679627407874400:=0
def tw5535342642191265447:=0
def tw5537108595967861851:=0
def tw5588959462174424324:=0
def tw5649478908902751024:=0
def tw5665478835366948566:=0
def tw5665757781025496499:=0
def tw5689267324679609035:=0
def tw571423653739223675:=0
def tw5740006916667732525:=0
def tw5787425506410086850:=0
def tw5799200195688306963:=0
def tw5800470503931122894:=0
def tw5816149505509813886:=0
def tw5983911414599189390:=0
def tw6146029924683685554:=0
def tw6156625559539233233:=0
def tw6190614533568538933:=0
def tw6206064593586169650:=0
def tw634348537297396574:=0
def tw6345844279764193795:=0
def tw637571776626059599:=0
def tw6413696422939717899:=0
def tw6444066123631527790:=0
def tw6506593708573767949:=0
def tw6543833999752005824:=0
def tw6563276512340662179:=0
def tw6602544911018903499:=0
def tw662596985994060720:=0
def tw666732136859128697:=0
def tw6680986010626713158:=0
def tw6751394985359179406:=0
def tw6838301460141185432:=0
def tw6839643444163448716:=0
def tw6850690251155704766:=0
def tw6924935428231377782:=0
def tw6941726738358232875:=0
def tw6965912251529814294:=0
def tw7010801268832841982:=0
def tw7015127661544475929:=0
def tw7047371008553657875:=0
def tw7090699615157882782:=0
def tw7129535506144172910:=0
def tw7181272055174330666:=0
def tw7186425832392782322:=0
def tw7221268189224435893:=0
def tw7273426717578992342:=0
def tw7322175760549773024:=0
def tw738835584930902416:=0
def tw7419214464606396096:=0
def tw7422458459420180532:=0
def tw742474407300696471:=0
def tw7484273178511982831:=0
def tw7563703774682838365:=0
def tw7577240889106669433:=0
def tw7651979999105957242:=0
def tw7652866781289533740:=0
def tw7875998644301637470:=0
def tw79125260631848140:=0
def tw7918858490474480105:=0
def tw7934059093992806638:=0
def tw8066370010110368002:=0
def tw8135080626137544618:=0
def tw8213504269137288687:=0
def tw8224937915002408738:=0
def tw8272100988055492139:=0
def tw8340593153119966986:=0
def tw8387879859380637157:=0
def tw8399369015813326504:=0
def tw8436653576971511008:=0
def tw8498507396762540280:=0
def tw8499681438988826211:=0
def tw8535274615566640008:=0
def tw8544534200512484385:=0
def tw8605832439077205358:=0
def tw8619896729724476788:=0
def tw8640458344913087884:=0
def tw8649670971776701942:=0
def tw8692737902729360768:=0
def tw8794289113057734346:=0
def tw8803341240945720859:=0
def tw8829597228407045512:=0
def tw8854776064162981827:=0
def tw8927743401464183323:=0
def tw8977274796623233804:=0
def tw898993715758148258:=0
def tw8998962609510580433:=0
def tw9009200834257673174:=0
def tw9021309117414462899:=0
def tw9043443533715262469:=0
def tw9089246846255920575:=0
def tw9133925857801724879:=0
def tw9163642834346498370:=0
def tw9165251469851643099:=0
def tw921658938574682343:=0
def tw9254831836984216446:=0
def tw9316757122316016113:=0
def tw9335906871688389698:=0
def tw9348838110266013841:=0
def tw9348867072998600049:=0
def tw9384452483924312578:=0
def tw9402014318547565050:=0
def tw9414083755165001543:=0
def tw9420332784644420599:=0
def tw9429107344713702243:=0
def tw9473344224127267357:=0
def tw9484838300703050836:=0
def tw9498137499930423029:=0
def tw9500455155082775903:=0
def tw9501308749319001596:=0
def tw9507764285643894643:=0
def tw9533849806477008745:=0
def tw9534219583484538606:=0
def tw9572536342625741231:=0
def tw9632090398829952931:=0
def tw9697775126761332327:=0
def tw9708727717823301487:=0
def tw9711331060067634744:=0
def tw9762031375251609227:=0
def tw977137332188942074:=0
def tw9796073300228408587:=0
def tw9841126671050108906:=0
def tw9956204772572896892:=0
def tw9962731057456693972:=0
def tw9996922645356081582:=0
end PySem.W.Fast
open PySem PySem.W PyProof.Rows
set_option maxRecDepth 100000 in
set_option maxHeartbeats 0 in
theorem PySem.Challenge.cw_wireparley_k80_whole_lost_and_gone_on_holds : PySem.Challenge.rw_wireparley_k80_whole_lost_and_gone_on.Holds := by
 w_on;o_law;k_head;(case hw=>w_witness2)
 k_fill
 refine K80.walk (l:=PySem.Challenge.rw_wireparley_k80_whole_lost_and_gone_on) 100 ⟨rfl,by decide,by decide⟩ rfl rfl (λw h Y=>PySem.W.kIn_of Y) K80.law_true ?F
 case F=>
  intro w mg fa h KX G hmg;refine' K80.fin_mk KX G hmg ?H ?fY ?fW ?eT ?g7 ?eR ?gE ?fP ?gG ?fK ?gF ?fN ?eO ?eP ?eM ?f8 ?xm ?gK ?gJ ?g6 ?gN ?gW ?eZ ?eS ?eL ?gQ ?gB ?gC ?fA ?f7 ?eW ?eX ?eQ ?eV ?f9 ?fJ ?eU ?gI ?gU
  (case H=>intro x;cases x <;> first | (refine' K80.at_mk rfl ?a ?l ?c ?k;(case a=>k_is);(case l=>k_is);(case c=>k_is);(case k=>k_is)) | (refine' K80.XA rfl ?h ?a ?l ?c ?k ?t;(case h=>k_is);(case a=>k_is);(case l=>k_is);(case c=>k_is);(case k=>k_is);(case t=>k_is)))
  (case gK=>k_is)
  (case gJ=>k_is)
  (case g6=>k_is)
  (case gN=>k_is)
  (case gW=>k_is)
  (case eZ=>k_is)
  (case eS=>k_is)
  (case eL=>k_is)
  (case gQ=>kernel_rfl)
  (case gB=>kernel_rfl)
  (case gC=>kernel_rfl)
  (case fA=>kernel_rfl)
  (case f7=>kernel_rfl)
  (case eW=>kernel_rfl)
  (case eX=>kernel_rfl)
  (case eQ=>kernel_rfl)
  (case eV=>kernel_rfl)
  (case f9=>kernel_rfl)
  (case fJ=>kernel_rfl)
  (case eU=>kernel_rfl)
  (case gI=>kernel_rfl)
  (case gU=>kernel_rfl)
  (case fY=>k_is)
  (case fW=>k_is)
  (case eT=>k_is)
  (case g7=>k_is)
  (case eR=>k_is)
  (case gE=>k_is)
  (case fP=>k_is)
  (case gG=>k_is)
  (case fK=>k_is)
  (case gF=>k_is)
  (case fN=>k_is)
  (case eO=>k_is)
  (case eP=>k_is)
  (case eM=>k_is)
  (case f8=>k_is)
  (case xm=>refine' K80.xm_all KX G ?x_p ?x_a1 ?x_a2 ?x_a3 ?x_a4 ?x_q ?x_nd ?x_fi ?x_l ?x_ii ?x_hf ?x_hs ?x_cc ?x_k ?y_fi ?y_l ?y_ii ?y_hf ?y_hs ?y_cc ?y_k ?x_n4 ?x_n1;(case x_p=>k_is);(case x_a1=>k_is);(case x_a2=>k_is);(case x_a3=>k_is);(case x_a4=>k_is);(case x_q=>kernel_rfl);(case x_nd=>decide);(case x_fi=>k_is);(case x_l=>k_is);(case x_ii=>kernel_rfl);(case x_hf=>k_is);(case x_hs=>k_is);(case x_cc=>k_is);(case x_k=>k_is);(case y_fi=>k_is);(case y_l=>k_is);(case y_ii=>kernel_rfl);(case y_hf=>k_is);(case y_hs=>k_is);(case y_cc=>k_is);(case y_k=>k_is);(case x_n4=>kernel_rfl);(case x_n1=>kernel_rfl))
