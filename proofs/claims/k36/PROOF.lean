import PyProof.Rows.All
import Wide.All
import OpenK.AllK
import Wide.FinOn
import Lean
import PyProof.EqAt
import PyProof.EqKinds
import PyProof.TupleCall
import PyProof.NeKinds
import PyProof.ListMulRoad
import PyProof.MaxThree
import PyProof.Rows.StrJoinMade
import PyProof.ListStr
import PyProof.Rows.MinMaxN
import PyProof.Rows.Range3
import PyProof.ListRange
import PyProof.Rows.SetFrom
import PyProof.Rows.StrCase
import PyProof.SumAny
import PyProof.AutoIntG2
import PyProof.AutoListH
import PyProof.EnumStmt
import PyProof.EnumFor
import PyProof.EnumMake
import PyProof.Rows.EnumRows
import PyProof.ConsumeS
import PyProof.Rows.SortWalk
import KE.KDictSum
import PyProof.ZipIter
import KE.KEqDict
import PyProof.ExcClass2
import PyProof.RaisesMany
import PyProof.ExcBaseAll.ValueError
import PyProof.RulesDel
import PyProof.RulesAs
import PyProof.ExcArgs
import KE.KDictOf
import PyProof.AttrMissHeap
import KE.KMinKey
import PyProof.Rows.CallKwBuiltin
import KE.KRevIter
import PyProof.StrBlock
import PySem.Challenge.RW_wireparley_k36_sides_say_and_take
noncomputable section
abbrev ua0:=@List.findIdx?_eq_some_iff_getElem
abbrev ua1:=@Array.getElem?_setIfInBounds_ne
abbrev ua2:=@List.eq_nil_of_length_eq_zero
abbrev ua3:=@PyProof.Rows.callWith_type1
abbrev ua4:=@PySem.F.slot_int_bit_length
abbrev ua5:=@List.getElem?_append_right
abbrev ua6:=@PySem.F.excBase_ValueError
abbrev ua7:=@Array.getElem?_eq_some_iff
abbrev ua8:=@List.getD_eq_getElem?_getD
abbrev ua9:=@List.getElem?_eq_some_iff
abbrev ub0:=@List.getElem?_append_left
abbrev ub1:=@List.drop_eq_getElem_cons
abbrev ub2:=@List.getElem?_eq_none_iff
abbrev ub3:=@List.getElem?_eq_getElem
abbrev ub4:=@Array.size_setIfInBounds
abbrev ub5:=@List.getElem?_replicate
abbrev ub6:=@PySem.F.plainAttrs_list
abbrev ub7:=@Int.eq_ofNat_of_zero_le
abbrev ub8:=@List.getElem?_set_self
abbrev ub9:=@PySem.Heap.get?_push_of_some
abbrev uc0:=@PySem.W.cellsFrom_some
abbrev uc1:=@PySem.Heap.get?_update_other
abbrev uc2:=@Option.map_eq_some_iff
abbrev uc3:=@List.take_of_length_le
abbrev uc4:=@Nat.div_div_eq_div_mul
abbrev uc5:=@Nat.le_of_succ_le_succ
abbrev uc6:=@List.drop_eq_nil_of_le
abbrev uc7:=@List.mem_append_right
abbrev uc8:=@PySem.W.methodCall_KW
abbrev uc9:=@List.length_replicate
abbrev ud0:=@PySem.Heap.get?_update_self
abbrev ud1:=@List.getElem?_eq_none
abbrev ud2:=@List.mem_cons_of_mem
abbrev ud3:=@List.getElem?_set_ne
abbrev ud4:=@List.mem_of_getElem?
abbrev ud5:=@List.filterMap_cons
abbrev ud6:=@Array.length_toList
abbrev ud7:=@PySem.Heap.get?_push_size
abbrev ud8:=@PySem.W.plainGet_of
abbrev ud9:=@List.replicate_succ
abbrev ue0:=@List.map_congr_left
abbrev ue1:=@Nat.lt_of_lt_of_le
abbrev ue2:=@List.mem_cons_self
abbrev ue3:=@Bool.false_ne_true
abbrev ue4:=@Array.find?_toList
abbrev ue5:=@PySem.W.callWith_K
abbrev ue6:=@List.length_append
abbrev ue7:=@Bool.false_eq_true
abbrev ue8:=@List.mem_singleton
abbrev ue9:=@List.getElem?_take
abbrev uf0:=@Int.emod_lt_of_pos
abbrev uf1:=@PySem.W.mg_none_of
abbrev uf2:=@List.size_toArray
abbrev uf3:=@List.getElem?_map
abbrev uf4:=@Int.toNat_natCast
abbrev uf5:=@List.flatten_cons
abbrev uf6:=@List.append_assoc
abbrev uf7:=@Bool.eq_false_iff
abbrev uf8:=@List.getElem?_set
abbrev uf9:=@Option.some.injEq
abbrev ug0:=@List.reverse_cons
abbrev ug1:=@decide_eq_true_eq
abbrev ug2:=@of_decide_eq_true
abbrev ug3:=@List.getElem_inj
abbrev ug4:=@List.length_cons
abbrev ug5:=@Nat.lt_succ_self
abbrev ug6:=@List.length_take
abbrev ug7:=@List.length_drop
abbrev ug8:=@List.lookup_cons
abbrev ug9:=@List.drop_length
abbrev uh0:=@Bool.and_eq_true
abbrev uh1:=@Nat.le_add_right
abbrev uh2:=@List.all_eq_true
abbrev uh3:=@List.not_mem_nil
abbrev uh4:=@List.getElem_mem
abbrev uh5:=@beq_self_eq_true
abbrev uh6:=@List.mem_filter
abbrev uh7:=@List.mem_append
abbrev uh8:=@Option.some.inj
abbrev uh9:=@List.length_map
abbrev ui0:=@PySem.W.kia_one
abbrev ui1:=@List.append_nil
abbrev ui2:=@List.nodup_cons
abbrev ui3:=@List.of_mem_zip
abbrev ui4:=@List.find?_cons
abbrev ui5:=@List.length_nil
abbrev ui6:=@Option.map_some
abbrev ui7:=@List.map_append
abbrev ui8:=@List.length_set
abbrev ui9:=@Int.emod_nonneg
abbrev uj0:=@decide_eq_false
abbrev uj1:=@List.mem_range
abbrev uj2:=@Bool.false_and
abbrev uj3:=@PySem.Heap.size_push
abbrev uj4:=@Bool.and_false
abbrev uj5:=@List.drop_zero
abbrev uj6:=@decide_eq_true
abbrev uj7:=@Nat.lt_irrefl
abbrev uj8:=@List.mem_cons
abbrev uj9:=@List.map_cons
abbrev uk0:=@Bool.or_false
abbrev uk1:=@List.any_cons
abbrev uk2:=@List.all_cons
abbrev uk3:=@Bool.false_or
abbrev uk4:=@Bool.true_and
abbrev uk5:=@Nat.add_assoc
abbrev uk6:=@Bool.and_self
abbrev uk7:=@PySem.W.mg_of
abbrev uk8:=@PySem.wpAny_holding
abbrev uk9:=@PySem.Heap.lt_size
abbrev ul0:=@Nat.ne_of_lt
abbrev ul1:=@Nat.le_trans
abbrev ul2:=@Nat.ne_of_gt
abbrev ul3:=@List.map_nil
abbrev ul4:=@Nat.pow_succ
abbrev ul5:=@List.mem_map
abbrev ul6:=@Nat.lt_or_ge
abbrev ul7:=@Nat.sub_self
abbrev ul8:=@List.set_set
abbrev ul9:=@Nat.le_refl
abbrev um0:=@Nat.zero_le
abbrev um1:=@Nat.le_succ
abbrev um2:=@PySem.wpAny_field
abbrev um3:=@PySem.wpAny_bind
abbrev um4:=@PySem.wpAny_pure
abbrev um5:=@PySem.wpAny_mono
set_option Elab.async false
set_option linter.all false
set_option maxRecDepth 100000
local macro_rules | `(tactic| walk_at "h") => `(tactic| first | exact Or.inl rfl | exact Or.inr rfl | exact Or.inr (Or.inl rfl) | exact Or.inr (Or.inr rfl) | assumption)
namespace L2
open PySem PySem.Spec PyProof.Rows
abbrev Key:=Sum Int Str
noncomputable def Hy:Key->Value->Bool
 | .inl k,v=>Value.isInt k v
 | .inr x,v=>Value.isStrOf x v
noncomputable def ZM (w:World):Key->Int
 | .inl k=>hashInt k
 | .inr x=>hashStr w x
theorem BJ:∀{k:Key} {v:Value},Hy k v=true->(∃i t,k=Sum.inl i/\v=Value.int i t)\/(∃x t,k=Sum.inr x/\v=Value.str x t)
 | .inl i,v,h=>by
   obtain ⟨t,e⟩:=Value.isInt_shape (k:=i) (v:=v) h;exact .inl ⟨i,t,rfl,e⟩
 | .inr x,v,h=>by
   obtain ⟨t,e⟩:=Value.isStrOf_shape (x:=x) (v:=v) h;exact .inr ⟨x,t,rfl,e⟩
theorem Pk (i:Int)(t:Tok):Hy (.inl i) (.int i t)=true:=by simp [Hy,Value.isInt]
theorem Pn (x:Str)(t:Tok):Hy (.inr x) (.str x t)=true:=by simp [Hy,Value.isStrOf]
theorem Wv (a b:Int):decide ((Sum.inl a:Key)=Sum.inl b)=(a == b):=by
 by_cases e:a=b
 ·subst e;simp
 ·have h:¬(Sum.inl a:Key)=Sum.inl b:=λq=>e (Sum.inl.inj q);rw [uj0 h];exact (beq_eq_false_iff_ne.mpr e).symm
theorem Wy (a b:Str):decide ((Sum.inr a:Key)=Sum.inr b)=decide (a=b):=by
 by_cases e:a=b
 ·subst e;simp
 ·have h:¬(Sum.inr a:Key)=Sum.inr b:=λq=>e (Sum.inr.inj q);rw [uj0 h,uj0 e]
theorem Ww (a:Int)(b:Str):decide ((Sum.inl a:Key)=Sum.inr b)=false:=uj0 (λq=>nomatch q)
theorem Wx (a:Str)(b:Int):decide ((Sum.inr a:Key)=Sum.inl b)=false:=uj0 (λq=>nomatch q)
def BG (prog:Program)(w:World):PySem.KeyKind prog w Key where
 is:=Hy
 hash:=ZM w
 inj:=λv a b ha hb=>by
  rcases BJ ha with ⟨i,t,rfl,rfl⟩ | ⟨x,t,rfl,rfl⟩
  ·rcases BJ hb with ⟨j,u,rfl,e⟩ | ⟨y,u,rfl,e⟩
   ·injection e with e1 _;rw [e1]
   ·exact nomatch e
  ·rcases BJ hb with ⟨j,u,rfl,e⟩ | ⟨y,u,rfl,e⟩
   ·exact nomatch e
   ·injection e with e1 _;rw [e1]
 byValue:=λk v h=>by
  rcases BJ h with ⟨i,t,rfl,rfl⟩ | ⟨x,t,rfl,rfl⟩ <;> rfl
 pyHash:=λhv h=>by
  rcases BJ hv with ⟨i,t,rfl,rfl⟩ | ⟨x,t,rfl,rfl⟩
  ·exact wpAny_pyHash_int h
  ·exact wpAny_pyHash_str h
 eqBool:=λhu hv h=>by
  rcases BJ hu with ⟨i,t,rfl,rfl⟩ | ⟨x,t,rfl,rfl⟩
  ·rcases BJ hv with ⟨j,u,rfl,rfl⟩ | ⟨y,u,rfl,rfl⟩
   ·rw [Wv] at h;exact wpAny_eqBool_int h
   ·rw [Ww] at h;exact SeqAt.EqAt.int_str i t y u _ _ _ _ h
  ·rcases BJ hv with ⟨j,u,rfl,rfl⟩ | ⟨y,u,rfl,rfl⟩
   ·rw [Wx] at h;exact SeqAt.EqAt.str_int x t j u _ _ _ _ h
   ·rw [Wy] at h;exact wpAny_eqBool_str h
 «strs»:=λk x t v h=>by
  rcases BJ h with ⟨i,u,rfl,e⟩ | ⟨y,u,rfl,e⟩
  ·exact nomatch e
  ·injection e with e1 _
   subst e1
   cases v <;> rfl
theorem Mz (prog:Program)(w:World)(i:Int)(t:Tok):(BG prog w).is (.inl i) (.int i t)=true:=Pk i t
theorem MA (prog:Program)(w:World)(x:Str)(t:Tok):(BG prog w).is (.inr x) (.str x t)=true:=Pn x t
inductive V where
 | non | bl (b:Bool) | int (i:Int) | str (x:Str) | byt (b:Array UInt8) | flt (b:UInt64) | ref (a:Addr) | ty (n:String)
 deriving DecidableEq
noncomputable def RelV:V->Value->Prop
 | .non,u=>u=Value.none
 | .bl b,u=>u=Value.bool b
 | .int i,u=>∃t,u=Value.int i t
 | .str x,u=>∃t,u=Value.str x t
 | .byt b,u=>∃t,u=Value.bytes b t
 | .flt b,u=>∃t,u=Value.float b t
 | .ref a,u=>u=Value.ref a
 | .ty n,u=>u=Value.type n
abbrev Vals:List V->List Value->Prop:=Paired RelV
theorem Vals.length {xs:List V}{us:List Value}(r:Vals xs us):xs.length=us.length:=Paired.length r
theorem Vals.get:∀{xs:List V} {us:List Value} {i:Nat} {x:V},Vals xs us->xs[i]?=some x->∃u,us[i]?=some u/\RelV x u
 | _,_,_,_,.nil,e=>by simp at e
 | _,_,0,_,.cons r _,e=>by simp at e;subst e;exact ⟨_,rfl,r⟩
 | _,_,i + 1,x,.cons _ t,e=>by
   obtain ⟨u,h1,h2⟩:=Vals.get (i:=i) (x:=x) t (by simpa using e);exact ⟨u,by simpa using h1,h2⟩
theorem Vals.append {xs ys:List V}{us ws:List Value}(r:Vals xs us)(s:Vals ys ws):Vals (xs++ys) (us++ws):=by
 cases r with
 | nil=>exact s
 | cons r t=>exact .cons r (Vals.append t s)
theorem Vals.take:∀{xs:List V} {us:List Value} (n:Nat),Vals xs us->Vals (xs.take n) (us.take n)
 | _,_,0,_=>.nil
 | _,_,_ + 1,.nil=>.nil
 | _,_,n + 1,.cons r t=>.cons r (Vals.take n t)
theorem Vals.drop:∀{xs:List V} {us:List Value} (n:Nat),Vals xs us->Vals (xs.drop n) (us.drop n)
 | _,_,0,r=>r
 | _,_,_ + 1,.nil=>.nil
 | _,_,n + 1,.cons _ t=>Vals.drop n t
def RelO:Option V->Option Value->Prop
 | some v,some u=>RelV v u
 | none,none=>True
 | _,_=>False
def KV {κ:Type}:List (κ×V)->List (κ×Value)->Prop:=Paired λ(p:κ×V) (q:κ×Value)=>p.1=q.1/\RelV p.2 q.2
noncomputable def kV:Key->V
 | .inl i=>.int i
 | .inr x=>.str x
inductive HO where
 /-- a list -/
 | lst (xs:List V)
 /-- a tuple (never changes) -/
 | tup (xs:List V)
 /-- a dict whose keys are ints and texts;one whose keys are tuples of ints and texts (the empty one is both) -/
 | dK (kvs:List (Key×V)) | dT (kvs:List (List Key×V))
 /-- a set of ints: its members,its size -/
 | set (S:Int->Bool) (n:Nat)
 /-- an instance of the class at C,its dict at dx,its attributes -/
 | ins (C dx:Addr) (fs:List (Str×V))
 /-- the dict of the instance at x -/
 | own (x:Addr)
 /-- the dict of an exception -/
 | xd (fs:List (Str×V))
 /-- a bound method,f of x -/
 | met (f x:Addr)
 /-- a range object lo,lo + 1,.. below hi -/
 | rng (lo hi:Int)
 /-- a thing that is known to the object (the script;a dict while a loop walks it): read,never written while it is so -/
 | frz (o:Obj) (u:HO)
 /-- a code object's table -/
 | tbl (ps:Array Value)
 /-- any other thing,by what is true of its one object (a def of one's own: SetO a S n:=HO.ext λh=>..) -/
 | ext (φ:Heap->Prop)
abbrev Hp:=Addr->Option HO
noncomputable def upd (H:Hp)(a:Addr)(o:HO):Hp:=λb=>if b=a then some o else H b
variable {H:Hp}{a:Addr}
theorem Ak {o:HO}:upd H a o a=some o:=by unfold upd;rw [if_pos rfl]
variable {b:Addr}
theorem Ag {o:HO}(h:b≠a):upd H a o b=H b:=by unfold upd;rw [if_neg h]
theorem Kb {o u:HO}:upd (upd H a o) a u=upd H a u:=by
 funext b;unfold upd;split <;> rfl
theorem AE {o:HO}(h:H a=some o)(h':H b=none):a≠b:=by
 intro e;subst e;rw [h] at h';cases h'
section
variable (P:Program)(w:World)
def ObjOk (H:Hp)(h:Heap)(a:Addr):HO->Prop
 | .lst xs=>xs.length<=sizeLine/\∃(its:List Value) (n:Nat),Vals xs its/\h.get? a=some { cls:=.type "list",data:=.seq its.toArray n }
 | .tup xs=>xs.length<=sizeLine/\∃its:List Value,Vals xs its/\IsTup h a its.toArray
 | .dK kvs=>kvs.length<=sizeLine/\(a == sysModules)=false/\∃vs,KV kvs vs/\h.DictOf (BG P w) a vs
 | .dT kvs=>kvs.length<=sizeLine/\(a == sysModules)=false/\∃xs:List (List Key×Addr×Value),
    Paired (λ(p:List Key×V) (q:List Key×Addr×Value)=>p.1=q.1/\H q.2.1=some (.tup (p.1.map kV))/\RelV p.2 q.2.2) kvs xs/\
    ∃o es ep,h.get? a=some o/\o.ExactDict/\o.data = .dict es ep/\es.toList=xs.map (entryOfKey (tupleKind (BG P w)))/\(xs.map (·.1)).Nodup
 | .set S n=>h.SetOf (intKind P w) a S n
 | .ins C dx fs=>H dx=some (.own a)/\fs.length<=1000/\dx≠a/\h.get? a=some (PySem.W.instObj C dx)/\
    ∃mA,h.Ns1 dx mA/\(∀f,RelO (fs.lookup f) (mA f))/\PySem.Within mA (fs.map (·.1))
 | .own _=>∃o,h.get? a=some o
 | .xd fs=>∃mA,h.Ns1 a mA/\∀f,RelO (fs.lookup f) (mA f)
 | .rng lo hi=>∃t u v,h.get? a=some { cls:=.type "range",data:=.fields #[.int lo t,.int hi u,.int 1 v] }
 | .frz o u=>h.get? a=some o/\ObjOk H h a u
 | .tbl ps=>h.get? a=some { cls:=.none,data:=.fields ps }
 | .met f x=>h.get? a=some (PySem.W.methodObj (.ref f) (.ref x))
 | .ext φ=>φ h/\(∃o,h.get? a=some o)/\∀h1 h2:Heap,φ h1->(∀o,h1.get? a=some o->h2.get? a=some o)->φ h2
def HOk (H:Hp)(h:Heap):Prop:=∀a o,H a=some o->ObjOk P w H h a o
end
section
variable {P:Program}{w:World}{H H':Hp}{h h':Heap}{a:Addr}{o:HO}
theorem ObjOk.lt (x:ObjOk P w H h a o):a < h.objs.size:=by
 cases o with
 | lst xs=>obtain ⟨_,_,_,_,e⟩:=x;exact uk9 e
 | tup xs=>obtain ⟨_,_,_,p⟩:=x;exact p.lt
 | dK kvs=>obtain ⟨_,_,_,_,o,_,_,e,_⟩:=x;exact uk9 e
 | dT kvs=>obtain ⟨_,_,_,_,o,_,_,e,_⟩:=x;exact uk9 e
 | set S n=>obtain ⟨o,_,_,_,e,_⟩:=x;exact uk9 e
 | ins C dx fs=>obtain ⟨_,_,_,e,_⟩:=x;exact uk9 e
 | own y=>obtain ⟨_,e⟩:=x;exact uk9 e
 | xd fs=>obtain ⟨_,⟨_,_,_,e,_⟩,_⟩:=x;exact uk9 e
 | rng lo hi=>obtain ⟨_,_,_,e⟩:=x;exact uk9 e
 | frz ob u=>obtain ⟨e,_⟩:=x;exact uk9 e
 | tbl ps=>exact uk9 (show h.get? a=some _ from x)
 | met f y=>exact uk9 (show h.get? a=some _ from x)
 | ext φ=>obtain ⟨_,⟨_,e⟩,_⟩:=x;exact uk9 e
theorem Paired.mapP {α β:Type}{F G:α->β->Prop}:∀{l₁:List α} {l₂:List β},Paired F l₁ l₂->(∀a b,F a b->G a b)->Paired G l₁ l₂
 | _,_,.nil,_=>.nil
 | _,_,.cons r t,f=>.cons (f _ _ r) (Paired.mapP t f)
theorem ObjOk.stay (x:ObjOk P w H h a o)(k:∀b u,(b=a\/H b=some (.own a))->h.get? b=some u->h'.get? b=some u)
 (ho:∀b,H b=some (.own a)->H' b=some (.own a)) (ht:∀b xs,H b=some (.tup xs)->H' b=some (.tup xs)):ObjOk P w H' h' a o:=by
 induction o with
 | lst xs=>obtain ⟨z,its,n,r,e⟩:=x;exact ⟨z,its,n,r,k _ _ (.inl rfl) e⟩
 | tup xs=>obtain ⟨z,its,r,ob,e,c⟩:=x;exact ⟨z,its,r,ob,k _ _ (.inl rfl) e,c⟩
 | dK kvs=>obtain ⟨z,y,vs,r,ob,es,ep,e,c⟩:=x;exact ⟨z,y,vs,r,ob,es,ep,k _ _ (.inl rfl) e,c⟩
 | dT kvs=>
   obtain ⟨z,y,xs,r,ob,es,ep,e,c⟩:=x;exact ⟨z,y,xs,Paired.mapP r λp q z=>⟨z.1,ht _ _ z.2.1,z.2.2⟩,ob,es,ep,k _ _ (.inl rfl) e,c⟩
 | set S n=>obtain ⟨ob,es,ep,t,e,c⟩:=x;exact ⟨ob,es,ep,t,k _ _ (.inl rfl) e,c⟩
 | ins C dx fs=>
   obtain ⟨d,z,ne,e,mA,⟨od,es,ep,e2,c⟩,r⟩:=x;exact ⟨ho _ d,z,ne,k _ _ (.inl rfl) e,mA,⟨od,es,ep,k _ _ (.inr d) e2,c⟩,r⟩
 | own y=>obtain ⟨ob,e⟩:=x;exact ⟨ob,k _ _ (.inl rfl) e⟩
 | xd fs=>obtain ⟨mA,⟨od,es,ep,e,c⟩,r⟩:=x;exact ⟨mA,⟨od,es,ep,k _ _ (.inl rfl) e,c⟩,r⟩
 | rng lo hi=>obtain ⟨t,u,v,e⟩:=x;exact ⟨t,u,v,k _ _ (.inl rfl) e⟩
 | frz ob u ih=>obtain ⟨e,q⟩:=x;exact ⟨k _ _ (.inl rfl) e,ih q⟩
 | tbl ps=>
   have e:h.get? a=some { cls:=.none,data:=.fields ps }:=x;show h'.get? a=some { cls:=.none,data:=.fields ps };exact k a _ (.inl rfl) e
 | met f y=>
   have e:h.get? a=some (PySem.W.methodObj (.ref f) (.ref y)):=x;show h'.get? a=some (PySem.W.methodObj (.ref f) (.ref y));exact k a _ (.inl rfl) e
 | ext φ=>obtain ⟨p,⟨o,e⟩,st⟩:=x;exact ⟨st _ _ p λo q=>k _ _ (.inl rfl) q,⟨o,k _ _ (.inl rfl) e⟩,st⟩
theorem HOk.lt (x:HOk P w H h)(e:H a=some o):a < h.objs.size:=(x a o e).lt
theorem HOk.fresh (x:HOk P w H h)(e:h.objs.size<=a):H a=none:=by
 cases q:H a with
 | none=>rfl
 | some u=>exact absurd (ue1 (x.lt q) e) (uj7 _)
theorem HOk.kept (x:HOk P w H h)(k:∀b u,h.get? b=some u->h'.get? b=some u):HOk P w H h':=λa o e=>
 (x a o e).stay (λb u _ q=>k b u q) (λ_ q=>q) λ_ _ q=>q
theorem HOk.laid (x:HOk P w H h)(k:∀b u,h.get? b=some u->h'.get? b=some u)(hp:h.objs.size<=a)(new:ObjOk P w (upd H a o) h' a o):HOk P w (upd H a o) h':=λb u e=>by
 have hn:=x.fresh hp
 by_cases hb:b=a
 ·subst hb;rw [Ak] at e;cases e;exact new
 ·rw [Ag hb] at e;exact (x b u e).stay (λc v _ q=>k c v q) (λc q=>by rw [Ag (AE q hn)];exact q) λc xs q=>by rw [Ag (AE q hn)];exact q
end
noncomputable def Rd (H:Hp)(a:Addr)(u:HO):Prop:=H a=some u\/∃o,H a=some (.frz o u)
variable {P:Program}{w:World}{h:Heap}
theorem Rd.ok {u:HO}(r:Rd H a u)(x:HOk P w H h):ObjOk P w H h a u:=by
 rcases r with r | ⟨o,r⟩
 ·exact x a u r
 ·obtain ⟨_,q⟩:=x a _ r;exact q
def Mut:Option HO->Prop
 | some (.lst _)=>True
 | some (.dK _)=>True
 | some (.dT _)=>True
 | some (.set _ _)=>True
 | some (.ins _ _ _)=>True
 | some (.ext _)=>True
 | _=>False
section
variable {P:Program}{w:World}{H:Hp}{h h':Heap}{x e:Addr}{o':HO}
theorem HOk.write (ok:HOk P w H h)(mu:Mut (H x))(he:e=x\/H e=some (.own x))(k:∀b u,b≠e->h.get? b=some u->h'.get? b=some u)(heo:∃u,h'.get? e=some u)
 (new:ObjOk P w (upd H x o') h' x o'):HOk P w (upd H x o') h':=λb u q=>by
 have nown:∀c y,H c=some (.own y)->c≠x:=λc y r z=>by subst z;rw [r] at mu;exact mu
 have ntup:∀c xs,H c=some (.tup xs)->c≠x:=λc xs r z=>by subst z;rw [r] at mu;exact mu
 by_cases hb:b=x
 ·subst hb;rw [Ak] at q;cases q;exact new
 ·rw [Ag hb] at q
  by_cases hbe:b=e
  ·have q':H b=some (.own x):=by
    rcases he with z | z
    ·exact absurd (hbe.trans z) hb
    ·rw [hbe];exact z
   rw [q] at q';cases q'
   obtain ⟨v,hv⟩:=heo;exact ⟨v,by rw [hbe];exact hv⟩
  ·refine (ok b u q).stay (λc v hc r=>k c v ?_ r) (λc r=>by rw [Ag (nown c b r)];exact r) λc xs r=>by rw [Ag (ntup c xs r)];exact r
   rcases hc with rfl | hc
   ·exact hbe
   ·rintro rfl;rcases he with z | z
    ·exact nown c b hc z
    ·rw [hc] at z;cases z;exact hb rfl
end
structure Un (fs ex:List Addr)(H H':Hp)(h h':Heap):Prop where
 keep:∀b o,h.get? b=some o->H b=none->b∉fs->b∉ex->h'.get? b=some o
 slot:∀b o,h.get? b=some o->H b=none->b∈fs->b∉ex->∃sl,h'.get? b=some { o with slots:=sl }
 free:∀b o,h.get? b=some o->H b=none->b∉ex->H' b=none
 there:∀b o,h.get? b=some o->b∉ex->∃o',h'.get? b=some o'
 tups:∀b xs,H b=some (.tup xs)->H' b=some (.tup xs)
 frzs:∀b o u,H b=some (.frz o u)->H' b=some (.frz o u)
 tbls:∀b ps,H b=some (.tbl ps)->∃more,H' b=some (.tbl (ps++more))
section
variable {fs fs' ex ex':List Addr}{H H1 H2:Hp}{h h1 h2 h':Heap}{a x e:Addr}{o:HO}
theorem Un.any (u:Un fs ex H H1 h h1){b:Addr}{ob:Obj}(q:h.get? b=some ob)(n:H b=none)(hx:b∉ex):∃sl,h1.get? b=some { ob with slots:=sl }:=by
 by_cases hb:b∈fs
 ·exact u.slot b ob q n hb hx
 ·exact ⟨ob.slots,u.keep b ob q n hb hx⟩
theorem Un.kept (k:∀b u,h.get? b=some u->h'.get? b=some u):Un fs ex H H h h':=
 ⟨λb ob q _ _ _=>k b ob q,λb ob q _ _ _=>⟨ob.slots,k b ob q⟩,λ_ _ _ n _=>n,λb ob q _=>⟨ob,k b ob q⟩,λ_ _ q=>q,λ_ _ _ q=>q,λ_ ps q=>⟨#[],by rw [q];simp⟩⟩
theorem Un.refl:Un fs ex H H h h:=Un.kept λ_ _ q=>q
theorem Un.laid (k:∀b u,h.get? b=some u->h'.get? b=some u)(hp:h.objs.size<=a)(hn:H a=none):Un fs ex H (upd H a o) h h' where
 keep:=λb u q _ _ _=>k b u q
 slot:=λb u q _ _ _=>⟨u.slots,k b u q⟩
 free:=λb u q n _=>by rw [Ag (ul0 (ue1 (uk9 q) hp))];exact n
 there:=λb u q _=>⟨u,k b u q⟩
 tups:=λb xs q=>by rw [Ag (AE q hn)];exact q
 frzs:=λb u xs q=>by rw [Ag (AE q hn)];exact q
 tbls:=λb ps q=>⟨#[],by rw [Ag (AE q hn),q];simp⟩
theorem Un.write (mu:Mut (H x))(he:e=x\/H e=some (.own x))(k:∀b u,b≠e->h.get? b=some u->h'.get? b=some u)(heo:∃u,h'.get? e=some u):Un fs ex H (upd H x o) h h':=by
 have hx:∀b,H b=none->b≠x:=λb n z=>by subst z;rw [n] at mu;exact mu
 have hb:∀b,H b=none->b≠e:=λb n z=>by
  subst z;rcases he with r | r
  ·exact hx b n r
  ·rw [n] at r;cases r
 have hm:∀b u,H b=some u->¬Mut (some u)->b≠x:=λb u q nm z=>by subst z;rw [q] at mu;exact nm mu
 refine ⟨λb u q n _ _=>k b u (hb b n) q,λb u q n _ _=>⟨u.slots,k b u (hb b n) q⟩,λb u q n _=>by rw [Ag (hx b n)];exact n,λb u q _=>?_,
  λb xs q=>by rw [Ag (hm b _ q λz=>z)];exact q,λb u xs q=>by rw [Ag (hm b _ q λz=>z)];exact q,λb ps q=>⟨#[],by rw [Ag (hm b _ q λz=>z),q];simp⟩⟩
 by_cases hbe:b=e
 ·subst hbe;exact heo
 ·exact ⟨u,k b u hbe q⟩
end
noncomputable def trk (h:Heap)(H:Hp):List Addr:=(List.range h.objs.size).filter λa=>(H a).isSome
def Gh (h:Heap)(H:Hp):Heap:=PySem.W.hideAll h (trk h H)
theorem Pc (h:Heap)(H:Hp):(Gh h H).objs.size=h.objs.size:=PySem.W.hideAll_size _ _
theorem Rf {o:Obj}(e:h.get? b=some o)(n:H b=none):(Gh h H).get? b=some o:=
 PySem.W.hideAll_get _ e λhm=>by
  have q:(H b).isSome=true:=(uh6.mp hm).2;rw [n] at q;simp at q
theorem Uj {o:Obj}(e:(Gh h H).get? b=some o):h.get? b=some o/\H b=none:=by
 have e':h.get? b=some o:=PySem.W.of_hideAll (trk h H) e;refine ⟨e',?_⟩
 cases q:H b with
 | none=>rfl
 | some x=>
   have hm:b∈trk h H:=uh6.mpr ⟨uj1.mpr (uk9 e'),by simp [q]⟩;have z:(Gh h H).get? b=none:=PySem.W.hideAll_none (trk h H) hm;rw [z] at e;cases e
noncomputable def Tp (g h:Heap)(L:Addr):List (Addr×Obj):=(List.range h.objs.size).filterMap λa=>if a=L\/(g.get? a).isSome=true then none else (h.get? a).map λo=>(a,o)
def rest (g h:Heap)(L d:Addr):List (Addr×Obj):=(Tp g h L).filter λp=>decide (p.1≠d)
structure Mod (K:PySem.W.Frag)(mg:Str->Option Value)(base:Heap):Prop where
 kin:K.In base
 glob:base.Ns mainGlobals mg
 blt:∃mb,base.Ns builtinsNs mb/\∀x:Str,x≠"__name__"->mb x=bootBuiltins x
 nolimit:base.NoLimit
structure Cx where
 prog:Program
 w:World
 K:PySem.W.Frag
 mg:Str->Option Value
 base:Heap
 A:Around
 N:List Str
 s₀:Shared
 H₀:Hp
 env:Env
 outer:List Env
 stack:List Env
 ex:List Addr
 fn:Str->Bool
 calm:Bool
 pn:List (Addr×Obj)
 xe:Value->Shared->Prop
noncomputable def frs (l:List Env):List Addr:=l.filterMap (·.frame)
abbrev Cx.fs (X:Cx):List Addr:=frs X.outer
def Vis (sc:Scope)(x:Str):Prop:=sc.names.lookup x=some .local\/sc.names.lookup x=some .cell\/sc.names.lookup x=some .free
def Loc (sc:Scope)(x:Str):Prop:=sc.names.lookup x=some .local\/sc.names.lookup x=some .cell
def Zs (env:Env)(h:Heap)(m:Str->Option Value)(x:Str)(u:Value):Prop:=
 (env.kindOf x=some .local/\m x=some u)\/((env.kindOf x=some .cell\/env.kindOf x=some .free)/\∃c,env.cells.lookup x=some c/\h.IsCell c (some u))
structure Cx.Ok (X:Cx):Prop where
 mod:Mod X.K X.mg X.base
 kind:X.env.scope.kind = .function
 glob:X.env.globals=mainGlobals
 blt:X.env.builtins=builtinsNs
 above:X.s₀.heap.objs.size<=X.env.locals
 inj:∀x y c,X.env.cells.lookup x=some c->X.env.cells.lookup y=some c->x=y
 has:∀x,(X.env.kindOf x=some .cell\/X.env.kindOf x=some .free)->∃c,X.env.cells.lookup x=some c
 cab:∀x c,X.fn x=true->X.env.cells.lookup x=some c->X.s₀.heap.objs.size<=c
 hd:X.calm=true->X.A.handled=none
 frames:X.A.frames=some X.stack
 stk:X.stack=X.outer\/(X.stack=X.env :: X.outer/\X.env.frame=some X.env.locals)
 exf:∀b∈X.ex,b≠X.env.locals/\∀x c,X.env.cells.lookup x=some c->c≠b
 bs:∀b o,X.base.get? b=some o->X.s₀.heap.get? b=some o/\X.H₀ b=none
 bsz:X.base.objs.size<=X.s₀.heap.objs.size
 noex:∀b o,X.base.get? b=some o->b∉X.ex
 exfs:∀b∈X.ex,b∉X.fs
 funs:X.s₀.heap.FunFrames X.base X.outer
 frf:∀b∈X.fs,X.H₀ b=none
structure Inv (X:Cx)(pins:List (Addr×Obj))(σ:List (Option V))(H:Hp)(s:Shared):Prop where
 ok:X.Ok
 os:s.os=X.s₀.os
 bare:AllBare s.gens
 base:Un X.fs X.ex X.H₀ H X.s₀.heap s.heap
 loc:∃m,s.heap.Ns X.env.locals m/\∀(i:Nat) (x:Str) (v:V),X.N[i]?=some x->σ[i]?=some (some v)->Vis X.env.scope x->∃u,RelV v u/\Zs X.env s.heap m x u
 cell:∀x c,X.env.cells.lookup x=some c->∃v,s.heap.IsCell c v
 free:H X.env.locals=none
 freeC:∀x c,X.env.cells.lookup x=some c->H c=none
 pin:∀p∈X.pn++pins,s.heap.get? p.1=some p.2/\H p.1=none/\p.1≠X.env.locals/\p.1∉X.fs/\∀v,p.2.data≠.cell v
 hok:HOk X.prog X.w H s.heap
 len:σ.length=X.N.length
variable {t' i:Nat}{ch:List Addr}{E:Value->Shared->Prop}{v:V}{u:Value}{Q:Unit->Shared->Prop}
section
variable {X:Cx}{pins:List (Addr×Obj)}{σ:List (Option V)}{H H':Hp}{s:Shared}{h':Heap}
theorem Cx.Ok.nofr (ok:X.Ok){b:Addr}{o:Obj}(e:X.base.get? b=some o):b∉X.fs:=λhb=>by
 have:=(ok.funs.mem hb).1;rw [e] at this;cases this
theorem Inv.bs (I:Inv X pins σ H s):∀b o,X.base.get? b=some o->s.heap.get? b=some o/\H b=none:=λb o e=>
 ⟨I.base.keep b o (I.ok.bs b o e).1 (I.ok.bs b o e).2 (I.ok.nofr e) (I.ok.noex b o e),I.base.free b o (I.ok.bs b o e).1 (I.ok.bs b o e).2 (I.ok.noex b o e)⟩
theorem Inv.bk (I:Inv X pins σ H s):∀b o,X.base.get? b=some o->s.heap.get? b=some o:=λb o e=>(I.bs b o e).1
theorem Inv.mod (I:Inv X pins σ H s):Mod X.K X.mg X.base:=I.ok.mod
theorem Inv.kIn (I:Inv X pins σ H s):X.K.In s.heap:=I.ok.mod.kin.keeps I.bk
theorem Inv.lt (I:Inv X pins σ H s):X.env.locals < s.heap.objs.size:=let ⟨_,hn,_⟩:=I.loc;hn.lt
theorem Inv.sz (I:Inv X pins σ H s):X.s₀.heap.objs.size<=s.heap.objs.size:=ul1 I.ok.above (Nat.le_of_lt I.lt)
theorem Inv.nofs (I:Inv X pins σ H s){a:Addr}(h:s.heap.objs.size<=a):a∉X.fs:=λhb=>by
 obtain ⟨_,o,ho,_⟩:=I.ok.funs.mem hb;exact absurd (ue1 (uk9 ho) (ul1 I.sz h)) (uj7 _)
theorem Inv.cne (I:Inv X pins σ H s):∀x c,X.env.cells.lookup x=some c->c≠X.env.locals:=λx c e z=>by
 obtain ⟨v,o,ho,hd⟩:=I.cell x c e;obtain ⟨m,⟨o',es,ep,ho',hd',_⟩,_⟩:=I.loc;rw [z,ho'] at ho;cases ho;rw [hd'] at hd;cases hd
theorem Inv.funs (I:Inv X pins σ H s):s.heap.FunFrames X.base X.outer:=by
 have all:∀(l:List Env),(∀b∈frs l,b∈X.fs)->X.s₀.heap.FunFrames X.base l->s.heap.FunFrames X.base l:=by
  intro l
  induction l with
  | nil=>intro _ _;trivial
  | cons env r ih=>
    intro hs hl;obtain ⟨hk,⟨L,o,hf,hn,ho,hd⟩,hr⟩:=hl;have hL:L∈X.fs:=hs L (by unfold frs;rw [ud5,hf];exact ue2);obtain ⟨sl,e⟩:=I.base.slot L o ho (I.ok.frf L hL) hL λz=>I.ok.exfs L z hL;exact ⟨hk,⟨L,_,hf,hn,e,hd⟩,ih (λb hb=>hs b (by unfold frs;rw [ud5,hf];exact ud2 _ hb)) hr⟩
 exact all X.outer (λ_ hb=>hb) I.ok.funs
theorem Inv.stack (I:Inv X pins σ H s):s.heap.FunFrames X.base X.stack:=by
 rcases I.ok.stk with e | ⟨e,hf⟩
 ·rw [e];exact I.funs
 ·rw [e];obtain ⟨m,hn,_⟩:=I.loc;refine .cons (by rw [I.ok.kind];decide) hf hn ?_ I.funs;exact Heap.get?_none_of_le (ul1 I.ok.bsz I.ok.above)
theorem Inv.stkSub (I:Inv X pins σ H s):∀b∈frs X.stack,b∈X.env.locals :: X.fs:=λb hb=>by
 rcases I.ok.stk with e | ⟨e,hf⟩
 ·rw [e] at hb;exact ud2 _ hb
 ·rw [e] at hb;unfold frs at hb;rw [ud5,hf] at hb;exact hb
theorem Inv.stkFree (I:Inv X pins σ H s):∀b∈frs X.stack,H b=none:=λb hb=>by
 rcases uj8.mp (I.stkSub b hb) with e | hb
 ·rw [e];exact I.free
 ·obtain ⟨_,o,ho,_⟩:=I.ok.funs.mem hb;exact I.base.free b o ho (I.ok.frf b hb) λz=>I.ok.exfs b z hb
theorem Inv.step {g':Array GenState}{d':Drawn}(I:Inv X pins σ H s)
 (hch:∀b∈ch,(b∈X.ex\/X.s₀.heap.objs.size<=b)/\b≠X.env.locals/\(∀x c,X.env.cells.lookup x=some c->c≠b)/\∀p∈X.pn++pins,p.1≠b)
 (keep:∀b o,b≠X.env.locals->b∉X.fs->b∉ch->s.heap.get? b=some o->H b=none->h'.get? b=some o)
 (slot:∀b o,b≠X.env.locals->b∈X.fs->b∉ch->s.heap.get? b=some o->H b=none->∃sl,h'.get? b=some { o with slots:=sl }) (free:∀b o,b∉ch->s.heap.get? b=some o->H b=none->H' b=none)
 (there:∀b o,b∉ch->s.heap.get? b=some o->∃o',h'.get? b=some o')
 (tups:∀b xs,H b=some (.tup xs)->H' b=some (.tup xs)) (frzs:∀b o u,H b=some (.frz o u)->H' b=some (.frz o u)) (tbls:∀b ps,H b=some (.tbl ps)->∃more,H' b=some (.tbl (ps++more)))
 (ns:∀m,s.heap.Ns X.env.locals m->h'.Ns X.env.locals m) (hok:HOk X.prog X.w H' h') (hg:AllBare g') :
 Inv X pins σ H' { s with heap:=h',gens:=g',drawn:=d',toks:=t' }:=by
 have neL:∀b o,X.s₀.heap.get? b=some o->b≠X.env.locals:=λb o e=>ul0 (ue1 (uk9 e) I.ok.above);have neC:∀b o,X.s₀.heap.get? b=some o->b∉X.ex->b∉ch:=λb o e hx hb=>by
  rcases (hch b hb).1 with z | z
  ·exact hx z
  ·exact absurd (ue1 (uk9 e) z) (uj7 _)
 have cellK:∀x c,X.env.cells.lookup x=some c->∀v,s.heap.IsCell c v->h'.IsCell c v:=λx c e v z9=>by
  obtain ⟨o,ho,hd⟩:=z9;have nch:c∉ch:=λz=>(hch c z).2.2.1 x c e rfl
  by_cases hc:c∈X.fs
  ·obtain ⟨sl,q⟩:=slot c o (I.cne x c e) hc nch ho (I.freeC x c e);exact ⟨_,q,hd⟩
  ·exact ⟨o,keep c o (I.cne x c e) hc nch ho (I.freeC x c e),hd⟩
 refine ⟨I.ok,I.os,hg,⟨λb o e n hb hx=>?_,λb o e n hb hx=>?_,λb o e n hx=>?_,λb o e hx=>?_,λb xs e=>tups b xs (I.base.tups b xs e),λb o xs e=>frzs b o xs (I.base.frzs b o xs e),λb ps e=>?_⟩,?_,λx c e=>?_,?_,λx c e=>?_,λp hp=>?_,hok,I.len⟩
 ·exact keep b o (neL b o e) hb (neC b o e hx) (I.base.keep b o e n hb hx) (I.base.free b o e n hx)
 ·obtain ⟨sl,e1⟩:=I.base.slot b o e n hb hx;obtain ⟨sl',e2⟩:=slot b _ (neL b o e) hb (neC b o e hx) e1 (I.base.free b o e n hx);exact ⟨sl',e2⟩
 ·obtain ⟨o',e1⟩:=I.base.there b o e hx;exact free b o' (neC b o e hx) e1 (I.base.free b o e n hx)
 ·obtain ⟨o',e1⟩:=I.base.there b o e hx;exact there b o' (neC b o e hx) e1
 ·obtain ⟨m1,e1⟩:=I.base.tbls b ps e;obtain ⟨m2,e2⟩:=tbls b _ e1;exact ⟨m1++m2,by rw [e2,Array.append_assoc]⟩
 ·obtain ⟨m,hn,hl⟩:=I.loc;refine ⟨m,ns m hn,λi x v e1 e2 e3=>?_⟩;obtain ⟨u,r,l⟩:=hl i x v e1 e2 e3;refine ⟨u,r,?_⟩;rcases l with l | ⟨k,c,e,z⟩
  ·exact .inl l
  ·exact .inr ⟨k,c,e,cellK x c e _ z⟩
 ·obtain ⟨v,z⟩:=I.cell x c e;exact ⟨v,cellK x c e v z⟩
 ·obtain ⟨m,⟨o,_,_,ho,_⟩,_⟩:=I.loc;exact free _ o (λz=>(hch _ z).2.1 rfl) ho I.free
 ·obtain ⟨v,o,ho,hd⟩:=I.cell x c e;exact free c o (λz=>(hch c z).2.2.1 x c e rfl) ho (I.freeC x c e)
 ·obtain ⟨e,n,ne,nf,d⟩:=I.pin p hp;have nch:p.1∉ch:=λz=>(hch p.1 z).2.2.2 p hp rfl;exact ⟨keep p.1 p.2 ne nf nch e n,free p.1 p.2 nch e n,ne,nf,d⟩
theorem Inv.un (I:Inv X pins σ H s)(u:Un X.fs [] H H' s.heap h')(hok:HOk X.prog X.w H' h'):Inv X pins σ H' { s with heap:=h',toks:=t' }:=by
 obtain ⟨m,⟨o,es,ep,ho,r⟩,_⟩:=id I.loc;obtain ⟨sl,hL⟩:=u.any ho I.free (by simp);exact I.step (g':=s.gens) (d':=s.drawn) (ch:=[]) (λ_ z=>nomatch z) (λb o _ hb _ e n=>u.keep b o e n hb (by simp)) (λb o _ hb _ e n=>u.slot b o e n hb (by simp)) (λb o _ e n=>u.free b o e n (by simp)) (λb o _ e=>u.there b o e (by simp)) u.tups u.frzs u.tbls (λm' hm=>by
  obtain ⟨o',es',ep',ho',r'⟩:=hm;rw [ho] at ho';cases ho'
  exact ⟨_,es',ep',hL,r'⟩) hok I.bare
theorem Inv.call {g':Array GenState}{d':Drawn}(I:Inv X pins σ H s)(u:Un (frs X.stack) ch H H' s.heap h')(hok:HOk X.prog X.w H' h')(hg:AllBare g')
 (hch:∀b∈ch,(b∈X.ex\/X.s₀.heap.objs.size<=b)/\b≠X.env.locals/\(∀x c,X.env.cells.lookup x=some c->c≠b)/\∀p∈X.pn++pins,p.1≠b) :
 Inv X pins σ H' { s with heap:=h',gens:=g',drawn:=d',toks:=t' }:=by
 obtain ⟨m,⟨o,es,ep,ho,r⟩,_⟩:=id I.loc;obtain ⟨sl,hL⟩:=u.any ho I.free λz=>(hch _ z).2.1 rfl;exact I.step (ch:=ch) hch (λb o hL hb hc e n=>u.keep b o e n (λz=>(uj8.mp (I.stkSub b z)).elim hL hb) hc) (λb o _ _ hc e n=>u.any e n hc) (λb o hc e n=>u.free b o e n hc) (λb o hc e=>u.there b o e hc) u.tups u.frzs u.tbls (λm' hm=>by
  obtain ⟨o',es',ep',ho',r'⟩:=hm;rw [ho] at ho';cases ho'
  exact ⟨_,es',ep',hL,r'⟩) hok hg
theorem Inv.turned {it:Addr}(I:Inv X pins σ H s)(k:∀b o,b≠it->s.heap.get? b=some o->h'.get? b=some o)(hn:H it=none)(hL:it≠X.env.locals)
 (h1:it∈X.ex\/X.s₀.heap.objs.size<=it) (h2:∀x c,X.env.cells.lookup x=some c->c≠it) (h3:∀p∈X.pn++pins,p.1≠it):Inv X pins σ H { s with heap:=h',toks:=t' }:=by
 have nit:∀b u,H b=some u->b≠it:=λb u e z=>by rw [z,hn] at e;cases e
 refine I.step (g':=s.gens) (d':=s.drawn) (ch:=[it]) (λb hb=>?_) (λb o _ _ hc e _=>k b o (λz=>hc (by simp [z])) e) (λb o _ _ hc e _=>⟨o.slots,k b o (λz=>hc (by simp [z])) e⟩) (λ_ _ _ _ n=>n)
  (λb o hc e=>⟨o,k b o (λz=>hc (by simp [z])) e⟩) (λ_ _ e=>e) (λ_ _ _ e=>e) (λb ps e=>⟨#[],by rw [e];simp⟩) (λm hm=>?_) (λb u e=>?_) I.bare
 ·have e:b=it:=by simpa using hb
  subst e;exact ⟨h1,hL,h2,h3⟩
 ·obtain ⟨o,es,ep,ho,r⟩:=hm;exact ⟨o,es,ep,k _ o (Ne.symm hL) ho,r⟩
 ·refine (I.hok b u e).stay (λc v hc q=>k c v ?_ q) (λ_ q=>q) λ_ _ q=>q;rcases hc with z | z
  ·rw [z];exact nit b u e
  ·exact nit c _ z
theorem Inv.tok (I:Inv X pins σ H s)(t:Nat):Inv X pins σ H { s with toks:=t }:=I.un (h':=s.heap) (t':=t) Un.refl I.hok
theorem Inv.kept {t':Nat}(I:Inv X pins σ H s)(k:∀b u,s.heap.get? b=some u->h'.get? b=some u):Inv X pins σ H { s with heap:=h',toks:=t' }:=I.un (Un.kept k) (I.hok.kept k)
theorem Inv.laid {a:Addr}{o:HO}{t':Nat}(I:Inv X pins σ H s)(k:∀b u,s.heap.get? b=some u->h'.get? b=some u)(hp:s.heap.objs.size<=a)(new:ObjOk X.prog X.w (upd H a o) h' a o) :
 Inv X pins σ (upd H a o) { s with heap:=h',toks:=t' }:=I.un (Un.laid k hp (I.hok.fresh hp)) (I.hok.laid k hp new)
theorem Inv.write {x e:Addr}{o:HO}{t':Nat}(I:Inv X pins σ H s)(mu:Mut (H x))(he:e=x\/H e=some (.own x))(k:∀b u,b≠e->s.heap.get? b=some u->h'.get? b=some u)(heo:∃u,h'.get? e=some u)
 (new:ObjOk X.prog X.w (upd H x o) h' x o):Inv X pins σ (upd H x o) { s with heap:=h',toks:=t' }:=I.un (Un.write mu he k heo) (I.hok.write mu he k heo new)
theorem Inv.pins_of {pins':List (Addr×Obj)}(I:Inv X pins σ H s)(h:∀p∈pins',s.heap.get? p.1=some p.2/\H p.1=none/\p.1≠X.env.locals/\p.1∉X.fs/\∀v,p.2.data≠.cell v):Inv X pins' σ H s:=
 ⟨I.ok,I.os,I.bare,I.base,I.loc,I.cell,I.free,I.freeC,λp hp=>(uh7.mp hp).elim (λz=>I.pin p (List.mem_append_left _ z)) (h p),I.hok,I.len⟩
theorem Gn {N:List Str}(hN:N.Nodup){i j:Nat}{x:Str}(a:N[i]?=some x)(b:N[j]?=some x):i=j:=by
 obtain ⟨h1,e1⟩:=ua9.mp a;obtain ⟨h2,e2⟩:=ua9.mp b;exact (ug3 hN).mp (e1.trans e2.symm)
theorem KB {M:Model}{A:Around}{x:Str}(I:Inv X pins σ H s)(hN:X.N.Nodup)(hi:X.N[i]?=some x)(hx:Loc X.env.scope x)(r:RelV v u)
 (h:∀s',Inv X pins (σ.set i (some v)) H s'->(∃a,Heap.SameBut a s.heap s'.heap/\(a=X.env.locals\/X.env.cells.lookup x=some a))->Q () s') (hf:X.fn x=true\/X.env.scope.names.lookup x=some .local:=by walk_at "h"):wpAny M A (storeName X.env x u) Q E s:=by
 obtain ⟨m,hn,hl⟩:=id I.loc;have hcls:(X.env.scope.kind == .class || (X.env.scope.kind == .module && X.env.locals != X.env.globals))=false:=by rw [I.ok.kind];rfl
 have hiσ:i < σ.length:=by rw [I.len];exact (ua9.mp hi).1
 have cne:=I.cne;have tracked:∀{a:Addr} {h':Heap},(∃o,s.heap.get? a=some o/\H a=none)->Heap.SameBut a s.heap h'->HOk X.prog X.w H h':=λ{a h'} ha hs b ob e=>by
  obtain ⟨_,_,hfree⟩:=ha;refine (I.hok b ob e).stay (λc w' hc q=>(hs.2 c ?_).trans q) (λ_ q=>q) λ_ _ q=>q;rintro rfl;rcases hc with rfl | hc
  ·rw [hfree] at e;cases e
  ·rw [hfree] at hc;cases hc
 rcases hx with hk | hk
 ·refine wpAny_storeName_local hk hn (λh' hn' hs=>?_) hcls;obtain ⟨oL,_,_,hoL,_⟩:=id hn;refine h _ ⟨I.ok,I.os,I.bare,⟨λb o e n hb hx=>?_,λb o e n hb hx=>?_,I.base.free,λb o e hx=>?_,I.base.tups,I.base.frzs,I.base.tbls⟩,⟨_,hn',λj y v' e1 e2 e3=>?_⟩,λy c e=>?_,I.free,I.freeC,λp hp=>?_,tracked ⟨oL,hoL,I.free⟩ hs,by simpa using I.len⟩ ⟨_,hs,.inl rfl⟩
  ·exact (hs.2 b (ul0 (ue1 (uk9 e) I.ok.above))).trans (I.base.keep b o e n hb hx)
  ·obtain ⟨sl,e1⟩:=I.base.slot b o e n hb hx;exact ⟨sl,(hs.2 b (ul0 (ue1 (uk9 e) I.ok.above))).trans e1⟩
  ·obtain ⟨o',e1⟩:=I.base.there b o e hx;exact ⟨o',(hs.2 b (ul0 (ue1 (uk9 e) I.ok.above))).trans e1⟩
  ·by_cases hj:j=i
   ·subst hj;rw [hi] at e1;cases e1
    rw [ub8 hiσ] at e2
    cases e2
    exact ⟨u,r,.inl ⟨hk,by simp⟩⟩
   ·rw [ud3 (Ne.symm hj)] at e2;obtain ⟨u',r',q⟩:=hl j y v' e1 e2 e3;refine ⟨u',r',?_⟩;rcases q with ⟨k,e⟩ | ⟨k,c,e,z⟩
    ·refine .inl ⟨k,?_⟩;have:y≠x:=λe=>hj (Gn hN e1 (e ▸ hi));simp [this,e]
    ·exact .inr ⟨k,c,e,z.sameBut hs (cne y c e)⟩
  ·obtain ⟨w',z⟩:=I.cell y c e;exact ⟨w',z.sameBut hs (cne y c e)⟩
  ·obtain ⟨e,n,ne,nf,d⟩:=I.pin p hp;exact ⟨(hs.2 p.1 ne).trans e,n,ne,nf,d⟩
 ·have hfn:X.fn x=true:=by
   rcases hf with z | z
   ·exact z
   ·rw [z] at hk;cases hk
  obtain ⟨c,hc⟩:=I.ok.has x (.inl hk);obtain ⟨w',z⟩:=I.cell x c hc;refine wpAny_storeName_cell I.ok.kind hk hc z (λh' hc' hs=>?_);obtain ⟨oc,hoc,hocd⟩:=id z;refine h { s with heap:=h' } ⟨I.ok,I.os,I.bare,⟨λb o e n hb hx=>?_,λb o e n hb hx=>?_,I.base.free,λb o e hx=>?_,I.base.tups,I.base.frzs,I.base.tbls⟩,⟨m,hn.sameBut hs (Ne.symm (cne x c hc)),λj y v' e1 e2 e3=>?_⟩,λy c' e=>?_,I.free,I.freeC,λp hp=>?_,tracked ⟨oc,hoc,I.freeC x c hc⟩ hs,by simpa using I.len⟩ ⟨c,hs,.inr hc⟩
  ·exact (hs.2 b (ul0 (ue1 (uk9 e) (I.ok.cab x c hfn hc)))).trans (I.base.keep b o e n hb hx)
  ·obtain ⟨sl,e1⟩:=I.base.slot b o e n hb hx;exact ⟨sl,(hs.2 b (ul0 (ue1 (uk9 e) (I.ok.cab x c hfn hc)))).trans e1⟩
  ·obtain ⟨o',e1⟩:=I.base.there b o e hx;exact ⟨o',(hs.2 b (ul0 (ue1 (uk9 e) (I.ok.cab x c hfn hc)))).trans e1⟩
  ·by_cases hj:j=i
   ·subst hj;rw [hi] at e1;cases e1
    rw [ub8 hiσ] at e2
    cases e2
    exact ⟨u,r,.inr ⟨.inl hk,c,hc,hc'⟩⟩
   ·rw [ud3 (Ne.symm hj)] at e2;obtain ⟨u',r',q⟩:=hl j y v' e1 e2 e3;refine ⟨u',r',?_⟩;rcases q with q | ⟨k,c',e,z'⟩
    ·exact .inl q
    ·refine .inr ⟨k,c',e,z'.sameBut hs ?_⟩;rintro rfl;exact hj (Gn hN e1 (I.ok.inj _ _ _ e hc ▸ hi))
  ·by_cases hcc:c'=c
   ·subst hcc;exact ⟨_,hc'⟩
   ·obtain ⟨w2,z2⟩:=I.cell y c' e;exact ⟨w2,z2.sameBut hs hcc⟩
  ·obtain ⟨e,n,ne,nf,d⟩:=I.pin p hp;refine ⟨(hs.2 p.1 ?_).trans e,n,ne,nf,d⟩;intro q;rw [q,hoc] at e;have q':oc=p.2:=uh8 e;exact d w' (by rw [<-q'];exact hocd)
theorem Fy {M:Model}{A:Around}{x:Str}(I:Inv X pins σ H s)(hN:X.N.Nodup)(hi:X.N[i]?=some x)(hx:Loc X.env.scope x)(r:RelV v u)
 (h:∀s',Inv X pins (σ.set i (some v)) H s'->Q () s') (hf:X.fn x=true\/X.env.scope.names.lookup x=some .local:=by walk_at "h"):wpAny M A (storeName X.env x u) Q E s:=
 KB I hN hi hx r (λs' I' _=>h s' I') hf
theorem Inv.call' {s':Shared}(I:Inv X pins σ H s)(ho:s'.os=s.os)(u:Un (frs X.stack) ch H H' s.heap s'.heap)(hok:HOk X.prog X.w H' s'.heap)(hg:AllBare s'.gens)
 (hch:∀b∈ch,(b∈X.ex\/X.s₀.heap.objs.size<=b)/\b≠X.env.locals/\(∀x c,X.env.cells.lookup x=some c->c≠b)/\∀p∈X.pn++pins,p.1≠b):Inv X pins σ H' s':=by
 obtain ⟨h',g',d',t',o'⟩:=s';have e:o'=s.os:=ho;subst e;exact I.call (g':=g') (t':=t') (d':=d') u hok hg hch
end
abbrev XK:=Value->Option Addr->Hp->Prop
abbrev St:=List (Option V)
abbrev VK:=V->Hp->Prop
abbrev TE:=St->Hp->VK->Prop
abbrev TT:=St->Hp->(Bool->Hp->Prop)->Prop
abbrev TA:=St->Hp->(List V->Hp->Prop)->Prop
structure Ends where
 nx:St->Hp->Prop
 rt:VK
 bk:St->Hp->Prop:=λ_ _=>False
 ct:St->Hp->Prop:=λ_ _=>False
abbrev TS:=Ends->St->Hp->Prop
inductive EP (X:Cx)(pins:List (Addr×Obj))(σ:St)(Q:VK)(u:Value)(s':Shared):Prop where
 | mk (v:V) (H':Hp) (i:Inv X pins σ H' s') (r:RelV v u) (q:Q v H'):EP X pins σ Q u s'
inductive TP (X:Cx)(pins:List (Addr×Obj))(σ:St)(Q:Bool->Hp->Prop)(b:Bool)(s':Shared):Prop where
 | mk (H':Hp) (i:Inv X pins σ H' s') (q:Q b H'):TP X pins σ Q b s'
inductive AP (X:Cx)(pins:List (Addr×Obj))(σ:St)(Q:List V->Hp->Prop)(us:List Value)(s':Shared):Prop where
 | mk (vs:List V) (H':Hp) (i:Inv X pins σ H' s') (r:Vals vs us) (q:Q vs H'):AP X pins σ Q us s'
def SP (X:Cx)(pins:List (Addr×Obj))(D:Ends)(f:Flow)(s':Shared):Prop:=
 match f with
 | .next=>∃σ' H',Inv X pins σ' H' s'/\D.nx σ' H'
 | .brk=>∃σ' H',Inv X pins σ' H' s'/\D.bk σ' H'
 | .cont=>∃σ' H',Inv X pins σ' H' s'/\D.ct σ' H'
 | .ret u=>∃v σ' H',Inv X pins σ' H' s'/\RelV v u/\D.rt v H'
def PE (X:Cx)(e:Expr)(t:TE):Prop:=
 ∀(pins:List (Addr×Obj)) (s:Shared) (σ:St) (H:Hp) (Q:VK),Inv X pins σ H s->t σ H Q->wpAny (model X.prog X.w) X.A (eval e X.env) (EP X pins σ Q) X.xe s
def PT (X:Cx)(e:Expr)(t:TT):Prop:=
 ∀(pins:List (Addr×Obj)) (s:Shared) (σ:St) (H:Hp) (Q:Bool->Hp->Prop),Inv X pins σ H s->t σ H Q->wpAny (model X.prog X.w) X.A (isTrue e X.env (eval e X.env)) (TP X pins σ Q) X.xe s
def PW (X:Cx)(e:Expr)(t:TT):Prop:=
 ∀(whole:Sem Value) (pins:List (Addr×Obj)) (s:Shared) (σ:St) (H:Hp) (Q:Bool->Hp->Prop),Inv X pins σ H s->t σ H Q->wpAny (model X.prog X.w) X.A (isTrue e X.env whole) (TP X pins σ Q) X.xe s
variable {X:Cx}{e:Expr}
theorem PW.pt {t:TT}(h:PW X e t):PT X e t:=h _
def PA (X:Cx)(es:List Expr)(t:TA):Prop:=
 ∀(pos:Pos) (pins:List (Addr×Obj)) (s:Shared) (σ:St) (H:Hp) (Q:List V->Hp->Prop),Inv X pins σ H s->t σ H Q->wpAny (model X.prog X.w) X.A (spliced (backTo pos (starEach es X.env))) (AP X pins σ Q) X.xe s
def PS (X:Cx)(st:Stmt)(t:TS):Prop:=
 ∀(pins:List (Addr×Obj)) (s:Shared) (σ:St) (H:Hp) (D:Ends),Inv X pins σ H s->t D σ H->wpAny (model X.prog X.w) X.A (exec st X.env) (SP X pins D) X.xe s
def PSs (X:Cx)(st:List Stmt)(t:TS):Prop:=
 ∀(pins:List (Addr×Obj)) (s:Shared) (σ:St) (H:Hp) (D:Ends),Inv X pins σ H s->t D σ H->wpAny (model X.prog X.w) X.A (execs st X.env) (SP X pins D) X.xe s
variable {s:Shared}
theorem thn {α:Type}{t:Sem α}{Q Q':α->Shared->Prop}{M:Model}{A:Around}(h:wpAny M A t Q E s)(hQ:∀a s,Q a s->Q' a s):wpAny M A t Q' E s:=um5 h hQ λ_ _ x=>x
variable {pins:List (Addr×Obj)}{σ:St}{c:Expr}
section
variable {X:Cx}
def XF (i:Nat):TE:=λσ H Q=>∃v,σ[i]?=some (some v)/\Q v H
def tC (v:V):TE:=λ_ H Q=>Q v H
theorem Cd {x:Str}{pos:Pos}(hN:X.N[i]?=some x)(hv:Vis X.env.scope x)(hd:(x == ("__debug__" : Str))=false:=by decide)(hcd:(x == ("__classdict__" : Str))=false:=by decide):PE X (.Name x pos) (XF i):=by
 intro pins s σ H Q I h;obtain ⟨v,e,h⟩:=h;obtain ⟨m,hn,hl⟩:=I.loc;obtain ⟨u,r,l⟩:=hl i x v hN e hv;have fin:EP X pins σ Q u s:=⟨v,H,I,r,h⟩;rcases l with ⟨hk,hm⟩ | ⟨hk,c,hc,hcell⟩
 ·exact wpAny_Name (wpAny_loadName_local I.ok.kind hk hn hm fin) hd
 ·rcases hk with hk | hk
  ·exact wpAny_Name (wpAny_loadName_cell I.ok.kind hk hc hcell fin) hd
  ·exact wpAny_Name (wpAny_loadName_free I.ok.kind hk hc hcell fin hcd) hd
theorem WX {i j pos}:PE X (.Constant (.int i) j pos) (tC (.int i)):=λ_ _ _ H _ I h=>wpAny_Constant_int ⟨.int i,H,I.tok _,⟨_,rfl⟩,h⟩
theorem Yt {b j pos}:PE X (.Constant (.bool b) j pos) (tC (.bl b)):=λ_ _ _ H _ I h=>Constant_bool ⟨.bl b,H,I,rfl,h⟩
theorem WZ {j pos}:PE X (.Constant .none j pos) (tC .non):=λ_ _ _ H _ I h=>Constant_none ⟨.non,H,I,rfl,h⟩
theorem PQ {x j pos}:PE X (.Constant (.str x) j pos) (tC (.str x)):=λ_ _ _ H _ I h=>Calls.Constant_str ⟨.str x,H,I.tok _,⟨_,rfl⟩,h⟩
def Gl (X:Cx)(x:Str):Prop:=X.env.kindOf x=some .globalImplicit
theorem B5 {x:Str}{pos:Pos}{Q:Value->Shared->Prop}(I:Inv X pins σ H s)(hg:Gl X x)(hm:X.mg x=some u)(h:Q u s)
 (hd:(x == ("__debug__" : Str))=false:=by decide):wpAny (model X.prog X.w) X.A (eval (.Name x pos) X.env) Q E s:=
 Calls.Name_function_global I.ok.kind hg (Calls.loadGlobal_global (by rw [I.ok.glob];exact I.mod.glob.keeps I.bk) hm h) hd
theorem Fl {x:Str}{pos:Pos}{Q:Value->Shared->Prop}(I:Inv X pins σ H s)(hg:Gl X x)(hm:X.mg x=none)(hv:bootBuiltins x=some u)(h:Q u s)
 (hn:x≠"__name__":=by decide) (hd:(x == ("__debug__" : Str))=false:=by decide):wpAny (model X.prog X.w) X.A (eval (.Name x pos) X.env) Q E s:=by
 obtain ⟨mb,h1,h2⟩:=I.mod.blt;exact Calls.Name_function_global I.ok.kind hg (Calls.loadGlobal_builtin (by rw [I.ok.glob];exact I.mod.glob.keeps I.bk) hm (by rw [I.ok.blt];exact h1.keeps I.bk) ((h2 x hn).trans hv) h) hd
theorem M6 {x:Str}{pos:Pos}(hg:Gl X x)(hm:X.mg x=some u)(r:RelV v u)(hd:(x == ("__debug__" : Str))=false:=by decide):PE X (.Name x pos) (tC v):=
 λ_ _ _ H _ I h=>B5 I hg hm ⟨v,H,I,r,h⟩ hd
theorem Us {x:Str}{pos:Pos}(hg:Gl X x)(hm:X.mg x=none)(hv:bootBuiltins x=some u)(r:RelV v u)(hn:x≠"__name__":=by decide)(hd:(x == ("__debug__" : Str))=false:=by decide):PE X (.Name x pos) (tC v):=
 λ_ _ _ H _ I h=>Fl I hg hm hv ⟨v,H,I,r,h⟩ hn hd
variable {a b:Expr}{ta tb:TE}{pos:Pos}
def tB (t:TE):TT:=λσ H Q=>t σ H λx H1=>∃c,x = .bl c/\Q c H1
theorem Xa {t:TE}(h:PE X e t)(he:∀whole,isTrue e X.env whole=(do let v <-whole;standAt e.pos;holding [v] (truthy v)):=by intro _;rfl):PT X e (tB t):=by
 intro pins s σ H Q I hw;refine isTrue_plain (thn (h pins s σ H _ I hw) λv s1 z9=>?_) (he _);obtain ⟨x,H1,I1,r1,q1⟩:=z9;obtain ⟨d,rfl,q⟩:=q1
 cases r1
 exact wpAny_truthy_bool ⟨H1,I1,q⟩
variable {tA tB':TT}{rest:List Expr}
def Z1 (t u:TT):TT:=λσ H Q=>t σ H λc H1=>if c=true then u σ H1 Q else Q false H1
def tOr (t u:TT):TT:=λσ H Q=>t σ H λc H1=>if c=true then Q true H1 else u σ H1 Q
def Z9 (t:TT):TT:=λσ H Q=>t σ H λc H1=>Q (!c) H1
theorem UJ (ha:PT X a tA):PW X (.BoolOp .And [a] pos) tA:=by
 intro wh pins s σ H Q I h;refine isTrue_and (thn (ha pins s σ H Q I h) λc s1 e=>?_)
 cases c with
 | true=>exact isTrue_and_nil e
 | false=>exact e
theorem Xc (ha:PT X a tA):PW X (.BoolOp .Or [a] pos) tA:=by
 intro wh pins s σ H Q I h;refine isTrue_or (thn (ha pins s σ H Q I h) λc s1 e=>?_)
 cases c with
 | false=>exact isTrue_or_nil e
 | true=>exact e
theorem Xb (ha:PT X a tA)(hb:PW X (.BoolOp .And (b :: rest) pos) tB'):PW X (.BoolOp .And (a :: b :: rest) pos) (Z1 tA tB'):=by
 intro wh pins s σ H Q I h;refine isTrue_and (thn (ha pins s σ H _ I h) λc s1 z9=>?_);obtain ⟨H1,I1,q1⟩:=z9
 cases c with
 | true=>exact hb wh pins s1 σ H1 Q I1 q1
 | false=>exact ⟨H1,I1,q1⟩
theorem YB (ha:PT X a tA)(hb:PW X (.BoolOp .Or (b :: rest) pos) tB'):PW X (.BoolOp .Or (a :: b :: rest) pos) (tOr tA tB'):=by
 intro wh pins s σ H Q I h;refine isTrue_or (thn (ha pins s σ H _ I h) λc s1 z9=>?_);obtain ⟨H1,I1,q1⟩:=z9
 cases c with
 | true=>exact ⟨H1,I1,q1⟩
 | false=>exact hb wh pins s1 σ H1 Q I1 q1
theorem W9 (ha:PT X a tA):PT X (.UnaryOp .Not a pos) (Z9 tA):=by
 intro pins s σ H Q I h;refine isTrue_not (thn (ha pins s σ H (λc H1=>Q (!c) H1) I h) λc s1 z=>?_);obtain ⟨H1,I1,q1⟩:=z;exact ⟨H1,I1,q1⟩
def YF (ta tb:TE):TE:=λσ H Q=>ta σ H λx H1=>∃c,x = .bl c/\if c=true then tb σ H1 Q else Q (.bl false) H1
def YL (ta:TE):TE:=λσ H Q=>ta σ H λx H1=>∃c,x = .bl c/\Q (.bl (!c)) H1
theorem W1 {op}{t:TE}(h:PE X a t):PE X (.BoolOp op [a] pos) t:=λpins s σ H Q I hw=>BoolOp_one (h pins s σ H Q I hw)
theorem WU (ha:PE X a ta)(hb:PE X (.BoolOp .And (b :: rest) pos) tb):PE X (.BoolOp .And (a :: b :: rest) pos) (YF ta tb):=by
 intro pins s σ H Q I h;refine BoolOp_and (thn (ha pins s σ H _ I h) λv s1 z9=>?_);obtain ⟨x,H1,I1,r1,q1⟩:=z9;obtain ⟨c,rfl,q1⟩:=q1
 cases r1
 refine wpAny_truthy_bool ?_
 cases c with
 | true=>exact hb pins s1 σ H1 Q I1 q1
 | false=>exact ⟨.bl false,H1,I1,rfl,q1⟩
theorem W0 (ha:PE X a ta):PE X (.UnaryOp .Not a pos) (YL ta):=by
 intro pins s σ H Q I h;refine UnaryOp_ (thn (ha pins s σ H _ I h) λv s1 z9=>?_);obtain ⟨x,H1,I1,r1,q1⟩:=z9;obtain ⟨c,rfl,q1⟩:=q1
 cases r1
 exact not_of (wpAny_truthy_bool ⟨.bl (!c),H1,I1,rfl,q1⟩)
def tIf (t:TT)(ta tb:TE):TE:=λσ H Q=>t σ H λc H1=>if c=true then ta σ H1 Q else tb σ H1 Q
theorem RV (hc:PT X c tA)(ha:PE X a ta)(hb:PE X b tb):PE X (.IfExp c a b pos) (tIf tA ta tb):=by
 intro pins s σ H Q I h;refine wpAny_IfExp (thn (hc pins s σ H _ I h) λd s1 z9=>?_);obtain ⟨H1,I1,q1⟩:=z9
 cases d with
 | true=>exact ha pins s1 σ H1 Q I1 q1
 | false=>exact hb pins s1 σ H1 Q I1 q1
end
noncomputable def SqL (K:PySem.W.Frag)(H:Hp)(a:Addr)(xs:List V):Prop:=
 Rd H a (.lst xs)\/
  ∃(o:Obj) (its:Array Value) (n:Nat),K.lookup a=some o/\o.cls = .type "list"/\o.dict=none/\o.data = .seq its n/\its.size<=sizeLine/\Vals xs its.toList
noncomputable def SqT (K:PySem.W.Frag)(H:Hp)(a:Addr)(xs:List V):Prop:=
 Rd H a (.tup xs)\/
  ∃(o:Obj) (its:Array Value) (n:Nat),K.lookup a=some o/\o.cls = .type "tuple"/\o.data = .seq its n/\its.size<=sizeLine/\Vals xs its.toList
noncomputable def Zy:Value->Option V
 | .none=>some .non
 | .bool b=>some (.bl b)
 | .int i _=>some (.int i)
 | .str x _=>some (.str x)
 | .bytes b _=>some (.byt b)
 | .float b _=>some (.flt b)
 | .ref a=>some (.ref a)
 | .type n=>some (.ty n)
 | _=>none
theorem RelV.abs {x:V}(r:RelV x u):Zy u=some x:=by
 cases x with
 | non=>cases r;rfl
 | bl _=>cases r;rfl
 | int _=>obtain ⟨t,rfl⟩:=r;rfl
 | str _=>obtain ⟨t,rfl⟩:=r;rfl
 | byt _=>obtain ⟨t,rfl⟩:=r;rfl
 | flt _=>obtain ⟨t,rfl⟩:=r;rfl
 | ref _=>cases r;rfl
 | ty _=>cases r;rfl
theorem RelV.inj {x y:V}{u:Value}(r:RelV x u)(q:RelV y u):x=y:=uh8 (r.abs.symm.trans q.abs)
theorem Vals.inj {xs ys:List V}{us:List Value}(a:Vals xs us)(b:Vals ys us):xs=ys:=by
 cases a with
 | nil=>
   cases b
   rfl
 | cons r t=>
   cases b with
   | cons r' t'=>rw [r.inj r',Vals.inj t t']
variable {K:PySem.W.Frag}
section
variable {X:Cx}{pins:List (Addr×Obj)}{σ:St}{H:Hp}{s:Shared}{a:Addr}{xs ys:List V}
theorem SqL.of (h:H a=some (.lst xs)):SqL K H a xs:=.inl (.inl h)
theorem SqT.of (h:H a=some (.tup xs)):SqT K H a xs:=.inl (.inl h)
theorem Inv.list (I:Inv X pins σ H s)(h:SqL X.K H a xs):∃its:List Value,Vals xs its/\PlainL s.heap a its.toArray/\xs.length<=sizeLine:=by
 rcases h with h | ⟨o,its,n,hk,hc,hd,hs,hz,r⟩
 ·obtain ⟨z,its,n,r,e⟩:=h.ok I.hok;exact ⟨its,r,⟨_,n,e,rfl,rfl,rfl⟩,z⟩
 ·refine ⟨its.toList,r,⟨o,n,I.kIn a o hk,hc,hd,by simpa using hs⟩,?_⟩;have e:=r.length;simp only [ud6] at e;lia
theorem Inv.tuple (I:Inv X pins σ H s)(h:SqT X.K H a xs):∃its:List Value,Vals xs its/\IsTup s.heap a its.toArray/\xs.length<=sizeLine:=by
 rcases h with h | ⟨o,its,n,hk,hc,hs,hz,r⟩
 ·obtain ⟨z,its,r,p⟩:=h.ok I.hok;exact ⟨its,r,p,z⟩
 ·refine ⟨its.toList,r,⟨o,I.kIn a o hk,hc,n,by simpa using hs⟩,?_⟩;have e:=r.length;simp only [ud6] at e;lia
theorem Inv.list_inj (I:Inv X pins σ H s)(h:SqL X.K H a xs)(h':SqL X.K H a ys):xs=ys:=by
 obtain ⟨its,r,⟨o,n,e,_,_,d⟩,_⟩:=I.list h;obtain ⟨its',r',⟨o',n',e',_,_,d'⟩,_⟩:=I.list h';rw [e] at e';cases e'
 rw [d] at d';injection d' with d1 _
 have:its=its':=by simpa using congrArg Array.toList d1
 subst this;exact r.inj r'
theorem Inv.tuple_inj (I:Inv X pins σ H s)(h:SqT X.K H a xs)(h':SqT X.K H a ys):xs=ys:=by
 obtain ⟨its,r,⟨o,e,_,n,d⟩,_⟩:=I.tuple h;obtain ⟨its',r',⟨o',e',_,n',d'⟩,_⟩:=I.tuple h';rw [e] at e';cases e'
 rw [d] at d';injection d' with d1 _
 have:its=its':=by simpa using congrArg Array.toList d1
 subst this;exact r.inj r'
end
abbrev Cx.wish (X:Cx)(E:Value->Shared->Prop):Cx:={ X with xe:=E }
abbrev Cx.nox (X:Cx):Cx:=X.wish λ_ _=>False
theorem Cx.Ok.wish {X:Cx}(ok:X.Ok)(E:Value->Shared->Prop):(X.wish E).Ok:=
 ⟨ok.mod,ok.kind,ok.glob,ok.blt,ok.above,ok.inj,ok.has,ok.cab,ok.hd,ok.frames,ok.stk,ok.exf,ok.bs,ok.bsz,ok.noex,ok.exfs,ok.funs,ok.frf⟩
theorem Cx.Ok.unwish (ok:(X.wish E).Ok):X.Ok:=
 ⟨ok.mod,ok.kind,ok.glob,ok.blt,ok.above,ok.inj,ok.has,ok.cab,ok.hd,ok.frames,ok.stk,ok.exf,ok.bs,ok.bsz,ok.noex,ok.exfs,ok.funs,ok.frf⟩
section
variable {X:Cx}{pins:List (Addr×Obj)}{σ:St}{H:Hp}{s:Shared}{E:Value->Shared->Prop}
theorem Inv.wish (I:Inv X pins σ H s)(E:Value->Shared->Prop):Inv (X.wish E) pins σ H s:=⟨I.ok.wish E,I.os,I.bare,I.base,I.loc,I.cell,I.free,I.freeC,I.pin,I.hok,I.len⟩
theorem Inv.unwish (I:Inv (X.wish E) pins σ H s):Inv X pins σ H s:=⟨I.ok.unwish,I.os,I.bare,I.base,I.loc,I.cell,I.free,I.freeC,I.pin,I.hok,I.len⟩
theorem SP.unwish {D:Ends}{f:Flow}{s':Shared}(h:SP (X.wish E) pins D f s'):SP X pins D f s':=by
 cases f with
 | next=>obtain ⟨σ',H',I,q⟩:=h;exact ⟨σ',H',I.unwish,q⟩
 | brk=>obtain ⟨σ',H',I,q⟩:=h;exact ⟨σ',H',I.unwish,q⟩
 | cont=>obtain ⟨σ',H',I,q⟩:=h;exact ⟨σ',H',I.unwish,q⟩
 | ret u=>obtain ⟨v,σ',H',I,r,q⟩:=h;exact ⟨v,σ',H',I.unwish,r,q⟩
theorem PSs.nox {st:List Stmt}{t:TS}(h:PSs X.nox st t):PSs X st t:=λpins s σ H D I hw=>
 um5 (h pins s σ H D (I.wish _) hw) (λ_ _ q=>q.unwish) λ_ _ z=>False.elim z
end
section
variable {X:Cx}{st:Stmt}{rest:List Stmt}{t u:TS}{e:Expr}{te:TE}{pos:Pos}
def Tl:TS:=λD σ H=>D.nx σ H
def ac (t u:TS):TS:=λD σ H=>t { D with nx:=u D } σ H
theorem UH:PSs X [] Tl:=λ_ _ σ H _ I h=>wpAny_execs_nil ⟨σ,H,I,h⟩
theorem Iu (h1:PS X st t)(h2:PSs X rest u):PSs X (st :: rest) (ac t u):=by
 intro pins s σ H D I h;refine wpAny_execs_cons (thn (h1 pins s σ H { D with nx:=u D } I h) λf s1 q=>?_)
 cases f with
 | next=>
   obtain ⟨σ',H',I',q⟩:=q;exact h2 pins s1 σ' H' D I' q
 | ret v=>exact q
 | brk=>exact q
 | cont=>exact q
theorem FW (h1:PS X st t):PSs X [st] t:=by
 intro pins s σ H D I h;refine wpAny_execs_cons (thn (h1 pins s σ H D I h) λf s1 q=>?_)
 cases f with
 | next=>exact wpAny_execs_nil q
 | ret v=>exact q
 | brk=>exact q
 | cont=>exact q
def XA:TS:=λD σ H=>D.bk σ H
def YI:TS:=λD σ H=>D.ct σ H
theorem UG:PS X (.Pass pos) Tl:=λ_ _ σ H _ I h=>wpAny_Pass ⟨σ,H,I,h⟩
theorem R7:PS X (.Break pos) XA:=λ_ _ σ H _ I h=>wpAny_Break ⟨σ,H,I,h⟩
theorem MC:PS X (.Continue pos) YI:=λ_ _ σ H _ I h=>wpAny_Continue ⟨σ,H,I,h⟩
theorem Inv.quiet (I:Inv X pins σ H s):interactive X.env=false:=by simp [interactive,I.ok.kind]
def Tj (te:TE):TS:=λD σ H=>te σ H λ_ H1=>D.nx σ H1
theorem JT (he:PE X e te)(hs:swapsWith e none pos.line X.env=pure false:=by rfl):PS X (.Expr e pos) (Tj te):=by
 intro pins s σ H D I h;exact wpAny_Expr_any (thn (he pins s σ H _ I h) λv s1 z9=>by obtain ⟨x,H1,I1,r1,q1⟩:=z9;exact ⟨σ,H1,I1,q1⟩) I.quiet hs
def aa (te:TE):TS:=λD σ H=>te σ H D.rt
theorem Ha (he:PE X e te):PS X (.Return (some e) pos) (aa te):=by
 intro pins s σ H D I h;exact wpAny_Return_some (thn (he pins s σ H _ I h) λv s1 z9=>by obtain ⟨x,H1,I1,r1,q1⟩:=z9;exact ⟨x,σ,H1,I1,r1,q1⟩)
def Z7 (c:TT)(t u:TS):TS:=λD σ H=>c σ H λb H1=>if b=true then t D σ H1 else u D σ H1
theorem YA {a b:List Stmt}{tc:TT}(hc:PT X c tc)(ha:PSs X a t)(hb:PSs X b u):PS X (.If c a b pos) (Z7 tc t u):=by
 intro pins s σ H D I h;refine wpAny_If (thn (hc pins s σ H _ I h) λd s1 z9=>?_);obtain ⟨H1,I1,q1⟩:=z9
 cases d with
 | true=>exact ha pins s1 σ H1 D I1 q1
 | false=>exact hb pins s1 σ H1 D I1 q1
end
abbrev TG:=V->St->Hp->(St->Hp->Prop)->Prop
abbrev TGs:=List V->St->Hp->(St->Hp->Prop)->Prop
def PG (X:Cx)(target:Expr)(t:TG):Prop:=
 ∀(pins:List (Addr×Obj)) (s:Shared) (σ:St) (H:Hp) (v:V) (u:Value) (Q:St->Hp->Prop),Inv X pins σ H s->RelV v u->t v σ H Q->
  wpAny (model X.prog X.w) X.A (assign target X.env u) (λ_ s'=>∃σ' H',Inv X pins σ' H' s'/\Q σ' H') X.xe s
def PGs (X:Cx)(ts:List Expr)(t:TGs):Prop:=
 ∀(pins:List (Addr×Obj)) (s:Shared) (σ:St) (H:Hp) (vs:List V) (us:List Value) (Q:St->Hp->Prop),Inv X pins σ H s->Vals vs us->t vs σ H Q->
  wpAny (model X.prog X.w) X.A (assignInOrder ((assignEach ts X.env).map (·.2)) us) (λ_ s'=>∃σ' H',Inv X pins σ' H' s'/\Q σ' H') X.xe s
abbrev QB:=V->V->V->Hp->(Hp->Prop)->Prop
def VA (X:Cx)(t:QB):Prop:=
 ∀(pins:List (Addr×Obj)) (s:Shared) (σ:St) (H:Hp) (o i v:V) (ov iv u:Value) (Q:Hp->Prop),Inv X pins σ H s->RelV o ov->RelV i iv->RelV v u->t o i v H Q->
  wpAny (model X.prog X.w) X.A (setItem ov iv u) (λ_ s'=>∃H',Inv X pins σ H' s'/\Q H') X.xe s
variable {tg:Expr}
section
variable {X:Cx}{pos:Pos}
def KY (i:Nat):TG:=λv σ H Q=>Q (σ.set i (some v)) H
theorem Ux {x:Str}(hN:X.N.Nodup)(hi:X.N[i]?=some x)(hx:Loc X.env.scope x)(hf:X.fn x=true\/X.env.scope.names.lookup x=some .local:=by walk_at "h"):PG X (.Name x pos) (KY i):=by
 intro pins s σ H v u Q I r h;exact wpAny_assign_Name (Fy I hN hi hx r (λs' I'=>⟨_,H,I',h⟩) hf)
def ZF:TGs:=λvs σ H Q=>vs=[]/\Q σ H
def S7 (t:TG)(u:TGs):TGs:=λvs σ H Q=>∃v r,vs=v :: r/\t v σ H λσ' H'=>u r σ' H' Q
theorem Uy:PGs X [] ZF:=by
 intro pins s σ H vs us Q I r h;obtain ⟨e,h⟩:=h;subst e
 cases r
 exact assignInOrder_nil ⟨σ,H,I,h⟩
theorem R0 {es:List Expr}{t:TG}{u:TGs}(h1:PG X e t)(h2:PGs X es u)
 (hs:(assignEach (e :: es) X.env).map (·.2)=assign e X.env :: (assignEach es X.env).map (·.2):=by rfl):PGs X (e :: es) (S7 t u):=by
 intro pins s σ H vs us Q I r h;obtain ⟨v,vr,e1,h⟩:=h;subst e1
 cases r with
 | cons r rr=>
   rw [hs];refine assignInOrder_cons (thn (h1 pins s σ H _ _ _ I r h) λ_ s1 z9=>?_);obtain ⟨σ1,H1,I1,q1⟩:=z9;exact h2 pins s1 σ1 H1 _ _ Q I1 rr q1
def ZH (K:PySem.W.Frag)(n:Nat)(t:TGs):TG:=λv σ H Q=>∃a xs,v = .ref a/\SqT K H a xs/\xs.length=n/\t xs σ H Q
theorem W4 {es:List Expr}{k:Nat}{t:TGs}{n:Nat}(hc:X.calm=true)(h:PGs X es t)
 (hn:(assignEach es X.env).length=n:=by rfl) (hst:(assignEach es X.env).findIdx? (·.1)=none:=by rfl):PG X (.Tuple es k pos) (ZH X.K n t):=by
 intro pins s σ H v u Q I r hw;obtain ⟨a,xs,e1,hq,hl,hw⟩:=hw;subst e1
 cases r
 obtain ⟨its,rv,ht,hz⟩:=I.tuple hq;refine assign_Tuple_tuple (I.ok.hd hc) ht (by simp [hn,<-hl,rv.length]) hst λh' hx=>?_;have I1:Inv X pins σ H { s with heap:=h' }:=I.kept (t':=s.toks) λb o e=>hx b o (ul0 (uk9 e)) e;exact h pins _ σ H xs _ Q I1 (by simpa using rv) hw
def ZG (to ti:TE)(t:QB):TG:=λv σ H Q=>to σ H λo H1=>ti σ H1 λi H2=>t o i v H2 λH3=>Q σ H3
theorem W3 {o i:Expr}{to ti:TE}{t:QB}(ho:PE X o to)(hi:PE X i ti)(hs:VA X t)
 (ha:∀v,assign (.Subscript o i pos) X.env v=(do
   let ov <-holding [v] (eval o X.env)
   let iv <-holding [v,ov] (eval i X.env)
   standAt pos
   holding [v,ov,iv] (setItem ov iv v)
   release [v,ov,iv] []):=by intro _;rfl):PG X (.Subscript o i pos) (ZG to ti t):=by
 intro pins s σ H v u Q I r h;rw [ha];refine um3 (uk8 (thn (ho pins s σ H _ I h) λov s1 z9=>?_));obtain ⟨x,H1,I1,r1,q1⟩:=z9;refine um3 (uk8 (thn (hi pins s1 σ H1 _ I1 q1) λiv s2 z9=>?_));obtain ⟨y,H2,I2,r2,q2⟩:=z9;refine um3 (wpAny_standAt (um3 (uk8 (thn (hs pins s2 σ H2 x y v ov iv u _ I2 r1 r2 r q2) λ_ s3 z9=>?_))));obtain ⟨H3,I3,q3⟩:=z9;exact wpAny_release ⟨σ,H3,I3,q3⟩
def Oe (te:TE)(g:TG):TS:=λD σ H=>te σ H λx H1=>g x σ H1 D.nx
theorem PY {te:TE}{g:TG}(he:PE X e te)(hg:PG X tg g)(hs:swapsWithSole [tg] e pos.line X.env=pure false:=by rfl)(hw:swappedStores [tg] e X.env=pure none:=by rfl)
 (h1:(assignEach [tg] X.env).map (·.2)=[assign tg X.env]:=by rfl):PS X (.Assign [tg] e pos) (Oe te g):=by
 intro pins s σ H D I h;refine wpAny_Assign_stores (thn (he pins s σ H _ I h) λv s1 z9=>?_) hs hw;obtain ⟨x,H1,I1,r1,q1⟩:=z9;rw [h1];exact thn (hg pins s1 σ H1 x v _ I1 r1 q1) λ_ s2 q=>q
theorem L6 {x:Str}{te:TE}{pos':Pos}(hN:X.N.Nodup)(hi:X.N[i]?=some x)(hx:Loc X.env.scope x)(he:PE X e te)(hs:swapsWith e (some (.Name x pos')) pos.line X.env=pure false:=by rfl)(hf:X.fn x=true\/X.env.scope.names.lookup x=some .local:=by walk_at "h") :
 PS X (.Assign [.Name x pos'] e pos) (Oe te (KY i)):=by
 intro pins s σ H D I h;refine wpAny_Assign_Name (thn (he pins s σ H _ I h) λv s1 z9=>?_) hs;obtain ⟨y,H1,I1,r1,q1⟩:=z9;exact Fy I1 hN hi hx r1 (λs2 I2=>⟨_,H1,I2,q1⟩) hf
end
section
variable {X:Cx}{pos:Pos}
def Qh (c:TT)(tb:TS):TS:=λD σ H=>∃W:Nat->St->Hp->Prop,(∃m,W m σ H)/\∀m σ H,W m σ H->
 c σ H λb H1=>if b=true then ∃N:St->Hp->Prop,(∀σ' H',N σ' H'->∃m',m' < m/\W m' σ' H')/\tb { D with nx:=N,ct:=N,bk:=D.nx } σ H1 else D.nx σ H1
theorem R8 {body:List Stmt}{tc:TT}{tb:TS}(hp:PassesOwn (model X.prog X.w) X.A X.env X.xe)(hc:PT X c tc)(hb:PSs X body tb):PS X (.While c body [] pos) (Qh tc tb):=by
 intro pins s σ H D I h;obtain ⟨W,⟨m0,w0⟩,turn⟩:=h;refine wpAny_While (codeAny_whileLoop (λn s'=>∃σ' H',Inv X pins σ' H' s'/\W n σ' H') ?_ m0 ⟨σ,H,I,w0⟩);rintro n s1 ⟨σ1,H1,I1,w1⟩;refine wpAny_passesOwn hp (thn (hc pins s1 σ1 H1 _ I1 (turn n σ1 H1 w1)) λb s2 z9=>?_);obtain ⟨H2,I2,q2⟩:=z9
 cases b with
 | true=>
   obtain ⟨N,hN,q2⟩:=q2;rw [if_pos rfl];refine wpAny_passesOwn hp (thn (hb pins s2 σ1 H2 _ I2 q2) λf s3 q3=>?_)
   cases f with
   | next=>
     obtain ⟨σ3,H3,I3,n3⟩:=q3;obtain ⟨m',hm,w3⟩:=hN σ3 H3 n3;exact ⟨m',hm,σ3,H3,I3,w3⟩
   | cont=>
     obtain ⟨σ3,H3,I3,n3⟩:=q3;obtain ⟨m',hm,w3⟩:=hN σ3 H3 n3;exact ⟨m',hm,σ3,H3,I3,w3⟩
   | brk=>exact q3
   | ret v=>exact q3
 | false=>
   rw [if_neg ue3];exact wpAny_execs_nil ⟨σ1,H2,I2,q2⟩
end
structure It where
 go:Nat->Hp->Prop
 yld:Nat->Hp->V->Hp->Prop
 stop:Nat->Hp->Prop
def FpOk (X:Cx)(pins:List (Addr×Obj))(H:Hp)(b:Addr):Prop:=
 H b=none/\b≠X.env.locals/\b∉X.fs/\(b∈X.ex\/X.s₀.heap.objs.size<=b)/\(∀x c,X.env.cells.lookup x=some c->c≠b)/\∀p∈X.pn++pins,p.1≠b
theorem Inv.fpOk {H':Hp}(I:Inv X pins σ H s)(hb:s.heap.objs.size<=b)(hn:H' b=none):FpOk X pins H' b:=by
 refine ⟨hn,ul2 (ue1 I.lt hb),I.nofs hb,.inr (ul1 I.sz hb),λx c e z=>?_,λp hp z=>?_⟩
 ·obtain ⟨v,q⟩:=I.cell x c e;exact absurd (ue1 q.lt (by rw [z];exact hb)) (uj7 _)
 ·exact absurd (ue1 (uk9 (I.pin p hp).1) (by rw [z];exact hb)) (uj7 _)
structure Turn (P:Program)(w:World)(K:PySem.W.Frag)(tg:Expr)(J:It)(fp:List Addr)(it:Addr)(tn:Nat->Heap->Prop):Prop where
 mem:it∈fp
 obj:∀i h,tn i h->∀b∈fp,∃o,h.get? b=some o/\∀v,o.data≠.cell v
 keep:∀i h h',tn i h->(∀b∈fp,∀o,h.get? b=some o->h'.get? b=some o)->tn i h'
 item:∀(X:Cx),X.prog=P->X.w=w->X.K=K->X.calm=true->∀(i:Nat) (pins:List (Addr×Obj)) (s:Shared) (σ:St) (H:Hp) (E:Value->Shared->Prop),Inv X pins σ H s->(∀b∈fp,FpOk X pins H b)->tn i s.heap->J.go i H->
  wpAny (model P w) X.A (pyNext (.ref it)) (λr s1=>∃u,r=some u/\
   wpAny (model P w) X.A (letOwnedTupleGo tg (.ref it) u) (λ_ s2=>∃x H',Inv X pins σ H' s2/\RelV x u/\J.yld i H x H'/\tn (i + 1) s2.heap/\∀b∈fp,H' b=none) E s1) E s
 done:∀(X:Cx),X.prog=P->X.w=w->X.K=K->X.calm=true->∀(i:Nat) (pins:List (Addr×Obj)) (s:Shared) (σ:St) (H:Hp) (E:Value->Shared->Prop),Inv X pins σ H s->(∀b∈fp,FpOk X pins H b)->tn i s.heap->J.stop i H->
  wpAny (model P w) X.A (pyNext (.ref it)) (λr s1=>r=none/\Inv X pins σ H s1) E s
 self:∀(A:Around) (i:Nat) (s:Shared) (Q:Value->Shared->Prop) (E:Value->Shared->Prop),tn i s.heap->Q (.ref it) s->wpAny (model P w) A (pyIter (.ref it)) Q E s
abbrev TI:=St->Hp->(It->Hp->Prop)->Prop
def PIE (X:Cx)(pins:List (Addr×Obj))(σ:St)(tg:Expr)(R:It->Hp->Prop)(itv:Value)(s2:Shared):Prop:=
 ∃(it:Addr) (fp:List Addr) (tn:Nat->Heap->Prop) (J:It) (H':Hp),itv = .ref it/\Inv X pins σ H' s2/\Turn X.prog X.w X.K tg J fp it tn/\tn 0 s2.heap/\(∀b∈fp,FpOk X pins H' b)/\R J H'
def PI (X:Cx)(tg iter:Expr)(wi:TI):Prop:=
 ∀(pins:List (Addr×Obj)) (s:Shared) (σ:St) (H:Hp) (R:It->Hp->Prop),Inv X pins σ H s->wi σ H R->
  wpAny (model X.prog X.w) X.A (eval iter X.env) (λv s1=>wpAny (model X.prog X.w) X.A (pyIter v) (PIE X pins σ tg R) X.xe s1) X.xe s
theorem KZ {M:Model}{A:Around}{it:Addr}{o:Obj}{n:String}{vs:Array Value}(ho:s.heap.get? it=some o)(hc:o.cls = .type n)(hd:o.data = .fields vs)
 (hn:["enumerate", "zip", "dict_itemiterator", "dict_reverseitemiterator", "odict_iterator", "itertools.zip_longest", "itertools.pairwise"].contains n=false) (hQ:Q () s):wpAny M A (letOwnedTupleGo tg (.ref it) u) Q E s:=by
 unfold letOwnedTupleGo
 cases tg <;> first
  | exact um4 hQ
  | (cases u <;> first
      | exact um4 hQ
      | (refine um3 (wpAny_load ho ?_)
         rw [hc,hd];show wpAny M A (if (["enumerate", "zip", "dict_itemiterator", "dict_reverseitemiterator", "odict_iterator", "itertools.zip_longest", "itertools.pairwise"].contains n && vs[0]? == some (rawInt _))=true then _ else _) Q E s;rw [if_neg (by intro h;rw [hn,uj2] at h;cases h)]
         exact um4 hQ))
def Itl (K:PySem.W.Frag)(a:Addr):It:=
 ⟨λi H=>∃xs x,SqL K H a xs/\xs[i]?=some x,λi H x H'=>H'=H/\∀xs,SqL K H a xs->xs[i]?=some x,λi H=>∃xs,SqL K H a xs/\xs.length<=i⟩
def Itt (K:PySem.W.Frag)(a:Addr):It:=
 ⟨λi H=>∃xs x,SqT K H a xs/\xs[i]?=some x,λi H x H'=>H'=H/\∀xs,SqT K H a xs->xs[i]?=some x,λi H=>∃xs,SqT K H a xs/\xs.length<=i⟩
noncomputable def Itr (lo:Int)(n:Nat):It:=⟨λi _=>i < n,λi H x H'=>H'=H/\x = .int (lo + i),λi _=>n<=i⟩
theorem Qj (a it:Addr):Turn P w K tg (Itl K a) [it] it (λi h=>h.IsListIter it a i) where
 mem:=by simp
 obj:=λi h st b hb=>by
  have e:b=it:=by simpa using hb
  subst e;obtain ⟨o,e,c,d⟩:=st;exact ⟨o,e,λv z=>by rw [d] at z;cases z⟩
 keep:=λi h h' st k=>st.at λo e=>k it (by simp) o e
 item:=by
  intro X hP hw hK hc i pins s σ H E I hf st hg;subst hP hw hK;obtain ⟨xs,x,hq,hx⟩:=hg;obtain ⟨its,rv,p,hz⟩:=I.list hq;obtain ⟨u,hu,ru⟩:=rv.get hx;obtain ⟨f0,f1,f2,f3,f4,f5⟩:=hf it (by simp);refine wpAny_pyNext_list_item st p.isList (x:=u) (by simpa using hu) λh' st' sb=>?_;have I1:Inv X pins σ H { s with heap:=h' }:=I.turned (t':=s.toks) (λb o hb e=>(sb.2 b hb).trans e) f0 f1 f3 f4 f5;obtain ⟨o,e,c,d⟩:=id st';exact ⟨u,rfl,KZ (s:={ s with heap:=h' }) e c d (by decide) ⟨x,H,I1,ru,⟨rfl,λys hy=>by rw [I.list_inj hy hq];exact hx⟩,st',λb hb=>(hf b hb).1⟩⟩
 done:=by
  intro X hP hw hK hc i pins s σ H E I hf st hg;subst hP hw hK;obtain ⟨xs,hq,hx⟩:=hg;obtain ⟨its,rv,p,hz⟩:=I.list hq;obtain ⟨f0,f1,f2,f3,f4,f5⟩:=hf it (by simp);have hl:=rv.length;exact wpAny_pyNext_list_end (I.ok.hd hc) st p.isList (by simp;lia) λh' eb=>⟨rfl,I.turned (t':=s.toks) (λb o hb e=>eb b o hb e) f0 f1 f3 f4 f5⟩
 self:=λ_ _ _ _ _ st h=>wpAny_pyIter_listiter st h
theorem Oh (a it:Addr):Turn P w K tg (Itt K a) [it] it (λi h=>h.IsTupleIter it a i) where
 mem:=by simp
 obj:=λi h st b hb=>by
  have e:b=it:=by simpa using hb
  subst e;obtain ⟨o,e,c,d⟩:=st;exact ⟨o,e,λv z=>by rw [d] at z;cases z⟩
 keep:=λi h h' st k=>st.at λo e=>k it (by simp) o e
 item:=by
  intro X hP hw hK hc i pins s σ H E I hf st hg;subst hP hw hK;obtain ⟨xs,x,hq,hx⟩:=hg;obtain ⟨its,rv,p,hz⟩:=I.tuple hq;obtain ⟨u,hu,ru⟩:=rv.get hx;obtain ⟨f0,f1,f2,f3,f4,f5⟩:=hf it (by simp);refine wpAny_pyNext_tuple_item st (show s.heap.IsTuple a its.toArray from p) (x:=u) (by simpa using hu) λh' st' sb=>?_;have I1:Inv X pins σ H { s with heap:=h' }:=I.turned (t':=s.toks) (λb o hb e=>(sb.2 b hb).trans e) f0 f1 f3 f4 f5;obtain ⟨o,e,c,d⟩:=id st';exact ⟨u,rfl,KZ (s:={ s with heap:=h' }) e c d (by decide) ⟨x,H,I1,ru,⟨rfl,λys hy=>by rw [I.tuple_inj hy hq];exact hx⟩,st',λb hb=>(hf b hb).1⟩⟩
 done:=by
  intro X hP hw hK hc i pins s σ H E I hf st hg;subst hP hw hK;obtain ⟨xs,hq,hx⟩:=hg;obtain ⟨its,rv,p,hz⟩:=I.tuple hq;obtain ⟨f0,f1,f2,f3,f4,f5⟩:=hf it (by simp);have hl:=rv.length;exact wpAny_pyNext_tuple_end (I.ok.hd hc) st (show s.heap.IsTuple a its.toArray from p) (by simp;lia) λh' eb=>⟨rfl,I.turned (t':=s.toks) (λb o hb e=>eb b o hb e) f0 f1 f3 f4 f5⟩
 self:=λ_ _ _ _ _ st h=>wpAny_pyIter_tupleiter st h
theorem Og (it:Addr)(lo:Int)(n:Nat):Turn P w K tg (Itr lo n) [it] it (λi h=>IsRangeIter h it (lo + (i:Nat) * 1) ((n:Int) - (i:Nat)) 1) where
 mem:=by simp
 obj:=λi h st b hb=>by
  have e:b=it:=by simpa using hb
  subst e;exact ⟨_,st,λv z=>by
   have z':Data.fields _=Data.cell v:=z
   cases z'⟩
 keep:=λi h h' st k=>k it (by simp) _ st
 item:=by
  intro X hP hw hK hc i pins s σ H E I hf st hg;subst hP hw hK;obtain ⟨f0,f1,f2,f3,f4,f5⟩:=hf it (by simp);have W:=Walks.range (prog:=X.prog) (w:=X.w) (I.ok.hd hc) it lo 1 n;refine W.item i s _ _ hg st λv h' tk hv st' kk=>?_;obtain ⟨t,rfl⟩:=hv;have I1:Inv X pins σ H { s with heap:=h',toks:=tk }:=I.turned (λb o hb e=>kk b o (by simpa using hb) e) f0 f1 f3 f4 f5;refine ⟨_,rfl,KZ (s:={ s with heap:=h',toks:=tk }) (n:="range_iterator") st' rfl rfl (by decide) ⟨.int (lo + i),H,I1,⟨t,?_⟩,⟨rfl,rfl⟩,st',λb hb=>(hf b hb).1⟩⟩;rw [Int.mul_one]
 done:=by
  intro X hP hw hK hc i pins s σ H E I hf st hg;subst hP hw hK;obtain ⟨f0,f1,f2,f3,f4,f5⟩:=hf it (by simp);exact wpAny_pyNext_range_end (I.ok.hd hc) st (by have:n<=i:=hg;lia) λh' eb=>⟨rfl,I.turned (t':=s.toks) (λb o hb e=>eb b o hb e) f0 f1 f3 f4 f5⟩
 self:=λ_ _ _ _ _ st h=>wpAny_pyIter_rangeiter st h
variable {fp:List Addr}
section
variable {X:Cx}{tg:Expr}
theorem L8 {R:It->Hp->Prop}{lo hi:Int}{t u v:Tok}{tk:Nat}(I:Inv X pins σ H s)(h1 : -(2 ^ 62)<=lo)(h2:lo < 2 ^ 62)(h3 : -(2 ^ 62)<=hi)(h4:hi < 2 ^ 62)
 (q:R (Itr lo (hi - lo).toNat) H):wpAny (model X.prog X.w) X.A (pyIter (.ref s.heap.objs.size)) (PIE X pins σ tg R) E { s with heap:=s.heap.push { cls:=.type "range",data:=.fields #[.int lo t,.int hi u,.int 1 v] },toks:=tk }:=by
 refine wpAny_pyIter_range (IsRange.new ..) (small_one h1 h2 h3 h4) ?_;have I1:Inv X pins σ H { s with heap:=s.heap.push { cls:=.type "range",data:=.fields #[.int lo t,.int hi u,.int 1 v] },toks:=tk }:=I.kept λb o e=>ub9 _ e;refine ⟨(s.heap.push { cls:=.type "range",data:=.fields #[.int lo t,.int hi u,.int 1 v] }).objs.size,[(s.heap.push { cls:=.type "range",data:=.fields #[.int lo t,.int hi u,.int 1 v] }).objs.size],_,_,H,rfl,
  I1.kept (t':=tk) λb o e=>ub9 _ e,Og _ lo (hi - lo).toNat,?_,λb hb=>?_,q⟩
 ·have e1:lo + ((0:Nat):Int) * 1=lo:=by simp
  have e2:(((hi - lo).toNat:Nat):Int) - ((0:Nat):Int)=Builtin.Range.rangeSize lo hi 1:=by rw [rangeSize_one];split <;> lia
  show IsRangeIter _ _ (lo + ((0:Nat):Int) * 1) ((((hi - lo).toNat:Nat):Int) - ((0:Nat):Int)) 1;rw [e1,e2];exact ud7 _ rfl
 ·have e:b=(s.heap.push { cls:=.type "range",data:=.fields #[.int lo t,.int hi u,.int 1 v] }).objs.size:=by simpa using hb
  subst e;exact I1.fpOk (ul9 _) (I1.hok.fresh (ul9 _))
def Yn (ta:TA):TI:=λσ H R=>ta σ H λvs H1=>∃j:Int,vs=[.int j]/\-(2 ^ 62)<=j/\j < 2 ^ 62/\R (Itr 0 j.toNat) H1
def Yo (ta:TA):TI:=λσ H R=>ta σ H λvs H1=>∃i j:Int,vs=[.int i,.int j]/\(-(2 ^ 62)<=i/\i < 2 ^ 62/\-(2 ^ 62)<=j/\j < 2 ^ 62)/\R (Itr i (j - i).toNat) H1
theorem PU {a:Expr}{ta:TA}{p pos:Pos}(hg:Gl X "range")(hm:X.mg "range" = none)(ha:PA X [a] ta)(hs:starEach [a] X.env=[(false,eval a X.env)]:=by rfl):PI X tg (.Call (.Name "range" p) [a] [] pos) (Yn ta):=by
 intro pins s σ H R I h;refine Call_ (Fl I hg hm boot_range (ua3 (thn (ha pos pins s σ H _ I h) λus s1 z9=>?_) hs rfl));obtain ⟨vs,H1,I1,r1,q1⟩:=z9;obtain ⟨j,e,q1,q2,q⟩:=q1;subst e
 cases r1 with
 | cons r rr=>
   cases rr
   obtain ⟨t,rfl⟩:=r;exact call_range_1 (L8 I1 (by lia) (by lia) q1 q2 (by simpa using q))
theorem PV {a b:Expr}{ta:TA}{p pos:Pos}(hg:Gl X "range")(hm:X.mg "range" = none)(ha:PA X [a,b] ta)(hs:starEach [a,b] X.env=[(false,eval a X.env),(false,eval b X.env)]:=by rfl)(hs2:starEach [b] X.env=[(false,eval b X.env)]:=by rfl) :
 PI X tg (.Call (.Name "range" p) [a,b] [] pos) (Yo ta):=by
 intro pins s σ H R I h;refine Call_ (Fl I hg hm boot_range (ua3 (thn (ha pos pins s σ H _ I h) λus s1 z9=>?_) (by rw [hs,hs2]) (by rw [hs2];rfl)));obtain ⟨vs,H1,I1,r1,q1⟩:=z9;obtain ⟨i,j,e,⟨q1,q2,q3,q4⟩,q⟩:=q1;subst e
 cases r1 with
 | cons r rr=>
   cases rr with
   | cons r' rr=>
     cases rr
     obtain ⟨t,rfl⟩:=r;obtain ⟨t',rfl⟩:=r';exact call_range_2 (L8 I1 q1 q2 q3 q4 q)
def Sx (wi:TI)(g:TG)(tb:TS):TS:=λD σ H=>wi σ H λJ H1=>∃W:Nat->Nat->St->Hp->Prop,(∃m,W 0 m σ H1)/\∀i m σ H,W i m σ H->
 (J.stop i H/\D.nx σ H)\/(J.go i H/\∃N:St->Hp->Prop,(∀σ' H',N σ' H'->∃m',m' < m/\W (i + 1) m' σ' H')/\∀x H',J.yld i H x H'->g x σ H' λσ2 H2=>tb { D with nx:=N,ct:=N,bk:=D.nx } σ2 H2)
noncomputable def G9 (fp:List Addr)(h:Heap):List (Addr×Obj):=fp.filterMap λb=>(h.get? b).map λo=>(b,o)
theorem EW {o:Obj}(hb:b∈fp)(e:h.get? b=some o):(b,o)∈G9 fp h:=List.mem_filterMap.mpr ⟨b,hb,by rw [e];rfl⟩
theorem PC {p:Addr×Obj}(hp:p∈G9 fp h):p.1∈fp/\h.get? p.1=some p.2:=by
 obtain ⟨b,hb,e⟩:=List.mem_filterMap.mp hp
 cases q:h.get? b with
 | none=>rw [q] at e;cases e
 | some o=>
   rw [q] at e;have e':(b,o)=p:=uh8 e;subst e';exact ⟨hb,q⟩
theorem Inv.pinned (I:Inv X pins σ H s)(hf:∀b∈fp,FpOk X pins H b)(ho:∀b∈fp,∃o,s.heap.get? b=some o/\∀v,o.data≠.cell v):Inv X (pins++G9 fp s.heap) σ H s:=
 I.pins_of λp hp=>(uh7.mp hp).elim (λz=>I.pin p (uc7 _ z)) λz=>by
  obtain ⟨hb,e⟩:=PC z;obtain ⟨f0,f1,f2,_⟩:=hf p.1 hb;obtain ⟨o,e',d⟩:=ho p.1 hb;rw [e] at e';cases e'
  exact ⟨e,f0,f1,f2,d⟩
theorem Inv.unpinned {pl:List (Addr×Obj)}(I:Inv X (pins++pl) σ H s):Inv X pins σ H s:=I.pins_of λp hp=>I.pin p (uc7 _ (List.mem_append_left _ hp))
theorem PZ {iter:Expr}{body:List Stmt}{wi:TI}{g:TG}{tb:TS}{pos:Pos}(hp:PassesOwn (model X.prog X.w) X.A X.env X.xe)(hc:X.calm=true)(hi:PI X tg iter wi)(hg:PG X tg g)(hb:PSs X body tb)
 (hs:∀x,foldedSetIterable iter X.env x=pure x:=by intro _;rfl):PS X (.For tg iter body [] pos) (Sx wi g tb):=by
 intro pins s σ H D I h;refine wpAny_For (thn (hi pins s σ H _ I h) λv s1 h1=>thn h1 λitv s2 h2=>?_) hs;obtain ⟨it,fp,tn,J,H2,e,I2,T,st2,f2,W,⟨m0,w0⟩,turn⟩:=h2;subst e
 -- what stays true of the iterator's objects through the loop
 have stat:∀{H':Hp},(∀b∈fp,H' b=none)->∀b∈fp,FpOk X pins H' b:=λhn b hb=>⟨hn b hb,(f2 b hb).2⟩;refine codeAny_forLoop_any (λn s'=>∃i σ' H',Inv X pins σ' H' s'/\tn i s'.heap/\(∀b∈fp,H' b=none)/\W i n σ' H') ?_ m0 ⟨0,σ,H2,I2,st2,λb hb=>(f2 b hb).1,w0⟩;rintro n s3 ⟨i,σ3,H3,I3,st3,fr3,w3⟩;rcases turn i n σ3 H3 w3 with ⟨stop,qn⟩ | ⟨go,N,hN,step⟩
 ·refine wpAny_passesOwn hp (thn (T.done X rfl rfl rfl hc i pins s3 σ3 H3 X.xe I3 (stat fr3) st3 stop) λr s4 z9=>?_);obtain ⟨hr,I4⟩:=z9;subst hr;exact wpAny_execs_nil ⟨σ3,H3,I4,qn⟩
 ·refine wpAny_passesOwn hp (thn (T.item X rfl rfl rfl hc i pins s3 σ3 H3 X.xe I3 (stat fr3) st3 go) λr s4 z9=>?_);obtain ⟨u,hr,h4⟩:=z9;subst hr;refine wpAny_passesOwn hp (thn h4 λ_ s5 z9=>?_);obtain ⟨x,H5,I5,r5,y5,st5,fr5⟩:=z9;have I5':=I5.pinned (stat fr5) (T.obj _ _ st5);refine wpAny_passesOwn hp (thn (hg _ s5 σ3 H5 x u _ I5' r5 (step x H5 y5)) λ_ s6 z9=>?_);obtain ⟨σ6,H6,I6,q6⟩:=z9;refine wpAny_passesOwn hp (thn (hb _ s6 σ6 H6 _ I6 q6) λf s7 q7=>?_);have again:∀{σ7:St} {H7:Hp},Inv X (pins++G9 fp s5.heap) σ7 H7 s7->N σ7 H7->∃m,m < n/\∃i σ' H',Inv X pins σ' H' s7/\tn i s7.heap/\(∀b∈fp,H' b=none)/\W i m σ' H':=λ{σ7 H7} I7 n7=>by
   obtain ⟨m',hm,w7⟩:=hN σ7 H7 n7;refine ⟨m',hm,i + 1,σ7,H7,I7.unpinned,T.keep _ _ _ st5 λb hb o e=>(I7.pin (b,o) (uc7 _ (uc7 _ (EW hb e)))).1,λb hb=>?_,w7⟩;obtain ⟨o,e,d⟩:=T.obj _ _ st5 b hb;exact (I7.pin (b,o) (uc7 _ (uc7 _ (EW hb e)))).2.1
  cases f with
  | next=>obtain ⟨σ7,H7,I7,n7⟩:=q7;exact again I7 n7
  | cont=>obtain ⟨σ7,H7,I7,n7⟩:=q7;exact again I7 n7
  | brk=>obtain ⟨σ7,H7,I7,q7⟩:=q7;exact ⟨σ7,H7,I7.unpinned,q7⟩
  | ret v=>obtain ⟨x7,σ7,H7,I7,r7,q7⟩:=q7;exact ⟨x7,σ7,H7,I7.unpinned,r7,q7⟩
end
abbrev R2:=V->V->Hp->VK->Prop
def OpR (X:Cx)(f:Value->Value->Sem Value)(r:R2):Prop:=
 ∀(pins:List (Addr×Obj)) (s:Shared) (σ:St) (H:Hp) (x y:V) (v u:Value) (Q:VK),Inv X pins σ H s->RelV x v->RelV y u->r x y H Q->
  wpAny (model X.prog X.w) X.A (f v u) (EP X pins σ Q) X.xe s
def Cm (X:Cx)(f:Value)(r:List V->Hp->VK->Prop):Prop:=
 ∀(pins:List (Addr×Obj)) (s:Shared) (σ:St) (H:Hp) (xs:List V) (us:List Value) (Q:VK),Inv X pins σ H s->Vals xs us->r xs H Q->
  wpAny (model X.prog X.w) X.A (call f us) (EP X pins σ Q) X.xe s
def tOp (r:R2)(ta tb:TE):TE:=λσ H Q=>ta σ H λx H1=>tb σ H1 λy H2=>r x y H2 Q
def rI (C:Int->Int->Prop)(g:Int->Int->V):R2:=λx y H Q=>∃i j,x = .int i/\y = .int j/\C i j/\Q (g i j) H
def rI0 (g:Int->Int->V):R2:=λx y H Q=>∃i j,x = .int i/\y = .int j/\Q (g i j) H
variable {r:R2}{f:Value->Value->Sem Value}
section
variable {X:Cx}{a b c:Expr}{ta tb tc:TE}{pos:Pos}
theorem QH (ha:PE X a ta)(hb:PE X b tb){pins:List (Addr×Obj)}{s:Shared}{σ:St}{H:Hp}{R:V->V->Hp->Prop}(I:Inv X pins σ H s)
 (h:ta σ H λx H1=>tb σ H1 λy H2=>R x y H2) {Q:Value->Shared->Prop} {f:Value->Value->Sem Value}
 (hf:∀v u s2 x y H2,Inv X pins σ H2 s2->RelV x v->RelV y u->R x y H2->wpAny (model X.prog X.w) X.A (f v u) Q X.xe s2) :
 wpAny (model X.prog X.w) X.A (eval a X.env) (λv s₁=>wpAny (model X.prog X.w) X.A (eval b X.env) (λu s₂=>wpAny (model X.prog X.w) X.A (f v u) Q X.xe s₂) X.xe s₁) X.xe s:=by
 refine thn (ha pins s σ H _ I h) λv s1 z9=>?_;obtain ⟨x,H1,I1,r1,q1⟩:=z9;refine thn (hb pins s1 σ H1 _ I1 q1) λu s2 z9=>?_;obtain ⟨y,H2,I2,r2,q2⟩:=z9;exact hf v u s2 x y H2 I2 r1 r2 q2
theorem NY {op:Operator}(ho:OpR X (binaryOp op) r)(ha:PE X a ta)(hb:PE X b tb):PE X (.BinOp a op b pos) (tOp r ta tb):=by
 intro pins s σ H Q I h;exact wpAny_BinOp (QH ha hb I h λv u s2 x y H2 I2 rx ry q=>ho pins s2 σ H2 x y v u Q I2 rx ry q)
theorem opI {C:Int->Int->Prop}{g:Int->Int->Int}
 (rule:∀(i j:Int) (t u:Tok) (s:Shared) (Q:Value->Shared->Prop) (E:Value->Shared->Prop),C i j->Q (.int (g i j) s.toks) { s with toks:=s.toks + 1 }->wpAny (model X.prog X.w) X.A (f (.int i t) (.int j u)) Q E s) :
 OpR X f (rI C λi j=>.int (g i j)):=by
 intro pins s σ H x y v u Q I rx ry h;obtain ⟨i,j,rfl,rfl,hc,q⟩:=h;obtain ⟨t,rfl⟩:=rx;obtain ⟨t',rfl⟩:=ry;exact rule i j t t' s _ _ hc ⟨.int (g i j),H,I.tok _,⟨_,rfl⟩,q⟩
theorem WJ {g:Int->Int->Int}
 (rule:∀(i j:Int) (t u:Tok) (s:Shared) (Q:Value->Shared->Prop) (E:Value->Shared->Prop),Q (.int (g i j) s.toks) { s with toks:=s.toks + 1 }->wpAny (model X.prog X.w) X.A (f (.int i t) (.int j u)) Q E s) :
 OpR X f (rI0 λi j=>.int (g i j)):=by
 intro pins s σ H x y v u Q I rx ry h;obtain ⟨i,j,rfl,rfl,q⟩:=h;obtain ⟨t,rfl⟩:=rx;obtain ⟨t',rfl⟩:=ry;exact rule i j t t' s _ _ ⟨.int (g i j),H,I.tok _,⟨_,rfl⟩,q⟩
theorem NW {g:Int->Int->Bool}
 (rule:∀(i j:Int) (t u:Tok) (s:Shared) (Q:Value->Shared->Prop) (E:Value->Shared->Prop),Q (.bool (g i j)) s->wpAny (model X.prog X.w) X.A (f (.int i t) (.int j u)) Q E s) :
 OpR X f (rI0 λi j=>.bl (g i j)):=by
 intro pins s σ H x y v u Q I rx ry h;obtain ⟨i,j,rfl,rfl,q⟩:=h;obtain ⟨t,rfl⟩:=rx;obtain ⟨t',rfl⟩:=ry;exact rule i j t t' s _ _ ⟨.bl (g i j),H,I,rfl,q⟩
def Vv (i j:Int):Prop:=0 < j/\j < 1073741824
def CMul (i j:Int):Prop:=(-(2 ^ 64) < i/\i < 2 ^ 64)\/(-(2 ^ 64) < j/\j < 2 ^ 64)
theorem CMul.ok {i j:Int}(h:CMul i j):IntMulOk i j:=by
 rcases h with ⟨h1,h2⟩ | ⟨h1,h2⟩
 ·exact .of_left (intBits_le_64 h1 h2)
 ·exact .of_right (intBits_le_64 h1 h2)
theorem two_pow_nn (k:Nat):(0:Int)<=2 ^ k:=by
 rw [two_pow_cast];exact Int.natCast_nonneg _
theorem op_add:OpR X (binaryOp .Add) (rI0 λi j=>.int (i + j)):=WJ λ_ _ _ _ _ _ _ q=>add_int q
theorem WQ:OpR X (binaryOp .Sub) (rI0 λi j=>.int (i - j)):=WJ λ_ _ _ _ _ _ _ q=>sub_int q
theorem WO:OpR X (binaryOp .Mult) (rI CMul λi j=>.int (i * j)):=opI λ_ _ _ _ _ _ _ hc q=>mul_int q hc.ok
theorem Ul:OpR X (binaryOp .FloorDiv) (rI Vv λi j=>.int (i / j)):=opI λi j _ _ _ _ _ hc q=>by
 have h1:(0:Int) < j:=hc.1;have h2:j < 1073741824:=hc.2;exact floordiv_int (by lia) (by rw [Int.fdiv_eq_ediv_of_nonneg i (by lia)];exact q) (.inl (PyProof.noPylong_small (by lia)))
theorem WN:OpR X (binaryOp .Mod) (rI (λ_ j=>0 < j) λi j=>.int (i % j)):=opI λi j _ _ _ _ _ hc q=>by
 have h1:(0:Int) < j:=hc;exact mod_int' (by lia) (by rw [Int.fmod_eq_emod_of_nonneg i (by lia)];exact q)
theorem WP:OpR X (binaryOp .RShift) (rI (λ_ j=>0<=j) λi j=>.int (i / 2 ^ j.toNat)):=opI λi j _ _ _ _ _ hc q=>
 rshift_int hc (by rw [Int.fdiv_eq_ediv_of_nonneg i (two_pow_nn _)];exact q)
end
variable {op:CmpOp}{us:List Value}
section
variable {X:Cx}{a b c:Expr}{ta tb tc:TE}{pos:Pos}
theorem op_lt:OpR X (compareOp .Lt) (rI0 λi j=>.bl (decide (i < j))):=NW λ_ _ _ _ _ _ _ q=>lt_int q
theorem op_le:OpR X (compareOp .LtE) (rI0 λi j=>.bl (decide (i<=j))):=NW λ_ _ _ _ _ _ _ q=>le_int q
theorem op_gt:OpR X (compareOp .Gt) (rI0 λi j=>.bl (decide (j < i))):=NW λ_ _ _ _ _ _ _ q=>gt_int q
theorem op_ge:OpR X (compareOp .GtE) (rI0 λi j=>.bl (decide (j<=i))):=NW λ_ _ _ _ _ _ _ q=>ge_int q
theorem OpR.or {r':R2}(h:OpR X f r)(h':OpR X f r'):OpR X f (λx y H Q=>r x y H Q\/r' x y H Q):=by
 intro pins s σ H x y v u Q I rx ry q;rcases q with q | q
 ·exact h pins s σ H x y v u Q I rx ry q
 ·exact h' pins s σ H x y v u Q I rx ry q
theorem DN (b:Expr){op:CmpOp}(h:op≠.In:=by decide)(h2:op≠.NotIn:=by decide):behindInMarks op b=false:=by
 have e1:(op == CmpOp.In)=false:=by cases op <;> first | rfl | exact absurd rfl h
 have e2:(op == CmpOp.NotIn)=false:=by cases op <;> first | rfl | exact absurd rfl h2
 cases b <;> simp [behindInMarks,e1,e2]
theorem Ut (ho:OpR X (compareOp op) r)(ha:PE X a ta)(hb:PE X b tb)(hm:behindInMarks op b=false):PE X (.Compare a [op] [b] pos) (tOp r ta tb):=by
 intro pins s σ H Q I h;exact wpAny_Compare1 (QH ha hb I h λv u s2 x y H2 I2 rx ry q=>ho pins s2 σ H2 x y v u Q I2 rx ry q) hm
def YN (t:TE):TT:=λσ H Q=>t σ H λx H'=>∃k,x = .bl k/\Q k H'
theorem UI (ho:OpR X (compareOp op) r)(ha:PE X a ta)(hb:PE X b tb)(hm:behindInMarks op b=false):PT X (.Compare a [op] [b] pos) (YN (tOp r ta tb)):=by
 intro pins s σ H Q I h;refine wpAny_isTrue_Compare1 (thn (ha pins s σ H _ I h) λv s1 ⟨x,H1,I1,r1,q1⟩=>thn (hb pins s1 σ H1 _ I1 q1) λu s2 ⟨y,H2,I2,r2,q2⟩=>
  thn (ho pins s2 σ H2 x y v u _ I2 r1 r2 q2) λc s3 ⟨z,H3,I3,r3,k,e,q3⟩=>?_) hm
 subst e
 cases r3
 exact wpAny_truthy_bool ⟨H3,I3,q3⟩
def Qg (r r':R2)(ta tb tc:TE):TE:=λσ H Q=>ta σ H λx H1=>tb σ H1 λy H2=>r x y H2 λz H3=>∃k,z = .bl k/\
 (if k=true then tc σ H3 λw' H4=>r' y w' H4 Q else Q (.bl false) H3)
theorem RQ {op':CmpOp}{r':R2}(ho:OpR X (compareOp op) r)(ho':OpR X (compareOp op') r')(ha:PE X a ta)(hb:PE X b tb)(hc:PE X c tc)
 (hm:lastMarks [op,op'] [b,c]=false:=by with_unfolding_all rfl):PE X (.Compare a [op,op'] [b,c] pos) (Qg r r' ta tb tc):=by
 intro pins s σ H Q I h;refine Compare_chain (thn (ha pins s σ H _ I h) λv s1 ⟨x,H1,I1,r1,q1⟩=>chain_link (thn (hb pins s1 σ H1 _ I1 q1) λu s2 ⟨y,H2,I2,r2,q2⟩=>
  thn (ho pins s2 σ H2 x y v u _ I2 r1 r2 q2) λd s3 ⟨z,H3,I3,r3,k,e,q3⟩=>?_)) hm
 subst e
 cases r3
 refine wpAny_truthy_bool ?_
 cases k with
 | false=>exact ite_ff ⟨.bl false,H3,I3,rfl,q3⟩
 | true=>exact ite_tt (chain_last (thn (hc pins s3 σ H3 _ I3 q3) λw' s4 z9=>by obtain ⟨z',H4,I4,r4,q4⟩:=z9;exact ho' pins s4 σ H4 y z' u w' Q I4 r2 r4 q4))
theorem Jc:(sizeLine:Nat) < 2 ^ 63:=by rw [sizeLine_eq];decide
theorem op_add_str:OpR X (binaryOp .Add) (λx y H Q=>∃i j,x = .str i/\y = .str j/\i.length + j.length<=sizeLine/\Q (.str (i++j)) H):=by
 intro pins s σ H x y v u Q I rx ry h;obtain ⟨i,j,rfl,rfl,hz,q⟩:=h;obtain ⟨t,rfl⟩:=rx;obtain ⟨t',rfl⟩:=ry;exact add_str (λt' tk=>⟨.str (i++j),H,I.tok _,⟨_,rfl⟩,q⟩) hz
theorem FG {x:V}(r:Vals [x] us):∃u,us=[u]/\RelV x u:=by
 cases r with
 | cons r1 r2=>cases r2;exact ⟨_,rfl,r1⟩
theorem Oj {x y:V}(r:Vals [x,y] us):∃u w',us=[u,w']/\RelV x u/\RelV y w':=by
 cases r with
 | cons r1 r2=>
   cases r2 with
   | cons r3 r4=>cases r4;exact ⟨_,_,rfl,r1,r3⟩
theorem OG (hc:X.calm=true):Cm X (.builtin "max") (λxs H Q=>∃i j,xs=[.int i,.int j]/\Q (.int (if j > i then j else i)) H):=by
 intro pins s σ H xs us Q I r h;obtain ⟨i,j,rfl,q⟩:=h;obtain ⟨u,w',rfl,⟨t,rfl⟩,⟨t',rfl⟩⟩:=Oj r;refine max_two_ints (I.ok.hd hc) λh' tk k=>⟨_,H,I.kept k,?_,q⟩
 by_cases hj:j > i
 ·rw [if_pos hj,if_pos hj];exact ⟨_,rfl⟩
 ·rw [if_neg hj,if_neg hj];exact ⟨_,rfl⟩
theorem OH (hc:X.calm=true):Cm X (.builtin "min") (λxs H Q=>∃i j,xs=[.int i,.int j]/\Q (.int (if j < i then j else i)) H):=by
 intro pins s σ H xs us Q I r h;obtain ⟨i,j,rfl,q⟩:=h;obtain ⟨u,w',rfl,⟨t,rfl⟩,⟨t',rfl⟩⟩:=Oj r;refine min_two_ints (I.ok.hd hc) λh' tk k=>⟨_,H,I.kept k,?_,q⟩
 by_cases hj:j < i
 ·rw [if_pos hj,if_pos hj];exact ⟨_,rfl⟩
 ·rw [if_neg hj,if_neg hj];exact ⟨_,rfl⟩
theorem OF:Cm X (.type "int") (λxs H Q=>(∃i,xs=[.int i]/\Q (.int i) H)\/∃k,xs=[.bl k]/\Q (.int (if k then 1 else 0)) H):=by
 intro pins s σ H xs us Q I r h;rcases h with ⟨i,rfl,q⟩ | ⟨k,rfl,q⟩
 ·obtain ⟨u,rfl,t,rfl⟩:=FG r;exact call_int_int ⟨.int i,H,I,⟨_,rfl⟩,q⟩
 ·obtain ⟨u,rfl,r1⟩:=FG r
  cases r1
  exact call_int_bool ⟨.int (if k then 1 else 0),H,I.tok _,⟨_,rfl⟩,q⟩
theorem QN:Cm X (.builtin "ord") (λxs H Q=>∃x,xs=[.str x]/\x.length=1/\Q (.int (x.cps.getD 0 0:Nat)) H):=by
 intro pins s σ H xs us Q I r h;obtain ⟨x,rfl,hz,q⟩:=h;obtain ⟨u,rfl,t,rfl⟩:=FG r;exact ord_of_one hz ⟨.int _,H,I.tok _,⟨_,rfl⟩,q⟩
def Vy (K:PySem.W.Frag)(x:V)(H:Hp)(n:Nat):Prop:=
 match x with
 | .str y=>y.length<=sizeLine/\n=y.length
 | .byt y=>y.size<=sizeLine/\n=y.size
 | .ref p=>(∃xs,SqL K H p xs/\n=xs.length)\/∃xs,SqT K H p xs/\n=xs.length
 | _=>False
theorem QM:Cm X (.builtin "len") (λxs H Q=>∃x n,xs=[x]/\Vy X.K x H n/\Q (.int n) H):=by
 intro pins s σ H xs us Q I r h;obtain ⟨x,n,rfl,e,q⟩:=h;obtain ⟨u,rfl,rx⟩:=FG r;have hl:=Jc;have hs:sizeLine=16777216:=sizeLine_eq
 cases x with
 | str y=>
   obtain ⟨t,rfl⟩:=rx;obtain ⟨hy,e'⟩:y.length<=sizeLine/\n=y.length:=e;subst e';exact len_str (by lia) ⟨.int _,H,I.tok _,⟨_,rfl⟩,q⟩
 | byt y=>
   obtain ⟨t,rfl⟩:=rx;obtain ⟨hy,e'⟩:y.size<=sizeLine/\n=y.size:=e;subst e';exact PySem.W.len_bytes (by lia) ⟨.int _,H,I.tok _,⟨_,rfl⟩,q⟩
 | ref p=>
   cases rx
   have e':(∃xs,SqL X.K H p xs/\n=xs.length)\/∃xs,SqT X.K H p xs/\n=xs.length:=e;rcases e' with ⟨xs,hx,e'⟩ | ⟨xs,hx,e'⟩
   ·subst e';obtain ⟨its,r',pl,hz⟩:=I.list hx;have hlen:=r'.length;exact Calls.call_len_list pl.isList (by simp only [uf2];lia) ⟨.int xs.length,H,I.tok _,⟨_,by simp only [uf2];rw [hlen]⟩,q⟩
   ·subst e';obtain ⟨its,r',pl,hz⟩:=I.tuple hx;have hlen:=r'.length;exact len_tuple pl (by simp only [uf2];lia) ⟨.int xs.length,H,I.tok _,⟨_,by simp only [uf2];rw [hlen]⟩,q⟩
 | _=>exact (show False from e).elim
end
structure ObjM (h:Heap)(x dx C:Addr)(mA:Str->Option Value):Prop where
 obj:h.get? x=some (PySem.W.instObj C dx)
 ns:h.Ns1 dx mA
 ne:dx≠x
theorem GZ {dx:Addr}{mA:Str->Option Value}(n:h.Ns1 dx mA):∃od,h.get? dx=some od/\∀name,PySem.W.lookIn name od=some (mA name):=by
 obtain ⟨o,es,ep,ho,hd,hk,_,hm⟩:=n;refine ⟨o,ho,λname=>?_⟩;have e:=hm name;unfold nsFind findBy at e;rw [<-ue4] at e;unfold PySem.W.lookIn;rw [hd];dsimp only
 split
 ·rename_i y q;rw [q] at e;exact congrArg some e
 ·rename_i q;rw [q] at e;have a:es.toList.any (·.refKey)=false:=by
   rw [List.any_eq_false];intro y hy;obtain ⟨z,t,hkey⟩:=hk y (Array.mem_toList_iff.mp hy);simp [DictEntry.refKey,hkey]
  have a':¬es.toList.any (·.refKey)=true:=by rw [a];exact ue3
  rw [if_neg a'];exact congrArg some e
variable {C:Addr}
theorem ObjM.look {x dx:Addr}{mA:Str->Option Value}(I:ObjM h x dx C mA):∃od,PySem.W.InstAt h x (PySem.W.instObj C dx) C (some od)/\∀name,PySem.W.lookIn name od=some (mA name):=
 let ⟨od,ho,hl⟩:=GZ I.ns
 ⟨od,⟨I.obj,rfl,rfl,ho⟩,hl⟩
variable {pl:Sem Bool}{kw:List (Str×Value)}
section
variable {prog:Program}{w:World}{A:Around}{E:Value->Shared->Prop}{s:Shared}{K:PySem.W.Frag}{x dx C f:Addr}{mA:Str->Option Value}{name:Str}{v:Value}
theorem TZ {expr:Bool}{Q:Value->Shared->Prop}(X:K.In s.heap)(I:ObjM s.heap x dx C mA)(hg:PySem.W.plainGet K C name=true)(hh:PySem.W.hasDictIn K C=true)
 (ha:PySem.W.findIn K (.ref C) name=some none) (hv:mA name=some v) (hv':PySem.W.handedIn v=true) (h:Q v { s with toks:=s.toks + 1 }) :
 wpAny (model prog w) A (getAttr (.ref x) name expr) Q E s:=by
 obtain ⟨od,J,hl⟩:=I.look;exact PySem.W.get_value X J (ud8 hg).1 (PySem.W.findObj_own hh ha rfl (by rw [hl,hv])) hv' h
theorem Q9 {Q:Value×List Value->Shared->Prop}(X:K.In s.heap)(I:ObjM s.heap x dx C mA)(hg:PySem.W.plainGet K C name=true)
 (hf:PySem.W.findIn K (.ref C) name=some (some (.ref f))) (ht:PySem.W.isFn K (.ref f)=true) (hv:mA name=none) (h:Q (.ref f,[.ref x]) s) :
 wpAny (model prog w) A (getMethod (.ref x) name pl) Q E s:=by
 obtain ⟨od,J,hl⟩:=I.look;exact PySem.W.method_fn X J (ud8 hg).1 (ud8 hg).2 hf (beq_iff_eq.mp ht) (by show (PySem.W.lookIn name od).map (·.isSome)=some false;rw [hl,hv];rfl) h
theorem Va {ns:List Str}(X:K.In s.heap)(I:ObjM s.heap x dx C mA)
 (hs:PySem.W.findIn K (.ref C) "__setattr__" = some (some (.builtin "object.__setattr__"))) (hp:PySem.W.plainOver K C=true) (ht:PySem.W.takerIn K C name=some none) (hh:PySem.W.hasDictIn K C=true)
 (hw:PySem.Within mA ns) (hsz:ns.length<=sizeLine)
 (h:∀h',ObjM h' x dx C (λy=>if y=name then some v else mA y)->Heap.SameBut dx s.heap h'->Q () { s with heap:=h',toks:=s.toks + 2 }) :
 wpAny (model prog w) A (setAttr (.ref x) name v) Q E s:=by
 obtain ⟨od,J,hl⟩:=I.look;refine PySem.W.set_plain X J hs (PySem.W.osa_open (s:={ s with toks:=s.toks + 1 }) (r:=none) X J hp ht λb=>?_);obtain ⟨cd,hc,hd'⟩:=PySem.W.any_some hh;have hx:s.heap.get? x=some ⟨.ref C,some dx,.plain,#[]⟩:=I.obj;refine um3 (um4 (um3 (um3 (wpAny_loadPart hx (um3 (PySem.W.Looks.here (s:={ s with toks:=s.toks + 1 }) (PySem.W.looks_clsIn X hc) ?_))))));rw [hd'];refine um4 (a:=some dx) (um3 (um4 (um3 ?_)));refine wpAny_nsSet1 (s:={ s with toks:=s.toks + 1 }) I.ns λh' hn2 hs2=>?_;obtain ⟨oD,esD,epD,hoD,hdD,hcD⟩:=hn2.count (PySem.Within.cons name v hw);refine um3 (wpAny_lookBehind hoD (by rw [hdD];exact pastItsLine_dict (ul1 hcD (by rw [ug4];lia))) ?_);exact um4 (h _ ⟨(hs2.2 _ (Ne.symm I.ne)).trans I.obj,hn2,I.ne⟩ hs2)
theorem Ru {R:Result->Shared->Prop}{vs:List Value}(X:K.In s.heap)(hm:PySem.W.makesIn K C=true)
 (hi:PySem.W.findIn K (.ref C) "__init__" = some (some (.ref f))) (hf:PySem.W.typeIn K (.ref f)=some (.type "function"))
 (h:codeAny (model prog w) (A.under (.builtin "type.__call__" ⟨.ref C :: vs,kw⟩)) (.call (.ref f) ⟨.ref (s.heap.objs.size + 1) :: vs,kw⟩) (PySem.W.InitBack (s.heap.objs.size + 1) R)
   { s with heap:=(s.heap.push PySem.W.emptyDict).push (PySem.W.instObj C s.heap.objs.size) }) :
 codeAny (model prog w) A (.call (.ref C) ⟨vs,kw⟩) R s:=by
 obtain ⟨hh,g,d,t,os⟩:=s;exact PySem.W.make_core (PySem.W.makes_of X hm) (PySem.W.looks_findIn X hi) (λself=>PySem.W.bind_fn X self hf) (.inl rfl) h
end
noncomputable def CO (f:Str)(v:V):List (Str×V)->List (Str×V)
 | []=>[(f,v)]
 | (g,x) :: r=>if g=f then (g,v) :: r else (g,x) :: CO f v r
theorem HU (f g:Str)(v:V):∀fs:List (Str×V),(CO f v fs).lookup g=if g=f then some v else fs.lookup g
 | []=>by
   show List.lookup g [(f,v)]=_
   by_cases h:g=f
   ·have hb:(g == f)=true:=beq_iff_eq.mpr h;simp only [List.lookup,hb,if_pos h]
   ·have hb:(g == f)=false:=beq_eq_false_iff_ne.mpr h;simp only [List.lookup,hb,if_neg h]
 | (k,x) :: r=>by
   have ih:=HU f g v r;rw [show CO f v ((k,x) :: r)=(if k=f then (k,v) :: r else (k,x) :: CO f v r) from rfl]
   by_cases hk:k=f
   ·rw [if_pos hk]
    by_cases h:g=k
    ·have hb:(g == k)=true:=beq_iff_eq.mpr h;simp only [List.lookup,hb,if_pos (h.trans hk)]
    ·have hb:(g == k)=false:=beq_eq_false_iff_ne.mpr h;simp only [List.lookup,hb,if_neg (λe:g=f=>h (e.trans hk.symm))]
   ·rw [if_neg hk]
    by_cases h:g=k
    ·have hb:(g == k)=true:=beq_iff_eq.mpr h;simp only [List.lookup,hb,if_neg (λe:g=f=>hk (h.symm.trans e))]
    ·have hb:(g == k)=false:=beq_eq_false_iff_ne.mpr h;simp only [List.lookup,hb];exact ih
theorem GY (f:Str)(v:V):∀fs:List (Str×V),f∈(CO f v fs).map (·.1)/\∀g,g∈fs.map (·.1)->g∈(CO f v fs).map (·.1)
 | []=>⟨by simp [CO],λg h=>by simp at h⟩
 | (k,x) :: r=>by
   obtain ⟨i1,i2⟩:=GY f v r;rw [show CO f v ((k,x) :: r)=(if k=f then (k,v) :: r else (k,x) :: CO f v r) from rfl]
   by_cases hk:k=f
   ·rw [if_pos hk];subst hk;exact ⟨by simp,λg h=>by simpa using h⟩
   ·rw [if_neg hk];refine ⟨?_,λg h=>?_⟩
    ·rw [uj9];exact ud2 _ i1
    ·rw [uj9] at h ⊢;rcases uj8.mp h with e | e
     ·exact uj8.mpr (.inl e)
     ·exact ud2 _ (i2 g e)
theorem HQ (f:Str)(v:V):∀fs:List (Str×V),(CO f v fs).length<=fs.length + 1
 | []=>by simp [CO]
 | (k,x) :: r=>by
   have ih:=HQ f v r;rw [show CO f v ((k,x) :: r)=(if k=f then (k,v) :: r else (k,x) :: CO f v r) from rfl]
   by_cases hk:k=f
   ·rw [if_pos hk,ug4,ug4];lia
   ·rw [if_neg hk,ug4,ug4];lia
theorem RelO.some_of {o:Option Value}(r:RelO (some v) o):∃u,o=some u/\RelV v u:=by
 cases o with
 | none=>exact (show False from r).elim
 | some u=>exact ⟨u,rfl,r⟩
theorem RelO.none_of {o:Option Value}(r:RelO none o):o=none:=by
 cases o with
 | none=>rfl
 | some u=>exact (show False from r).elim
theorem Ks (r:RelV v u):PySem.W.handedIn u=true:=by
 cases v with
 | non=>cases (show u=Value.none from r);rfl
 | bl b=>cases (show u=Value.bool b from r);rfl
 | int i=>obtain ⟨t,e⟩:=(show ∃t,u=Value.int i t from r);cases e;rfl
 | str x=>obtain ⟨t,e⟩:=(show ∃t,u=Value.str x t from r);cases e;rfl
 | byt b=>obtain ⟨t,e⟩:=(show ∃t,u=Value.bytes b t from r);cases e;rfl
 | flt b=>obtain ⟨t,e⟩:=(show ∃t,u=Value.float b t from r);cases e;rfl
 | ref a=>cases (show u=Value.ref a from r);rfl
 | ty n=>cases (show u=Value.type n from r);rfl
section
variable {P:Program}{w:World}{H H':Hp}{h h':Heap}{a C dx:Addr}{fs fs':List (Str×V)}
theorem Hx (hok:HOk P w H h)(e:H a=some (.ins C dx fs)):∃mA,ObjM h a dx C mA/\(∀f,RelO (fs.lookup f) (mA f))/\PySem.Within mA (fs.map (·.1))/\fs.length<=1000/\H dx=some (.own a):=by
 obtain ⟨d,z,ne,ob,mA,n,r,q⟩:=(show ObjOk P w H h a (.ins C dx fs) from hok a _ e);exact ⟨mA,⟨ob,n,ne⟩,r,q,z,d⟩
end
structure Cls (K:PySem.W.Frag)(C:Addr):Prop where
 pg:PySem.W.plainGet K C Str.empty=true
 hd:PySem.W.hasDictIn K C=true
 po:PySem.W.plainOver K C=true
 sa:PySem.W.findIn K (.ref C) "__setattr__" = some (some (.builtin "object.__setattr__"))
theorem Cls.get {K:PySem.W.Frag}{C:Addr}(c:Cls K C)(f:Str):PySem.W.plainGet K C f=true:=c.pg
def NoAttr (K:PySem.W.Frag)(C:Addr)(f:Str):Prop:=PySem.W.findIn K (.ref C) f=some none
theorem NoAttr.taker {f:Str}(n:NoAttr K C f):PySem.W.takerIn K C f=some none:=by
 unfold PySem.W.takerIn;rw [show PySem.W.findIn K (.ref C) f=some none from n];rfl
structure Con (K:PySem.W.Frag)(C:Addr)(f:Str)(v:V)(u:Value):Prop where
 at_:PySem.W.findIn K (.ref C) f=some (some u)
 rel:RelV v u
 get:PySem.W.specialIn K u "__get__" = some none
 cp:PySem.W.copiedNames.contains f=false
structure Meth (K:PySem.W.Frag)(C:Addr)(m:Str)(f:Addr):Prop where
 at_:PySem.W.findIn K (.ref C) m=some (some (.ref f))
 fn:PySem.W.isFn K (.ref f)=true
 kp:PySem.W.keepIn K (.ref f)=true
section
variable {X:Cx}{pins:List (Addr×Obj)}{σ:St}{H:Hp}{s:Shared}{a C dx:Addr}{fs:List (Str×V)}{f:Str}{v:V}{A:Around}{E:Value->Shared->Prop}
theorem NM {b:Bool}{Q:Value->Shared->Prop}(I:Inv X pins σ H s)(e:H a=some (.ins C dx fs))(c:Cls X.K C)(n:NoAttr X.K C f)(l:fs.lookup f=some v)
 (h:∀u s',Inv X pins σ H s'->RelV v u->Q u s'):wpAny (model X.prog X.w) A (getAttr (.ref a) f b) Q E s:=by
 obtain ⟨mA,O,r,_,_,_⟩:=Hx I.hok e;obtain ⟨u,hu,ru⟩:=RelO.some_of (v:=v) (o:=mA f) (by rw [<-l];exact r f);exact TZ I.kIn O (c.get f) c.hd n hu (Ks ru) (h u _ (I.tok _) ru)
theorem Gg {m:Str}{g:Addr}{Q:Value×List Value->Shared->Prop}(I:Inv X pins σ H s)(e:H a=some (.ins C dx fs))(c:Cls X.K C)(k:Meth X.K C m g)(l:fs.lookup m=none)
 (h:Q (.ref g,[.ref a]) s):wpAny (model X.prog X.w) A (getMethod (.ref a) m pl) Q E s:=by
 obtain ⟨mA,O,r,_,_,_⟩:=Hx I.hok e;have hn:mA m=none:=RelO.none_of (by rw [<-l];exact r m);exact Q9 I.kIn O (c.get m) k.at_ k.fn hn h
theorem Oa {y:V}(I:Inv X pins σ H s)(e:H a=some (.ins C dx fs))(c:Cls X.K C)(n:NoAttr X.K C f)(hl:fs.length < 1000)(ry:RelV y u)
 (h:∀s',Inv X pins σ (upd H a (.ins C dx (CO f y fs))) s'->Q () s'):wpAny (model X.prog X.w) A (setAttr (.ref a) f u) Q E s:=by
 obtain ⟨mA,O,r,wi,_,ho⟩:=Hx I.hok e;have hz:(fs.map (·.1)).length<=sizeLine:=by rw [uh9,sizeLine_eq];lia
 refine Va I.kIn O c.sa c.po n.taker c.hd wi hz λh' O' sb=>h _ ?_;have hd:∃o,h'.get? dx=some o:=let ⟨o,_,_,e',_⟩:=O'.ns;⟨o,e'⟩;refine I.write (x:=a) (e:=dx) (by rw [e];exact True.intro) (.inr ho) (λb q hb z=>(sb.2 b hb).trans z) hd ?_;refine ⟨by rw [Ag O.ne];exact ho,?_,O.ne,O'.obj,_,O'.ns,λg=>?_,λg hg=>?_⟩
 ·have:=HQ f y fs;lia
 ·show RelO ((CO f y fs).lookup g) (if g=f then some u else mA g);rw [HU]
  by_cases q:g=f
  ·rw [if_pos q,if_pos q];exact ry
  ·rw [if_neg q,if_neg q];exact r g
 ·by_cases q:g=f
  ·rw [q];exact (GY f y fs).1
  ·refine (GY f y fs).2 g (wi g λz=>hg ?_);show (if g=f then some u else mA g)=none;rw [if_neg q];exact z
theorem Inv.made (I:Inv X pins σ H s):Inv X pins σ (upd (upd H s.heap.objs.size (.own (s.heap.objs.size + 1))) (s.heap.objs.size + 1) (.ins C s.heap.objs.size []))
 { s with heap:=(s.heap.push PySem.W.emptyDict).push (PySem.W.instObj C s.heap.objs.size) }:=by
 have e1:(s.heap.push PySem.W.emptyDict).get? s.heap.objs.size=some PySem.W.emptyDict:=ud7 s.heap rfl;have e2:((s.heap.push PySem.W.emptyDict).push (PySem.W.instObj C s.heap.objs.size)).get? (s.heap.objs.size + 1)=some (PySem.W.instObj C s.heap.objs.size):=by
  have:=ud7 (s.heap.push PySem.W.emptyDict) (o:=PySem.W.instObj C s.heap.objs.size) rfl
  rwa [uj3] at this
 have e3:(s.heap.push PySem.W.emptyDict).Ns s.heap.objs.size (λ_=>none):=⟨PySem.W.emptyDict,#[],_,e1,rfl,(λe he=>absurd he (by simp)),λ_=>rfl⟩;have I1:=I.laid (a:=s.heap.objs.size) (o:=.own (s.heap.objs.size + 1)) (h':=s.heap.push PySem.W.emptyDict) (t':=s.toks) (λb u q=>ub9 _ q) (ul9 _) ⟨_,e1⟩;refine I1.laid (a:=s.heap.objs.size + 1) (o:=.ins C s.heap.objs.size []) (t':=s.toks) (λb u q=>ub9 _ q) (Nat.le_of_eq (uj3 _ _)) ?_;have ne:s.heap.objs.size≠s.heap.objs.size + 1:=ul0 (ug5 _);refine ⟨by rw [Ag ne,Ak],um0 _,ne,e2,λ_=>none,(Heap.Ns1.of_empty e3).at λo q=>ub9 _ q,λ_=>True.intro,λy hy=>absurd rfl hy⟩
theorem MK {prog:Program}{env:Env}{f:Str}{pos:Pos}{s:Shared}{Q:Value->Shared->Prop}(hb:attributeBase e f env (eval e env)=eval e env)
 (h:wpAny (model prog w) A (eval e env) (λo s₁=>wpAny (model prog w) A (getAttr o f true) Q E s₁) E s):wpAny (model prog w) A (eval (.Attribute e f pos) env) Q E s:=
 Attribute_any_ h (by rw [arm_eval_Attribute,hb])
end
def Z3 (K:PySem.W.Frag)(ta:TE)(f:Str):TE:=λσ H Q=>ta σ H λx H1=>∃a C dx fs v,x = .ref a/\H1 a=some (.ins C dx fs)/\Cls K C/\NoAttr K C f/\fs.lookup f=some v/\Q v H1
def ZZ (K:PySem.W.Frag)(ta tv:TE)(f:Str):TS:=λD σ H=>tv σ H λy H1=>ta σ H1 λx H2=>∃a C dx fs,x = .ref a/\H2 a=some (.ins C dx fs)/\Cls K C/\NoAttr K C f/\fs.length < 1000/\
 D.nx σ (upd H2 a (.ins C dx (CO f y fs)))
section
variable {X:Cx}{o e value:Expr}{f:Str}{pos pos' tpos:Pos}{ta tv:TE}
theorem WW (he:PE X e ta)(hb:attributeBase e f X.env (eval e X.env)=eval e X.env):PE X (.Attribute e f pos) (Z3 X.K ta f):=by
 intro pins s σ H Q I h;refine MK hb (thn (he pins s σ H _ I h) λu s1 z9=>?_);obtain ⟨x,H1,I1,rx,a,C,dx,fs,v,ex,ea,c,n,l,q⟩:=z9;subst ex;obtain rfl:u=Value.ref a:=rx;exact NM I1 ea c n l λu' s2 I2 ru=>⟨v,H1,I2,ru,q⟩
theorem W7 (ha:PE X o ta)(hv:PE X value tv)(hs:swapsWith value (some (.Attribute o f pos')) pos.line X.env=pure false):PS X (.Assign [.Attribute o f pos'] value pos) (ZZ X.K ta tv f):=by
 intro pins s σ H D I h;refine plainObj_wpAny_Assign_Attribute (thn (hv pins s σ H _ I h) λu s1 ⟨y,H1,I1,ry,q⟩=>thn (ha pins s1 σ H1 _ I1 q) λov s2 z9=>?_) hs;obtain ⟨x,H2,I2,rx,a,C,dx,fs,ex,ea,c,n,l,q2⟩:=z9;subst ex;obtain rfl:ov=Value.ref a:=rx;exact Oa I2 ea c n l ry λs3 I3=>⟨σ,_,I3,q2⟩
end
section
variable {X:Cx}{pins:List (Addr×Obj)}{σ:St}{H:Hp}{s:Shared}{A:Around}{E:Value->Shared->Prop}{Q:Value->Shared->Prop}{c:Value}{b:Bool}
inductive TyOf (K:PySem.W.Frag)(H:Hp):V->Value->Prop where
 | non:TyOf K H .non (.type "NoneType")
 | bl (x:Bool):TyOf K H (.bl x) (.type "bool")
 | int (i:Int):TyOf K H (.int i) (.type "int")
 | str (x:Str):TyOf K H (.str x) (.type "str")
 | flt (x:UInt64):TyOf K H (.flt x) (.type "float")
 | lst {a:Addr} {xs:List V} (e:H a=some (.lst xs)):TyOf K H (.ref a) (.type "list")
 | frz {a:Addr} {o:Obj} {xs:List V} (e:H a=some (.frz o (.lst xs))):TyOf K H (.ref a) (.type "list")
 | tup {a:Addr} {xs:List V} (e:H a=some (.tup xs)):TyOf K H (.ref a) (.type "tuple")
 | dK {a:Addr} {kvs:List (Key×V)} (e:H a=some (.dK kvs)):TyOf K H (.ref a) (.type "dict")
 | dT {a:Addr} {kvs:List (List Key×V)} (e:H a=some (.dT kvs)):TyOf K H (.ref a) (.type "dict")
 | ins {a C dx:Addr} {fs:List (Str×V)} (e:H a=some (.ins C dx fs)) (cl:Cls K C) (ha:PySem.W.findIn K (.ref C) "__class__" = some (some (.builtin "object.__class__")))
    (hn:PySem.W.specialIn K (.builtin "object.__class__") "__get__" = some (some (.builtin "getset_descriptor.__get__"))) (htk:PySem.W.takesIn K (.builtin "object.__class__")=some true)
    (hm:PySem.W.mroIn K C (.type "object")=some true):TyOf K H (.ref a) (.ref C)
theorem Pj {x:V}{t:Value}(I:Inv X pins σ H s)(rx:RelV x u)(ty:TyOf X.K H x t)(e:PySem.W.kitOne X.K t c=some b)(h:∀tk,Q (.bool b) { s with toks:=tk }) :
 wpAny (model X.prog X.w) A (call (.builtin "isinstance") [u,c]) Q E s:=by
 cases ty with
 | non=>cases (show u=Value.none from rx);exact ui0 PySem.W.kitx_none I.kIn True.intro e (λz=>nomatch z) h
 | bl y=>cases (show u=Value.bool y from rx);exact ui0 PySem.W.kitx_bool I.kIn True.intro e (λz=>nomatch z) h
 | int i=>obtain ⟨t,q⟩:=(show ∃t,u=Value.int i t from rx);cases q;exact ui0 PySem.W.kitx_int I.kIn True.intro e (λz=>nomatch z) h
 | str y=>obtain ⟨t,q⟩:=(show ∃t,u=Value.str y t from rx);cases q;exact ui0 PySem.W.kitx_str I.kIn True.intro e (λz=>nomatch z) h
 | flt y=>obtain ⟨t,q⟩:=(show ∃t,u=Value.float y t from rx);cases q;exact ui0 PySem.W.kitx_float I.kIn True.intro e (λz=>nomatch z) h
 | @lst a xs ea=>
   cases (show u=Value.ref a from rx)
   obtain ⟨_,_,n,_,h1⟩:=(show ObjOk X.prog X.w H s.heap a (.lst xs) from I.hok a _ ea);exact ui0 PySem.W.kitx_list I.kIn ⟨_,h1,rfl⟩ e (λz=>nomatch z) h
 | @frz a ob xs ea=>
   cases (show u=Value.ref a from rx)
   obtain ⟨_,_,_,n,_,h1⟩:=(show ObjOk X.prog X.w H s.heap a (.frz ob (.lst xs)) from I.hok a _ ea);exact ui0 PySem.W.kitx_list I.kIn ⟨_,h1,rfl⟩ e (λz=>nomatch z) h
 | @tup a xs ea=>
   cases (show u=Value.ref a from rx)
   obtain ⟨_,_,_,p⟩:=(show ObjOk X.prog X.w H s.heap a (.tup xs) from I.hok a _ ea);obtain ⟨o,h1,h2,_⟩:=p;exact ui0 PySem.W.kitx_tuple I.kIn ⟨o,h1,h2⟩ e (λz=>nomatch z) h
 | @dK a kvs ea=>
   cases (show u=Value.ref a from rx)
   obtain ⟨_,_,vs,_,p⟩:=(show ObjOk X.prog X.w H s.heap a (.dK kvs) from I.hok a _ ea);obtain ⟨o,es,ep,h1,h2,_⟩:=p;exact ui0 PySem.W.kitx_dict I.kIn ⟨o,h1,h2.1⟩ e (λz=>nomatch z) h
 | @dT a kvs ea=>
   cases (show u=Value.ref a from rx)
   obtain ⟨_,_,xs,_,o,es,ep,h1,h2,_⟩:=(show ObjOk X.prog X.w H s.heap a (.dT kvs) from I.hok a _ ea);exact ui0 PySem.W.kitx_dict I.kIn ⟨o,h1,h2.1⟩ e (λz=>nomatch z) h
 | @ins a C dx fs ea cl ha hn htk hm=>
   cases (show u=Value.ref a from rx)
   obtain ⟨mA,O,_⟩:=Hx I.hok ea;obtain ⟨od,J,_⟩:=O.look;exact ui0 (PySem.W.kitx_own (cl.get _) cl.hd ha hn htk hm) I.kIn J e (λz=>nomatch z) h
end
structure Room (k:Nat)(A:Around):Prop where
 hd:A.handled=none
 dp:A.depth + 3 * k + 5 < recursionLimit
 un:A.units + 16 * k + 200 < cLine
theorem Room.mono {j k:Nat}{A:Around}(r:Room k A)(h:j<=k):Room j A:=⟨r.hd,by have:=r.dp;lia,by have:=r.un;lia⟩
theorem Room.deeper {k:Nat}{A:Around}(r:Room (k + 1) A)(env:Env):Room k (A.deeper env):=
 ⟨r.hd,by have:=r.dp;show A.depth + 1 + 3 * k + 5 < _;lia,by have:=r.un;show A.units + 3 + 16 * k + 200 < _;lia⟩
theorem NS {A:Around}:(A.under (.builtin "type.__call__" ⟨.ref C :: us,kw⟩)).depth=A.depth + 1:=by
 first | rfl | simp [Around.under,Code.weight,Code.isCreation,Code.isGuard,Code.isCaller,Code.frames,Code.isFrame,guardIds]
theorem NT {A:Around}:(A.under (.builtin "type.__call__" ⟨.ref C :: us,kw⟩)).units=A.units + 1:=by
 first | rfl | simp [Around.under,Code.cUnits,Code.frames,Code.isFrame]
theorem Room.make {k:Nat}{A:Around}(r:Room (k + 1) A)(C:Addr)(us:List Value)(kw:List (Str×Value)):Room k (A.under (.builtin "type.__call__" ⟨.ref C :: us,kw⟩)):=
 ⟨r.hd,by have:=r.dp;rw [NS];lia,by have:=r.un;rw [NT];lia⟩
theorem Room.depth {k:Nat}{A:Around}(r:Room k A):A.depth < recursionLimit:=by have:=r.dp;lia
theorem Room.units {k:Nat}{A:Around}(r:Room k A):A.units + 64 < cLine:=by have:=r.un;lia
def XD:TA:=λ_ H Q=>Q [] H
def YH (ta:TE)(tr:TA):TA:=λσ H Q=>ta σ H λx H1=>tr σ H1 λxs H2=>Q (x :: xs) H2
section
variable {X:Cx}{e:Expr}{es:List Expr}{te:TE}{t:TA}{pos:Pos}
theorem WT:PA X [] XD:=λ_ _ _ _ H Q I h=>Calls.spliced_nil ⟨[],H,I,.nil,h⟩
theorem Uq (ha:PE X e te)(hr:PA X es t)(hs:starEach (e :: es) X.env=(false,eval e X.env) :: starEach es X.env:=by rfl):PA X (e :: es) (YH te t):=by
 intro pos pins s σ H Q I h;rw [hs];show wpAny _ _ (spliced ((false,eval e X.env) :: backTo pos (starEach es X.env))) _ _ s;refine Calls.spliced_cons (thn (ha pins s σ H _ I h) λu s1 z9=>?_);obtain ⟨x,H1,I1,r1,q1⟩:=z9;exact thn (hr pos pins s1 σ H1 _ I1 q1) λus s2 ⟨xs,H2,I2,r2,q2⟩=>⟨x :: xs,H2,I2,.cons r1 r2,q2⟩
def ad (t:TA):TE:=λσ H Q=>t σ H λxs H1=>xs.length<=sizeLine/\∀p,H1 p=none->Q (.ref p) (upd H1 p (.tup xs))
def Z8 (t:TA):TE:=λσ H Q=>t σ H λxs H1=>xs.length<=sizeLine/\∀p,H1 p=none->Q (.ref p) (upd H1 p (.lst xs))
theorem W2 {x1}(h:PA X es t):PE X (.Tuple es x1 pos) (ad t):=by
 intro pins s σ H Q I hq;refine wpAny_Tuple_spliced (thn (h pos pins s σ H _ I hq) λus s1 z9=>?_);obtain ⟨xs,H1,I1,r,z,q⟩:=z9;refine ⟨by rw [<-r.length];exact z,?_⟩;have hf:H1 s1.heap.objs.size=none:=I1.hok.fresh (ul9 _);refine ⟨.ref s1.heap.objs.size,upd H1 s1.heap.objs.size (.tup xs),I1.laid (t':=s1.toks) (λb u e=>ub9 _ e) (ul9 _) ?_,rfl,q _ hf⟩;exact ⟨z,us,r,⟨_,ud7 _ rfl,rfl,_,rfl⟩⟩
theorem WY (h:PA X es t):PE X (.List es pos) (Z8 t):=by
 intro pins s σ H Q I hq;refine wpAny_List_spliced (thn (h pos pins s σ H _ I hq) λus s1 z9=>?_);obtain ⟨xs,H1,I1,r,z,q⟩:=z9;refine ⟨by rw [<-r.length];exact z,?_⟩;have hf:H1 s1.heap.objs.size=none:=I1.hok.fresh (ul9 _);refine ⟨.ref s1.heap.objs.size,upd H1 s1.heap.objs.size (.lst xs),I1.laid (t':=s1.toks) (λb u e=>ub9 _ e) (ul9 _) ?_,rfl,q _ hf⟩;exact ⟨z,us,0,r,ud7 _ rfl⟩
end
abbrev Sp:=List V->Hp->VK->XK->Prop
abbrev CXT:=List Env->Hp->Shared->XK->Value->Shared->Prop
structure Env0 (P:Program)(w:World)(K:PySem.W.Frag)(mg:Str->Option Value)(base:Heap)(A:Around)(outer:List Env)(s:Shared)(H:Hp):Prop where
 frames:A.frames=some outer
 mod:Mod K mg base
 bs:∀b o,base.get? b=some o->s.heap.get? b=some o/\H b=none
 bsz:base.objs.size<=s.heap.objs.size
 funs:s.heap.FunFrames base outer
 frf:∀b∈frs outer,H b=none
 hok:HOk P w H s.heap
 bare:AllBare s.gens
def CE (outer:List Env)(P:Program)(w:World)(H:Hp)(s:Shared)(Q:VK)(u:Value)(s':Shared):Prop:=
 ∃v H',s'.os=s.os/\AllBare s'.gens/\Un (frs outer) [] H H' s.heap s'.heap/\HOk P w H' s'.heap/\RelV v u/\Q v H'
def CR (CX:CXT)(outer:List Env)(P:Program)(w:World)(H:Hp)(s:Shared)(Q:VK)(E:XK)(r:Result)(s':Shared):Prop:=
 match r with
 | .ok (.ret u)=>CE outer P w H s Q u s'
 | .ok _=>False
 | .error e=>CX outer H s E e s'
structure FnOk (P:Program)(w:World)(K:PySem.W.Frag)(mg:Str->Option Value)(base:Heap)(CX:CXT)(k:Nat)(f:Addr)(fd:FuncData)(ps:List Str)(sp:Sp):Prop where
 len:∀vs H Q E,sp vs H Q E->vs.length=ps.length
 run:∀(A:Around) (outer:List Env) (s:Shared) (H:Hp) (args:Args) (us:List Value) (vs:List V) (Q:VK) (E:XK),Room k A->Env0 P w K mg base A outer s H->BindsTo s fd args (ps.zip us)->Vals vs us->sp vs H Q E->
  codeAny (model P w) A (.call (.ref f) args) (CR CX outer P w H s Q E) s
theorem FnOk.mono {P:Program}{w:World}{K:PySem.W.Frag}{mg:Str->Option Value}{base:Heap}{CX:CXT}{j k:Nat}{f:Addr}{fd:FuncData}{ps:List Str}{sp:Sp}(F:FnOk P w K mg base CX j f fd ps sp)(h:j<=k) :
 FnOk P w K mg base CX k f fd ps sp:=⟨F.len,λA outer s H args us vs Q E hr=>F.run A outer s H args us vs Q E (hr.mono h)⟩
variable {mg:Str->Option Value}{base:Heap}
theorem Env0.make {A:Around}{outer:List Env}(e:Env0 P w K mg base A outer s H)(C:Addr)(us:List Value)(kw:List (Str×Value)) :
 Env0 P w K mg base (A.under (.builtin "type.__call__" ⟨.ref C :: us,kw⟩)) outer s H:=⟨by first | exact e.frames | (simpa [Around.under,Code.envs,Code.isFrame,pushEnvs] using e.frames),e.mod,e.bs,e.bsz,e.funs,e.frf,e.hok,e.bare⟩
section
variable {X:Cx}{pins:List (Addr×Obj)}{σ:St}{H:Hp}{s s':Shared}
theorem Inv.env0 (I:Inv X pins σ H s):Env0 X.prog X.w X.K X.mg X.base X.A X.stack s H:=
 ⟨I.ok.frames,I.ok.mod,I.bs,ul1 I.ok.bsz I.sz,I.stack,I.stkFree,I.hok,I.bare⟩
theorem Inv.after {Q:VK}(I:Inv X pins σ H s)(h:CE X.stack X.prog X.w H s Q u s'):EP X pins σ Q u s':=by
 obtain ⟨v,H',os,bare,un,hok,r,q⟩:=h;obtain ⟨hh,g,d,t,os'⟩:=s';obtain rfl:os'=s.os:=os;exact ⟨v,H',I.call (h':=hh) (g':=g) (d':=d) (t':=t) (ch:=[]) un hok bare (λb z=>absurd z (by simp)),r,q⟩
end
def YG (sp:Sp)(dvs:List V)(E:XK)(t:TA):TE:=λσ H Q=>t σ H λvs H1=>sp (vs++dvs) H1 Q E
def Tk (C:Addr)(m:Str)(sp:Sp)(dvs:List V)(E:XK)(ta:TE)(t:TA):TE:=λσ H Q=>ta σ H λx H1=>∃a dx fs,x = .ref a/\H1 a=some (.ins C dx fs)/\fs.lookup m=none/\
 t σ H1 λvs H2=>sp (x :: (vs++dvs)) H2 Q E
def YK (C:Addr)(sp:Sp)(dvs:List V)(E:XK)(t:TA):TE:=λσ H Q=>t σ H λvs H1=>∀x dx,H1 x=none->H1 dx=none->dx≠x->
 sp (.ref x :: (vs++dvs)) (upd (upd H1 dx (.own x)) x (.ins C dx [])) (λv H2=>v = .non/\Q (.ref x) H2) E
def Binds (K:PySem.W.Frag)(fd:FuncData)(ps:List Str)(ds:List Value):Prop:=
 ∀(s:Shared) (us:List Value),K.In s.heap->(us++ds).length=ps.length->BindsTo s fd ⟨us,[]⟩ (ps.zip (us++ds))
theorem Binds.all {fd:FuncData}{ps:List Str}(h:∀us:List Value,us.length=ps.length->bindArgs fd ⟨us,[]⟩=pure (ps.zip us)):Binds K fd ps []:=λs us _ hl=>by
 rw [ui1] at hl ⊢;exact .of_eq (h us hl)
def E5 (CX:CXT)(X:Cx)(E:XK):Prop:=∀(pins:List (Addr×Obj)) (σ:St) (H:Hp) (s:Shared) (e:Value) (s':Shared),Inv X pins σ H s->CX X.stack H s E e s'->X.xe e s'
variable {vs:List V}
section
variable {X:Cx}{CX:CXT}{k:Nat}{f C:Addr}{fd:FuncData}{ps:List Str}{sp:Sp}{dvs:List V}{ds:List Value}{E:XK}{x m:Str}{p pos apos:Pos}{e o:Expr}{es:List Expr}{ta:TE}{t:TA}
theorem Mg {Q:VK}(F:FnOk X.prog X.w X.K X.mg X.base CX k f fd ps sp)(hr:Room k X.A)(hb:Binds X.K fd ps ds)(hd:Vals dvs ds)(hx:E5 CX X E)
 (I:Inv X pins σ H s) (r:Vals vs us) (h:sp (vs++dvs) H Q E):wpAny (model X.prog X.w) X.A (call (.ref f) us) (EP X pins σ Q) X.xe s:=by
 have r2:Vals (vs++dvs) (us++ds):=r.append hd;have hl:(us++ds).length=ps.length:=by rw [<-r2.length];exact F.len _ _ _ _ h
 refine wpAny_call (codeAny_mono (F.run X.A X.stack s H ⟨us,[]⟩ (us++ds) (vs++dvs) Q E hr I.env0 (hb s us I.kIn hl) r2 h) λr s' hq=>?_)
 cases r with
 | error e=>exact hx pins σ H s e s' I hq
 | ok fl=>
   cases fl with
   | ret u=>exact I.after hq
   | next=>exact False.elim hq
   | brk=>exact False.elim hq
   | cont=>exact False.elim hq
theorem M4 (F:FnOk X.prog X.w X.K X.mg X.base CX k f fd ps sp)(hr:Room k X.A)(hg:Gl X x)(hm:X.mg x=some (.ref f))(hk:PySem.W.keepIn X.K (.ref f)=true)(hb:Binds X.K fd ps ds)(hd:Vals dvs ds)(hx:E5 CX X E)
 (ha:PA X (e :: es) t) (hdb:(x == ("__debug__" : Str))=false:=by decide) (he:starEach (e :: es) X.env=(false,eval e X.env) :: starEach es X.env:=by rfl) (hpl:(backTo pos (starEach es X.env)).any (·.1)=false:=by rfl) :
 PE X (.Call (.Name x p) (e :: es) [] pos) (YG sp dvs E t):=by
 intro pins s σ H Q I h;refine wpAny_Call_Name_kw (B5 I hg hm ?_ hdb);refine ue5 (h₀:=X.base) I.ok.mod.kin hk (thn (ha pos pins s σ H _ I h) λus s1 z9=>?_) he hpl;obtain ⟨vs,H1,I1,r,q⟩:=z9;refine ⟨I1.kIn,?_⟩;exact Mg F hr hb hd hx I1 r q
theorem Uw (he:PE X o ta)(c:Cls X.K C)(hm:Meth X.K C m f)(F:FnOk X.prog X.w X.K X.mg X.base CX k f fd ps sp)(hr:Room k X.A)(hb:Binds X.K fd ps ds)(hd:Vals dvs ds)(hx:E5 CX X E)(ha:PA X (e :: es) t)
 (hst:starEach (e :: es) X.env=(false,eval e X.env) :: starEach es X.env:=by rfl) (hpl:(backTo pos (starEach es X.env)).any (·.1)=false:=by rfl)
 (ht:eval (.Call (.Attribute o m apos) (e :: es) [] pos) X.env=(do
   let ov <-eval o X.env
   standAt apos.atName
   let (f,first) <-holding [ov] (getMethod ov m pl)
   callWith pos f first (backTo pos (starEach (e :: es) X.env)) (backToKw pos (keywordEach [] X.env))):=by rfl) :
 PE X (.Call (.Attribute o m apos) (e :: es) [] pos) (Tk C m sp dvs E ta t):=by
 intro pins s σ H Q I h;refine uc8 (pl:=pl) (thn (he pins s σ H _ I h) λu s1 z9=>?_) ht;obtain ⟨x,H1,I1,rx,a,dx,fs,ex,ea,l,q⟩:=z9;subst ex;obtain rfl:u=Value.ref a:=rx;refine Gg I1 ea c hm l ?_;refine ue5 (first:=[.ref a]) (h₀:=X.base) I.ok.mod.kin hm.kp (thn (ha pos pins s1 σ H1 _ I1 q) λus s2 z9=>?_) hst hpl;obtain ⟨vs,H2,I2,r,q2⟩:=z9;refine ⟨I2.kIn,?_⟩;exact Mg (us:=.ref a :: us) (vs:=.ref a :: vs) F hr hb hd hx I2 (.cons rfl r) q2
theorem RW (he:PE X o ta)(c:Cls X.K C)(hm:Meth X.K C m f)(F:FnOk X.prog X.w X.K X.mg X.base CX k f fd ps sp)(hr:Room k X.A)(hb:Binds X.K fd ps ds)(hd:Vals dvs ds)(hx:E5 CX X E)
 (ht:eval (.Call (.Attribute o m apos) [] [] pos) X.env=(do
   let ov <-eval o X.env
   standAt apos.atName
   let (f,first) <-holding [ov] (getMethod ov m pl)
   callWith pos f first (backTo pos (starEach [] X.env)) (backToKw pos (keywordEach [] X.env))):=by rfl) :
 PE X (.Call (.Attribute o m apos) [] [] pos) (Tk C m sp dvs E ta XD):=by
 intro pins s σ H Q I h;refine uc8 (pl:=pl) (thn (he pins s σ H _ I h) λu s1 z9=>?_) ht;obtain ⟨x,H1,I1,rx,a,dx,fs,ex,ea,l,q⟩:=z9;subst ex;obtain rfl:u=Value.ref a:=rx;refine Gg I1 ea c hm l ?_;exact PySem.W.callWith_K0 (first:=[.ref a]) I1.kIn hm.kp (Mg (us:=[.ref a]) (vs:=[.ref a]) F hr hb hd hx I1 (.cons rfl .nil) q)
structure Mk (K:PySem.W.Frag)(C f:Addr):Prop where
 makes:PySem.W.makesIn K C=true
 init:PySem.W.findIn K (.ref C) "__init__" = some (some (.ref f))
 fn:PySem.W.isFn K (.ref f)=true
 kp:PySem.W.keepIn K (.ref C)=true
theorem Sf {Q:VK}(M:Mk X.K C f)(F:FnOk X.prog X.w X.K X.mg X.base CX k f fd ps sp)(hr:Room (k + 1) X.A)(hb:Binds X.K fd ps ds)(hd:Vals dvs ds)
 (hx:E5 CX X E) (I:Inv X pins σ H s) (r:Vals vs us)
 (h:∀x dx,H x=none->H dx=none->dx≠x->sp (.ref x :: (vs++dvs)) (upd (upd H dx (.own x)) x (.ins C dx [])) (λv H2=>v = .non/\Q (.ref x) H2) E) :
 wpAny (model X.prog X.w) X.A (call (.ref C) us) (EP X pins σ Q) X.xe s:=by
 have hq:=h (s.heap.objs.size + 1) s.heap.objs.size (I.hok.fresh (um1 _)) (I.hok.fresh (ul9 _)) (ul0 (ug5 _));have I2:=Inv.made (C:=C) I;have r2:Vals (V.ref (s.heap.objs.size + 1) :: (vs++dvs)) (Value.ref (s.heap.objs.size + 1) :: (us++ds)):=.cons rfl (r.append hd);have hl:(Value.ref (s.heap.objs.size + 1) :: us++ds).length=ps.length:=by
  have e:=r2.length;rw [F.len _ _ _ _ hq] at e;exact e.symm
 refine wpAny_call (Ru (f:=f) I.kIn M.makes M.init (beq_iff_eq.mp M.fn) (codeAny_mono (F.run _ X.stack _ _ ⟨Value.ref (s.heap.objs.size + 1) :: us,[]⟩ (Value.ref (s.heap.objs.size + 1) :: (us++ds)) _ _ E (hr.make C us [])
  (I2.env0.make C us []) (hb _ (Value.ref (s.heap.objs.size + 1) :: us) I2.kIn hl) r2 hq) λr s' hq'=>?_))
 cases r with
 | error e=>exact hx pins σ _ _ e s' I2 hq'
 | ok fl=>
   cases fl with
   | ret u=>
     obtain ⟨v,H',I3,rv,ev,q3⟩:=I2.after hq';subst ev;exact ⟨rv,⟨V.ref (s.heap.objs.size + 1),H',I3,rfl,q3⟩⟩
   | next=>exact False.elim hq'
   | brk=>exact False.elim hq'
   | cont=>exact False.elim hq'
theorem Uv (M:Mk X.K C f)(F:FnOk X.prog X.w X.K X.mg X.base CX k f fd ps sp)(hr:Room (k + 1) X.A)(hg:Gl X x)(hm:X.mg x=some (.ref C))(hb:Binds X.K fd ps ds)(hd:Vals dvs ds)(hx:E5 CX X E)
 (ha:PA X (e :: es) t) (hdb:(x == ("__debug__" : Str))=false:=by decide) (he:starEach (e :: es) X.env=(false,eval e X.env) :: starEach es X.env:=by rfl) (hpl:(backTo pos (starEach es X.env)).any (·.1)=false:=by rfl) :
 PE X (.Call (.Name x p) (e :: es) [] pos) (YK C sp dvs E t):=by
 intro pins s σ H Q I h;refine wpAny_Call_Name_kw (B5 I hg hm ?_ hdb);refine ue5 (h₀:=X.base) I.ok.mod.kin M.kp (thn (ha pos pins s σ H _ I h) λus s1 z9=>?_) he hpl;obtain ⟨vs,H1,I1,r,q⟩:=z9;refine ⟨I1.kIn,?_⟩;exact Sf M F hr hb hd hx I1 r q
end
section
variable {X:Cx}{CX:CXT}{k:Nat}{f C:Addr}{fd:FuncData}{ps ks:List Str}{sp:Sp}{E:XK}{x m:Str}{p pos apos kpos:Pos}{e o:Expr}{es:List Expr}{kws:List Keyword}{te ta:TE}{t tk:TA}{nm:Option Str}
structure KBinds (K:PySem.W.Frag)(fd:FuncData)(ps ks:List Str)(g:List Value->List Value->List Value)(gV:List V->List V->List V):Prop where
 to:∀(s:Shared) (us ws:List Value),K.In s.heap->(g us ws).length=ps.length->BindsTo s fd ⟨us,ks.zip ws⟩ (ps.zip (g us ws))
 rel:∀{vs:List V} {us:List Value} {zs:List V} {ws:List Value},Vals vs us->Vals zs ws->Vals (gV vs zs) (g us ws)
variable {g:List Value->List Value->List Value}{gV:List V->List V->List V}
end
structure FnScope (N P:List Str)(sc:Scope):Prop where
 kind:sc.kind = .function
 co:sc.isCoroutine=false
 gen:sc.isGenerator=false
 nd:N.Nodup
 pre:N.take P.length=P
 par:∀x∈P,sc.names.lookup x=some .local\/sc.names.lookup x=some .cell
 nofree:∀y∈sc.names,y.2≠.free
theorem Ko {kindOf:Str->Option NameKind}{x:Str}:∀{binds:List (Str×Value)} {m:Str->Option Value},(∀v,(x,v)∉binds)->bindL kindOf binds m x=m x
 | [],_,_=>rfl
 | (n,v) :: r,m,h=>by
   unfold bindL;rw [Ko λw hw=>h w (ud2 _ hw)]
   split
   ·have:x≠n:=by rintro rfl;exact h v ue2
    simp [this]
   ·rfl
theorem Km {kindOf:Str->Option NameKind}{x:Str}:∀{binds:List (Str×Value)} {m:Str->Option Value},(∀v,(x,v)∉binds)->bindC kindOf binds m x=m x
 | [],_,_=>rfl
 | (n,v) :: r,m,h=>by
   unfold bindC;rw [Km λw hw=>h w (ud2 _ hw)]
   split
   ·rfl
   ·have:x≠n:=by rintro rfl;exact h v ue2
    simp [this]
theorem Kn {kindOf:Str->Option NameKind}{x:Str}{v:Value}:∀{P:List Str} {vs:List Value} {i:Nat} {m:Str->Option Value},P.Nodup->P[i]?=some x->vs[i]?=some v->kindOf x=some .local->
 bindL kindOf (P.zip vs) m x=some v
 | [],_,_,_,_,h,_,_=>by simp at h
 | _ :: _,[],_,_,_,_,h,_=>by simp at h
 | p :: P,w :: vs,0,m,nd,h1,h2,hk=>by
   simp at h1 h2;subst h1;subst h2;show bindL kindOf ((p,w) :: P.zip vs) m p=_;unfold bindL;rw [Ko λv hv=>(ui2.mp nd).1 (ui3 hv).1,if_pos hk];simp
 | p :: P,w :: vs,i + 1,m,nd,h1,h2,hk=>by
   show bindL kindOf ((p,w) :: P.zip vs) m x=_;unfold bindL;exact Kn (i:=i) (ui2.mp nd).2 (by simpa using h1) (by simpa using h2) hk
theorem Kl {kindOf:Str->Option NameKind}{x:Str}{v:Value}:∀{P:List Str} {vs:List Value} {i:Nat} {m:Str->Option Value},P.Nodup->P[i]?=some x->vs[i]?=some v->kindOf x≠some .local->
 bindC kindOf (P.zip vs) m x=some v
 | [],_,_,_,_,h,_,_=>by simp at h
 | _ :: _,[],_,_,_,_,h,_=>by simp at h
 | p :: P,w :: vs,0,m,nd,h1,h2,hk=>by
   simp at h1 h2;subst h1;subst h2;show bindC kindOf ((p,w) :: P.zip vs) m p=_;unfold bindC;rw [Km λv hv=>(ui2.mp nd).1 (ui3 hv).1,if_neg hk];simp
 | p :: P,w :: vs,i + 1,m,nd,h1,h2,hk=>by
   show bindC kindOf ((p,w) :: P.zip vs) m x=_;unfold bindC;exact Kl (i:=i) (ui2.mp nd).2 (by simpa using h1) (by simpa using h2) hk
noncomputable def Cp (N:List Str)(vs:List V):St:=vs.map some++List.replicate (N.length - vs.length) none
noncomputable def Db (CX:CXT)(P:Program)(w:World)(K:PySem.W.Frag)(mg:Str->Option Value)(base:Heap)(N:List Str)(qual:Str)(scope:Scope)(f:Addr)(cd:Value)(A:Around)(outer:List Env)(s:Shared)(H:Hp)(E:XK):Cx where
 prog:=P
 w:=w
 K:=K
 mg:=mg
 base:=base
 A:=A.deeper (envOfC qual scope s.heap.objs.size f cd)
 N:=N
 s₀:=s
 H₀:=H
 env:=envOfC qual scope s.heap.objs.size f cd
 outer:=outer
 stack:=envOfC qual scope s.heap.objs.size f cd :: outer
 ex:=[]
 calm:=true
 fn:=λ_=>true
 pn:=[]
 xe:=λe s'=>wpAny (model P w) (A.deeper (envOfC qual scope s.heap.objs.size f cd)) (leaving (envOfC qual scope s.heap.objs.size f cd) e) (λ_ s''=>CX outer H s E e s'') (λe' s''=>CX outer H s E e' s'') s'
theorem Lw {sc:Scope}{n:Nat}{x:Str}(h:sc.names.lookup x=some .cell):∃c,(cellsFrom n sc.names []).lookup x=some c:=by
 have q:=uc0 sc.names n [] (.inl h);exact Option.isSome_iff_exists.mp q
theorem Kt {CX:CXT}{N ps:List Str}{qual:Str}{scope:Scope}{f:Addr}{cd:Value}{A:Around}{outer:List Env}{s1:Shared}{E:XK}
 (S:FnScope N ps scope) (hd:A.handled=none) (e0:Env0 P w K mg base A outer s H) (hl:vs.length=ps.length) (r:Vals vs us)
 (x:InCallC s s.heap.objs.size (bindL (envOfC qual scope s.heap.objs.size f cd).kindOf (ps.zip us) λ_=>none) (cellsFrom (s.heap.objs.size + 1) scope.names []) (bindC (envOfC qual scope s.heap.objs.size f cd).kindOf (ps.zip us) λ_=>none) s1) :
 Inv (Db CX P w K mg base N qual scope f cd A outer s H E) [] (Cp N vs) H s1:=by
 have hpl:ps.length<=N.length:=by have:=congrArg List.length S.pre;rw [ug6] at this;lia
 obtain ⟨h1,tk,rfl,hk⟩:=x.done;have noA:∀b:Addr,b∉(Db CX P w K mg base N qual scope f cd A outer s H E).ex:=λb z=>absurd (show b∈([]:List Addr) from z) (by simp);refine ⟨⟨e0.mod,S.kind,rfl,rfl,ul9 _,λy z c h1 h2=>?_,λy hy=>?_,λy c _ h=>?_,λ_=>hd,Around.frames_deeper e0.frames,.inr ⟨rfl,rfl⟩,λb z=>absurd z (noA b),e0.bs,e0.bsz,λb _ _=>noA b,λb z=>absurd z (noA b),e0.funs,e0.frf⟩,
  rfl,e0.bare,Un.kept hk,⟨_,x.toInCall.ns,λi y v h1 h2 h3=>?_⟩,λy c h=>⟨_,x.cell y c h⟩,e0.hok.fresh (ul9 _),λy c h=>?_,λp hp=>absurd (show p∈([]:List (Addr×Obj)) from hp) (by simp),e0.hok.kept hk,?_⟩
 ·exact name_of_addr x.apart (PySem.mem_of_lookup h1) (PySem.mem_of_lookup h2)
 ·have hy:scope.names.lookup y=some .cell\/scope.names.lookup y=some .free:=hy;rcases hy with hy | hy
  ·exact Lw hy
  ·exact absurd rfl (S.nofree _ (PySem.mem_of_lookup hy))
 ·exact Nat.le_of_lt (x.above y c (PySem.mem_of_lookup h))
 ·have hi:i < vs.length:=by
   unfold Cp at h2
   by_cases hi:i < vs.length
   ·exact hi
   ·rw [ua5 (by simpa using hi)] at h2;rw [ub5] at h2
    split at h2 <;> cases h2
  have ha:vs[i]?=some v:=by
   unfold Cp at h2;rw [ub0 (by simpa using hi),uf3] at h2
   cases e:vs[i]? with
   | none=>rw [e] at h2;cases h2
   | some a=>rw [e] at h2;cases h2;rfl
  obtain ⟨u,hu,rv⟩:=r.get ha;have hp:ps[i]?=some y:=by
   rw [<-S.pre,List.getElem?_take_of_lt (by lia)];exact h1
  have ndP:ps.Nodup:=by rw [<-S.pre];exact S.nd.sublist (List.take_sublist _ _)
  refine ⟨u,rv,?_⟩;rcases S.par y (ud4 hp) with k | k
  ·exact .inl ⟨k,Kn ndP hp hu k⟩
  ·obtain ⟨c,e⟩:=Lw (n:=s.heap.objs.size + 1) k;refine .inr ⟨.inl k,c,e,?_⟩;have q:=x.cell y c e;rw [Kl ndP hp hu (by show scope.names.lookup y≠_;rw [k];decide)] at q;exact q
 ·exact e0.hok.fresh (Nat.le_of_lt (x.above y c (PySem.mem_of_lookup h)))
 ·unfold Cp;show _=N.length;rw [ue6,uh9,uc9];lia
theorem S6 {CX:CXT}{k:Nat}{f:Addr}{name qual:Str}{params:Arguments}{body:List Stmt}{scope:Scope}{dV kV doc pm cdv ct oc:Value}{an od:Option Addr}
 {osl:Array (Option Value)} {N ps:List Str} {sp:Sp} (lk:K.lookup f=some ⟨oc,od,.func (PySem.W.fnOf name qual params body scope dV kV doc pm an cdv ct),osl⟩) (hcd:PySem.W.codeIn K cdv qual=true) (S:FnScope N ps scope)
 (len:∀vs H Q E,sp vs H Q E->vs.length=ps.length)
 (hbody:∀(A:Around) (outer:List Env) (s:Shared) (H:Hp) (vs:List V) (Q:VK) (E:XK),Room k (A.deeper (envOfC qual scope s.heap.objs.size f cdv))->sp vs H Q E->
   ∃t,PSs (Db CX P w K mg base N qual scope f cdv A outer s H E) body t/\t { nx:=λ_ H'=>Q .non H',rt:=Q } (Cp N vs) H) :
 FnOk P w K mg base CX (k + 1) f (PySem.W.fnOf name qual params body scope dV kV doc pm an cdv ct) ps sp:=by
 refine ⟨len,λA outer s H args us vs Q E hr e0 hb r hsp=>?_⟩;have hl:=len _ _ _ _ hsp;have KX:K.In s.heap:=e0.mod.kin.keeps λb o e=>(e0.bs b o e).1;have lim:s.heap.NoLimit:=e0.mod.nolimit.keeps λb o e=>(e0.bs b o e).1;have hkind:∀y∈ps.zip us,scope.names.lookup y.1=some .local\/(scope.names.lookup y.1=some .cell/\((cellsFrom (s.heap.objs.size + 1) scope.names []).lookup y.1).isSome=true):=λz9 hy=>by
  obtain ⟨n,v⟩:=z9;rcases S.par n (ui3 hy).1 with q | q
  ·exact .inl q
  ·exact .inr ⟨q,uc0 _ _ _ (.inl q)⟩
 refine codeAny_call_function hr.depth (KX _ _ lk) rfl S.co S.gen rfl (PySem.W.codeRec_of KX hcd) (hb _ _ _ _ ?_);refine wpAny_newFunctionEnv_cells S.kind hkind λenv he s1 x=>?_;subst he;refine ⟨lim.keeps x.toInCall.keep,codeAny_func ?_⟩;obtain ⟨t,ht,hq⟩:=hbody A outer s H vs Q E (hr.deeper _) hsp;have I:Inv (Db CX P w K mg base N qual scope f cdv A outer s H E) [] (Cp N vs) H s1:=Kt S hr.hd e0 hl r x;refine um5 (ht [] s1 (Cp N vs) H _ I hq) (λfl s' hs=>?_) λe s' hs=>hs;have fin:∀{σ':St} {H':Hp} {v:V} {u:Value},Inv (Db CX P w K mg base N qual scope f cdv A outer s H E) [] σ' H' s'->RelV v u->Q v H'->CE outer P w H s Q u s':=
  λ{σ' H' v u} J rv q=>⟨v,H',J.os,J.bare,J.base,J.hok,rv,q⟩
 cases fl with
 | ret u=>
   obtain ⟨v,σ',H',J,rv,q⟩:=hs;exact fin J rv q
 | next=>
   obtain ⟨σ',H',J,q⟩:=hs;exact fin (v:=V.non) (u:=Value.none) J rfl q
 | brk=>
   obtain ⟨_,_,_,q⟩:=hs;exact False.elim q
 | cont=>
   obtain ⟨_,_,_,q⟩:=hs;exact False.elim q
section
variable {X:Cx}{x:Str}{p pos:Pos}{e:Expr}{es:List Expr}{t:TA}{id T:String}{r:List V->Hp->VK->Prop}
def tCB (r:List V->Hp->VK->Prop)(t:TA):TE:=λσ H Q=>t σ H λvs H1=>r vs H1 Q
theorem RM (hc:Cm X (.builtin id) r)(hg:Gl X x)(hm:X.mg x=none)(hv:bootBuiltins x=some (.builtin id))(ha:PA X (e :: es) t)(hn:x≠"__name__":=by decide)(hdb:(x == ("__debug__" : Str))=false:=by decide)
 (he:starEach (e :: es) X.env=(false,eval e X.env) :: starEach es X.env:=by rfl) (hpl:(backTo pos (starEach es X.env)).any (·.1)=false:=by rfl):PE X (.Call (.Name x p) (e :: es) [] pos) (tCB r t):=by
 intro pins s σ H Q I h;refine wpAny_Call_Name_kw (Fl I hg hm hv ?_ hn hdb);exact PyProof.Rows.callWith_builtin1 (thn (ha pos pins s σ H _ I h) λus s1 z9=>by obtain ⟨vs,H1,I1,r1,q1⟩:=z9;exact hc pins s1 σ H1 vs us Q I1 r1 q1) he hpl
theorem G8 (hc:Cm X (.type T) r)(hg:Gl X x)(hm:X.mg x=none)(hv:bootBuiltins x=some (.type T))(ha:PA X (e :: es) t)(hn:x≠"__name__":=by decide)(hdb:(x == ("__debug__" : Str))=false:=by decide)
 (he:starEach (e :: es) X.env=(false,eval e X.env) :: starEach es X.env:=by rfl) (hpl:(backTo pos (starEach es X.env)).any (·.1)=false:=by rfl):PE X (.Call (.Name x p) (e :: es) [] pos) (tCB r t):=by
 intro pins s σ H Q I h;refine wpAny_Call_Name_kw (Fl I hg hm hv ?_ hn hdb);exact ua3 (thn (ha pos pins s σ H _ I h) λus s1 z9=>by obtain ⟨vs,H1,I1,r1,q1⟩:=z9;exact hc pins s1 σ H1 vs us Q I1 r1 q1) he hpl
end
end L2
namespace HT
open PySem PyProof.Rows
section
open PySem.SeqAt
open PySem.AutoSeq1 (wpAny_loadPart')
open PySem.MeetsSeq PySem.MeetsSeq2 PySem.MeetsSeq3
end
section
variable {prog:Program}{w:World}{A:Around}{E:Value->Shared->Prop}{s:Shared}
noncomputable def sIx (n d:Nat):Option Int->Nat
 | none=>d
 | some v=>if v < 0 then (v + (n:Int)).toNat else min v.toNat n
theorem Mh (n d:Nat):sIx n d none=d:=rfl
theorem Nd (n d k:Nat):sIx n d (some (k:Int))=min k n:=by
 show (if (k:Int) < 0 then ((k:Int) + (n:Int)).toNat else min (k:Int).toNat n)=min k n;rw [if_neg (by lia),uf4]
theorem ba (n d:Nat)(hd:d<=n)(o:Option Int):sIx n d o<=n:=by
 cases o with
 | none=>exact hd
 | some v=>
   show (if v < 0 then (v + (n:Int)).toNat else min v.toNat n)<=n
   by_cases hv:v < 0
   ·rw [if_pos hv];lia
   ·rw [if_neg hv];exact Nat.min_le_right _ _
theorem MM (v:Int)(n d:Nat):(if v < 0 then max (v + (n:Int)) 0 else min v (n:Int))=((sIx n d (some v):Nat):Int):=by
 show (if v < 0 then max (v + (n:Int)) 0 else min v (n:Int))=(((if v < 0 then (v + (n:Int)).toNat else min v.toNat n):Nat):Int)
 by_cases hv:v < 0
 ·simp only [if_pos hv];lia
 ·simp only [if_neg hv];lia
theorem Nx (lo hi:Option Int)(n:Nat):Builtin.Slice.sliceAdjust lo hi 1 (n:Int)=(((sIx n 0 lo:Nat):Int),((sIx n n hi:Nat):Int)):=by
 have h1:¬((1:Int) < 0):=by lia
 unfold Builtin.Slice.sliceAdjust;simp only [h1,if_false];refine Prod.ext ?_ ?_
 ·cases lo with
  | none=>rfl
  | some v=>exact MM v n 0
 ·cases hi with
  | none=>rfl
  | some v=>exact MM v n n
theorem N2 (i j:Nat):Builtin.Slice.slicePlaces (i:Int) (j:Int) 1=j - i:=by
 unfold Builtin.Slice.slicePlaces;have h1:(1:Int) > 0:=by lia
 simp only [h1,if_true,Int.ediv_one]
 split <;> lia
theorem Jm {v:Value}{o:Option Int}{Q:Option Int->Shared->Prop}(p:IsPart v o)(h:Q o s):wpAny (model prog w) A (Builtin.Slice.slicePartIndex v) Q E s:=by
 cases p with
 | none=>exact slicePart_none h
 | int i t=>exact slicePart_int h
theorem Sv {sl:Addr}{vl vu:Value}{lo hi:Option Int}{n:Nat}{Q:Int×Int×Nat->Shared->Prop}(hs:s.heap.IsSliceOf sl vl vu .none)(pl:IsPart vl lo)(pu:IsPart vu hi)
 (h:Q (((sIx n 0 lo:Nat):Int),1,sIx n n hi - sIx n 0 lo) s):wpAny (model prog w) A (Builtin.Slice.sliceApplied (.ref sl) (pure (n:Int))) Q E s:=by
 obtain ⟨os,hos,hcs,hds⟩:=id hs;unfold Builtin.Slice.sliceApplied Builtin.Slice.sliceFields;refine um3 (um3 (um2 hos hds (x:=vl) rfl (um3 (um2 hos hds (x:=vu) rfl (um3 (um2 hos hds (x:=.none) rfl (um4 ?_)))))));refine um3 (slicePart_none ?_);show wpAny _ _ (if ((1:Int) == 0)=true then _ else _) _ _ s;rw [if_neg (by decide)];refine um3 (Jm pl (um3 (Jm pu (um3 (um4 ?_)))));show wpAny _ _ (match Builtin.Slice.sliceAdjust lo hi 1 (n:Int) with | (lo,hi)=>pure (lo,(1:Int),Builtin.Slice.slicePlaces lo hi 1)) _ _ s;rw [Nx lo hi n];show wpAny _ _ (pure (((sIx n 0 lo:Nat):Int),(1:Int),Builtin.Slice.slicePlaces ((sIx n 0 lo:Nat):Int) ((sIx n n hi:Nat):Int) 1)) _ _ s;rw [N2];exact um4 h
theorem ZX (xs:Array Value)(i k:Nat):((List.range k).filterMap λ(m:Nat)=>xs[((i:Int) + (m:Int) * 1).toNat]?).toArray=((xs.toList.drop i).take k).toArray:=by
 have e:(λ(m:Nat)=>xs[((i:Int) + (m:Int) * 1).toNat]?)=λm=>xs[i + m]?:=by
  funext m
  have:((i:Int) + (m:Int) * 1).toNat=i + m:=by lia
  rw [this]
 rw [e];have:=pick_run xs i k;rw [List.filterMap_map] at this;have e2:((λx=>xs[x]?) ∘ λx=>i + x)=λm=>xs[i + m]?:=rfl;rw [e2] at this;rw [this]
end
end HT
namespace L2
open PySem PySem.Spec PyProof.Rows
abbrev TO:=St->Hp->(Option Int->Hp->Prop)->Prop
def PO (X:Cx)(e:Option Expr)(t:TO):Prop:=
 ∀(pins:List (Addr×Obj)) (s:Shared) (σ:St) (H:Hp) (Q:Option Int->Hp->Prop),Inv X pins σ H s->t σ H Q->
  wpAny (model X.prog X.w) X.A (evalPart e X.env) (λu s'=>∃o H',Inv X pins σ H' s'/\IsPart u o/\Q o H') X.xe s
def Vd:TO:=λ_ H Q=>Q none H
def YM (t:TE):TO:=λσ H Q=>t σ H λx H1=>∃i,x = .int i/\Q (some i) H1
section
variable {X:Cx}{e:Expr}{te:TE}{lo hi:Option Expr}{tl th:TO}{pos p2:Pos}
theorem UD:PO X none Vd:=by
 intro pins s σ H Q I h;rw [evalPart_none];exact um4 ⟨none,H,I,.none,h⟩
theorem UE (h:PE X e te):PO X (some e) (YM te):=by
 intro pins s σ H Q I hw;rw [evalPart_some];refine thn (h pins s σ H _ I hw) λu s1 z9=>?_;obtain ⟨x,H1,I1,r1,q1⟩:=z9;obtain ⟨i,rfl,q⟩:=q1;obtain ⟨t,rfl⟩:=r1;exact ⟨some i,H1,I1,.int i t,q⟩
def SlR (X:Cx)(r:V->Option Int->Option Int->Hp->VK->Prop):Prop:=
 ∀(pins:List (Addr×Obj)) (s:Shared) (σ:St) (H:Hp) (x:V) (v vl vu:Value) (lo hi:Option Int) (sl:Addr) (Q:VK),Inv X pins σ H s->RelV x v->s.heap.IsSliceOf sl vl vu .none->IsPart vl lo->IsPart vu hi->r x lo hi H Q->
  ∃T id,typeLookup (.type T) "__getitem__" = pure (some (.builtin id))/\s.TypeIs v T/\wpAny (model X.prog X.w) X.A (getItem v (.ref sl)) (EP X pins σ Q) X.xe s
theorem SlR.or {r r':V->Option Int->Option Int->Hp->VK->Prop}(h:SlR X r)(h':SlR X r'):SlR X (λx lo hi H Q=>r x lo hi H Q\/r' x lo hi H Q):=by
 intro pins s σ H x v vl vu lo hi sl Q I rx hs pl pu q;rcases q with q | q
 ·exact h pins s σ H x v vl vu lo hi sl Q I rx hs pl pu q
 ·exact h' pins s σ H x v vl vu lo hi sl Q I rx hs pl pu q
def tSl (r:V->Option Int->Option Int->Hp->VK->Prop)(te:TE)(tl th:TO):TE:=λσ H Q=>te σ H λx H1=>tl σ H1 λl H2=>th σ H2 λu H3=>r x l u H3 Q
theorem RZ {r:V->Option Int->Option Int->Hp->VK->Prop}(hr:SlR X r)(he:PE X e te)(hl:PO X lo tl)(hu:PO X hi th):PE X (.Subscript e (.Slice lo hi none p2) pos) (tSl r te tl th):=by
 intro pins s σ H Q I h;refine Subscript_ (thn (he pins s σ H _ I h) λv s1 z9=>?_);obtain ⟨x,H1,I1,r1,q1⟩:=z9;refine wpAny_Slice (thn (hl pins s1 σ H1 _ I1 q1) λvl s2 ⟨l,H2,I2,pl,q2⟩=>thn (hu pins s2 σ H2 _ I2 q2) λvu s3 z9=>?_);obtain ⟨u,H3,I3,pu,q3⟩:=z9;rw [evalPart_none];refine um4 ?_;have I4:Inv X pins σ H3 { s3 with heap:=s3.heap.push { cls:=.type "slice",data:=.fields #[vl,vu,.none] } }:=I3.kept (t':=s3.toks) λb ob q=>ub9 _ q;obtain ⟨T,id,hT,ht,hg⟩:=hr pins { s3 with heap:=s3.heap.push { cls:=.type "slice",data:=.fields #[vl,vu,.none] } } σ H3 x v vl vu l u s3.heap.objs.size Q I4 r1 (Heap.IsSliceOf.new ..) pl pu q3;show wpAny (model X.prog X.w) X.A (subscriptTail e (.Slice lo hi none p2) v (.ref s3.heap.objs.size)) (EP X pins σ Q) X.xe { s3 with heap:=s3.heap.push { cls:=.type "slice",data:=.fields #[vl,vu,.none] } };exact tail_any (ops:=[.ref s3.heap.objs.size,v]) ht hT hg (by with_unfolding_all rfl)
def Ie (xs:List V)(lo hi:Option Int):List V:=(xs.drop (HT.sIx xs.length 0 lo)).take (HT.sIx xs.length xs.length hi - HT.sIx xs.length 0 lo)
theorem My (xs:List V)(lo hi:Option Int):(Ie xs lo hi).length<=xs.length:=by
 unfold Ie;rw [ug6,ug7];lia
theorem Vals.nil_iff {xs:List V}{us:List Value}(r:Vals xs us):us=[]↔xs=[]:=by
 cases r with
 | nil=>simp
 | cons _ _=>simp
end
noncomputable def ixN (n:Nat)(i:Int):Option Nat:=if 0<=i then (if i < n then some i.toNat else none) else if -(n:Int)<=i then some (i + n).toNat else none
def atI {α:Type}(xs:List α)(i:Int):Option α:=(ixN xs.length i).bind λj=>xs[j]?
theorem T5 {n:Nat}{i:Int}{j:Nat}(h:ixN n i=some j):seqIndex? i n=some j/\j < n/\-(n:Int)<=i/\i < n:=by
 unfold ixN at h
 by_cases h0:0<=i
 ·rw [if_pos h0] at h
  by_cases h1:i < n
  ·rw [if_pos h1] at h;have e:i.toNat=j:=uh8 h;exact ⟨by rw [seqIndex_of h0 h1,e],by lia,by lia,h1⟩
  ·rw [if_neg h1] at h;cases h
 ·rw [if_neg h0] at h
  by_cases h1 : -(n:Int)<=i
  ·rw [if_pos h1] at h;have e:(i + n).toNat=j:=uh8 h;exact ⟨by rw [seqIndex_neg (by lia) h1,e],by lia,h1,by lia⟩
  ·rw [if_neg h1] at h;cases h
theorem Jx {α:Type}{xs:List α}{i:Int}{v:α}(h:atI xs i=some v):∃j,seqIndex? i xs.length=some j/\xs[j]?=some v/\j < xs.length/\-(xs.length:Int)<=i/\i < xs.length:=by
 unfold atI at h
 cases e:ixN xs.length i with
 | none=>rw [e] at h;cases h
 | some j=>
   rw [e] at h;obtain ⟨h1,h2,h3,h4⟩:=T5 e;exact ⟨j,h1,h,h2,h3,h4⟩
theorem Ho {α:Type}{xs:List α}{j:Nat}{v:α}(h:xs[j]?=some v):atI xs (j:Int)=some v:=by
 have hj:j < xs.length:=(ua9.mp h).1;have e:ixN xs.length (j:Int)=some j:=by
  unfold ixN;rw [if_pos (by lia),if_pos (by lia)];simp
 unfold atI;rw [e];exact h
def MJ (b:Expr):Prop:=∀o i,subscripted b false o i=operate [o,i] (getItem o i)
def IxR (X:Cx)(r:R2):Prop:=
 ∀(value slice:Expr) (pins:List (Addr×Obj)) (s:Shared) (σ:St) (H:Hp) (x y:V) (v u:Value) (Q:VK),Inv X pins σ H s->RelV x v->RelV y u->r x y H Q->
  subscripted slice false v u=operate [v,u] (getItem v u)->wpAny (model X.prog X.w) X.A (subscriptTail value slice v u) (EP X pins σ Q) X.xe s
def MtR (X:Cx)(id:String)(r:V->List V->Hp->VK->Prop):Prop:=
 ∀(pins:List (Addr×Obj)) (s:Shared) (σ:St) (H:Hp) (x:V) (xs:List V) (v:Value) (us:List Value) (Q:VK),Inv X pins σ H s->RelV x v->Vals xs us->r x xs H Q->
  wpAny (model X.prog X.w) X.A (call (.builtin id) (v :: us)) (EP X pins σ Q) X.xe s
section
variable {X:Cx}{a b:Expr}{ta tb:TE}{pos:Pos}
theorem IxR.or {r r':R2}(h:IxR X r)(h':IxR X r'):IxR X (λx y H Q=>r x y H Q\/r' x y H Q):=by
 intro value slice pins s σ H x y v u Q I rx ry q hs;rcases q with q | q
 ·exact h value slice pins s σ H x y v u Q I rx ry q hs
 ·exact h' value slice pins s σ H x y v u Q I rx ry q hs
theorem Yu {r:R2}(hr:IxR X r)(ha:PE X a ta)(hb:PE X b tb)(hs:MJ b):PE X (.Subscript a b pos) (tOp r ta tb):=by
 intro pins s σ H Q I h;exact Subscript_ (QH ha hb I h λv u s2 x y H2 I2 rx ry q=>hr a b pins s2 σ H2 x y v u Q I2 rx ry q (hs _ _))
def Xh (K:PySem.W.Frag):R2:=λx y H Q=>∃p xs i v,x = .ref p/\y = .int i/\SqL K H p xs/\atI xs i=some v/\Q v H
def Xj (K:PySem.W.Frag):R2:=λx y H Q=>∃p xs i v,x = .ref p/\y = .int i/\SqT K H p xs/\atI xs i=some v/\Q v H
def Xi:R2:=λx y H Q=>∃z i c,x = .str z/\y = .int i/\z.length<=sizeLine/\atI z.cps.toList i=some c/\Q (.str ⟨#[c]⟩) H
theorem ix_list:IxR X (Xh X.K):=by
 intro value slice pins s σ H x y v u Q I rx ry h hs;obtain ⟨p,xs,i,z,rfl,rfl,hq,he,q⟩:=h
 cases rx
 obtain ⟨t,rfl⟩:=ry;obtain ⟨its,r,pl,hz⟩:=I.list hq;obtain ⟨j,h1,h2,h3,h4,h5⟩:=Jx he;obtain ⟨w,ew,rw'⟩:=r.get h2;have hl:=r.length;have hn:=Jc;have fin:EP X pins σ Q w s:=⟨z,H,I,rw',q⟩
 by_cases h0:0<=i
 ·have hj:i.toNat=j:=by
   rw [seqIndex_of h0 h5] at h1;exact uh8 h1
  exact item_listR pl.isList h0 (by lia) (by rw [hj];simpa using ew) fin hs
 ·have hj:(i + (its.toArray.size:Int)).toNat=j:=by
   rw [seqIndex_neg (by lia) h4] at h1;rw [uf2,<-hl];exact uh8 h1
  exact subscriptTail_builtinR (x:=w) pl.isList.typeIs slot_list_getitem.lookup
   (wpAny_getItem_list_neg (Q:=λr s'=>r=w/\EP X pins σ Q r s') pl.isList (by lia) (by rw [uf2] <;> lia) (by lia) (by rw [hj];simpa using ew) ⟨rfl,fin⟩) hs
theorem ix_tup:IxR X (Xj X.K):=by
 intro value slice pins s σ H x y v u Q I rx ry h hs;obtain ⟨p,xs,i,z,rfl,rfl,hq,he,q⟩:=h
 cases rx
 obtain ⟨t,rfl⟩:=ry;obtain ⟨its,r,pl,hz⟩:=I.tuple hq;obtain ⟨j,h1,h2,h3,h4,h5⟩:=Jx he;obtain ⟨w,ew,rw'⟩:=r.get h2;have hl:=r.length;have hn:=Jc;have fin:EP X pins σ Q w s:=⟨z,H,I,rw',q⟩;exact subscriptTail_builtinR (x:=w) pl.typeIs slot_tuple_getitem.lookup
  (getItem_tuple (j:=j) (Q:=λr s'=>r=w/\EP X pins σ Q r s') pl (by lia) (by lia) (by rw [uf2,<-hl];exact h1) (by simpa using ew) ⟨rfl,fin⟩) hs
theorem Wt:IxR X Xi:=by
 intro value slice pins s σ H x y v u Q I rx ry h hs;obtain ⟨z,i,c,rfl,rfl,hz,he,q⟩:=h;obtain ⟨t,rfl⟩:=rx;obtain ⟨t',rfl⟩:=ry;obtain ⟨j,h1,h2,h3,h4,h5⟩:=Jx he;have hl:z.cps.toList.length=z.length:=by simp [Str.length]
 rw [hl] at h1 h4 h5;have hn:=Jc;exact tail_any (typeIs_str s z t) slot_str_getitem.lookup (getItem_str (c:=c) (by
  have e1:decide (i < -(2 ^ 63:Int))=false:=uj0 (by lia);have e2:decide (i ≥ 2 ^ 63)=false:=uj0 (by lia);rw [e1,e2,uk0]) (by rw [h1];simpa using h2) ⟨.str ⟨#[c]⟩,H,I.tok _,⟨_,rfl⟩,q⟩) hs
def rIx (K:PySem.W.Frag):R2:=λx y H Q=>Xh K x y H Q\/Xj K x y H Q\/Xi x y H Q
theorem Ws:IxR X (rIx X.K):=ix_list.or (ix_tup.or Wt)
theorem Mn (lo hi:Option Int)(n:Nat):(sliceBounds lo hi none n).1=((HT.sIx n 0 lo:Nat):Int)/\(sliceBounds lo hi none n).2.1=((HT.sIx n n hi:Nat):Int)/\(sliceBounds lo hi none n).2.2=1:=by
 refine ⟨?_,?_,rfl⟩
 ·cases lo with
  | none=>simp [sliceBounds,HT.sIx]
  | some i=>
    simp only [sliceBounds,HT.sIx,Option.getD_none,show (1:Int) > 0 by decide,if_true]
    by_cases h:i < 0
    ·simp only [h,if_true] <;> lia
    ·simp only [h,if_false] <;> lia
 ·cases hi with
  | none=>simp [sliceBounds,HT.sIx]
  | some i=>
    simp only [sliceBounds,HT.sIx,Option.getD_none,show (1:Int) > 0 by decide,if_true]
    by_cases h:i < 0
    ·simp only [h,if_true] <;> lia
    ·simp only [h,if_false] <;> lia
theorem KN (its:List Value)(lo hi:Option Int):slicePick its.toArray lo hi none=((its.drop (HT.sIx its.length 0 lo)).take (HT.sIx its.length its.length hi - HT.sIx its.length 0 lo)).toArray:=by
 obtain ⟨h1,h2,h3⟩:=Mn lo hi its.toArray.size;unfold slicePick;rw [h1,h2,h3];simp only [sliceRange_one,pick_run,uf2] <;> rfl
def Xl (K:PySem.W.Frag):V->Option Int->Option Int->Hp->VK->Prop:=λx lo hi H Q=>∃a xs,x = .ref a/\SqL K H a xs/\∀p,H p=none->Q (.ref p) (upd H p (.lst (Ie xs lo hi)))
theorem Vb:SlR X (Xl X.K):=by
 intro pins s σ H x v vl vu lo hi sl Q I rx hs pl pu h;obtain ⟨a,xs,rfl,hx,q⟩:=h
 cases rx
 obtain ⟨its,r,ht,hz⟩:=I.list hx;have hlen:=r.length;refine ⟨"list",_,slot_list_getitem.lookup,ht.isList.typeIs,?_⟩;refine wpAny_getItem_list_slice ht.isList hs pl pu .none (by simp) ?_ (by rw [uf2] <;> lia);rw [KN,<-hlen];refine ⟨.ref s.heap.objs.size,_,I.laid (t':=s.toks) (o:=.lst (Ie xs lo hi)) (λb ob q=>ub9 _ q) (ul9 _) ?_,rfl,q _ (I.hok.fresh (ul9 _))⟩;exact ⟨ul1 (My xs lo hi) hz,_,0,(r.drop (HT.sIx xs.length 0 lo)).take (HT.sIx xs.length xs.length hi - HT.sIx xs.length 0 lo),ud7 _ rfl⟩
theorem Lv:Cm X (.type "list") (λxs H Q=>∃p ys,xs=[.ref p]/\(SqL X.K H p ys\/SqT X.K H p ys)/\∀l,H l=none->Q (.ref l) (upd H l (.lst ys))):=by
 intro pins s σ H xs us Q I r h;obtain ⟨p,ys,rfl,hq,q⟩:=h;obtain ⟨u,rfl,rx⟩:=FG r
 cases rx
 have fin:∀(its:List Value),Vals ys its->ys.length<=sizeLine->∀(h':Heap) (c':Nat),(∀b o',s.heap.get? b=some o'->h'.get? b=some o')->
  h'.get? s.heap.objs.size=some { cls:=.type "list",dict:=none,data:=.seq its.toArray c',slots:=#[] }->EP X pins σ Q (.ref s.heap.objs.size) { s with heap:=h' }:=λits r' hz h' c' kp e=>
  ⟨.ref s.heap.objs.size,_,I.laid (t':=s.toks) kp (ul9 _) (show ObjOk X.prog X.w _ h' _ (.lst ys) from ⟨hz,its,c',r',e⟩),rfl,q _ (I.hok.fresh (ul9 _))⟩
 rcases hq with hq | hq
 ·obtain ⟨its,r',pl,hz⟩:=I.list hq;have hlen:=r'.length;obtain ⟨o,ho,hc,n,hd⟩:=pl.isList;exact call_list_seq p (.inl rfl) ho hc hd (λh' c' kp e=>fin its r' hz h' c' kp e) (by simp only [uf2] <;> lia)
 ·obtain ⟨its,r',pl,hz⟩:=I.tuple hq;have hlen:=r'.length;obtain ⟨o,ho,hc,n,hd⟩:=pl;exact call_list_seq p (.inr rfl) ho hc hd (λh' c' kp e=>fin its r' hz h' c' kp e) (by simp only [uf2] <;> lia)
def tyV (K:PySem.W.Frag)(T:String)(x:V)(H:Hp):Prop:=match x with
 | .str _=>T = "str"
 | .int _=>T = "int"
 | .ref p=>(T = "list"/\∃xs,SqL K H p xs)\/(T = "tuple"/\∃o,K.lookup p=some o/\o.cls = .type "tuple"/\o.dict=none)\/
    (T = "dict"/\((∃kvs,H p=some (.dK kvs))\/∃kvs,H p=some (.dT kvs)))\/(T = "set"/\∃S n,H p=some (.set S n))
 | _=>False
theorem Qk {pins:List (Addr×Obj)}{σ:St}{H:Hp}{s:Shared}{T:String}{x:V}{v:Value}(I:Inv X pins σ H s)(r:RelV x v)(ty:tyV X.K T x H) :
 s.TypeIs v T/\∀a,v = .ref a->∃ob,s.heap.get? a=some ob/\ob.dict=none:=by
 cases x with
 | str z=>
   obtain ⟨t,rfl⟩:=r
   cases (show T = "str" from ty)
   exact ⟨typeIs_str s z t,λ_ e=>nomatch e⟩
 | int i=>
   obtain ⟨t,rfl⟩:=r
   cases (show T = "int" from ty)
   exact ⟨typeIs_int s i t,λ_ e=>nomatch e⟩
 | ref p=>
   cases r
   rcases ty with ⟨rfl,xs,hq⟩ | ⟨rfl,o,hk,hc,hd⟩ | ⟨rfl,hk⟩ | ⟨rfl,S,n,hk⟩
   ·obtain ⟨its,_,pl,_⟩:=I.list hq;refine ⟨pl.isList.typeIs,λa e=>?_⟩
    cases e
    obtain ⟨o,n,e,c,hd,_⟩:=pl;exact ⟨o,e,hd⟩
   ·refine ⟨⟨o,I.kIn p o hk,hc⟩,λa e=>?_⟩
    cases e
    exact ⟨o,I.kIn _ o hk,hd⟩
   ·have z:∃o,s.heap.get? p=some o/\o.ExactDict:=by
     rcases hk with ⟨kvs,hk⟩ | ⟨kvs,hk⟩
     ·obtain ⟨_,_,_,_,o,_,_,e,ex,_⟩:=I.hok p _ hk;exact ⟨o,e,ex⟩
     ·obtain ⟨_,_,_,_,o,_,_,e,ex,_⟩:=I.hok p _ hk;exact ⟨o,e,ex⟩
    obtain ⟨o,e,ex⟩:=z;refine ⟨⟨o,e,ex.1⟩,λa e2=>?_⟩
    cases e2
    exact ⟨o,e,ex.2.1⟩
   ·obtain ⟨o,_,_,_,e,ex,_⟩:=I.hok p _ hk;refine ⟨⟨o,e,ex.1⟩,λa e2=>?_⟩
    cases e2
    exact ⟨o,e,ex.2.1⟩
 | _=>exact False.elim ty
def Z2 (K:PySem.W.Frag)(T:String)(r:V->List V->Hp->VK->Prop)(to:TE):TE:=λσ H Q=>to σ H λx H1=>tyV K T x H1/\r x [] H1 Q
def tBM (K:PySem.W.Frag)(T:String)(r:V->List V->Hp->VK->Prop)(to:TE)(t:TA):TE:=λσ H Q=>to σ H λx H1=>tyV K T x H1/\t σ H1 λxs H2=>r x xs H2 Q
variable {o e:Expr}{es:List Expr}{to:TE}{t:TA}{name:Str}{apos cpos:Pos}{T id:String}{r:V->List V->Hp->VK->Prop}
theorem WV (pa:PlainAttrs T)(slot:Slot T name id)(hty:typeOf (.builtin id)=pure (.type "method_descriptor"))(hm:MtR X id r)(ho:PE X o to)
 (hbase:attributeBase o name X.env (eval o X.env)=eval o X.env:=by rfl) (hline:(apos.endLine == cpos.line)=true:=by rfl):PE X (.Call (.Attribute o name apos) [] [] cpos) (Z2 X.K T r to):=by
 intro pins s σ H Q I h;refine wpAny_Call_method0_late hbase hline (thn (ho pins s σ H _ I h) λv s1 z9=>?_);obtain ⟨x,H1,I1,r1,ty,q1⟩:=z9;obtain ⟨h1,h2⟩:=Qk I1 r1 ty;exact ⟨T,id,pa,slot,hty,h1,h2,Calls.callWith_builtin rfl (PySem.evalArgs_none (hm pins s1 σ H1 x [] v [] Q I1 r1 .nil q1))⟩
theorem Jf (pa:PlainAttrs T)(slot:Slot T name id)(hty:typeOf (.builtin id)=pure (.type "method_descriptor"))(hm:MtR X id r)(ho:PE X o to)(ha:PA X (e :: es) t)
 (hbase:attributeBase o name X.env (eval o X.env)=eval o X.env:=by rfl)
 (hfew:((backTo cpos (starEach (e :: es) X.env)).all (λx=>!x.1) && (backToKw cpos (keywordEach [] X.env)).all (λx=>x.1.isSome)
   && decide ((e :: es).length + ([]:List Keyword).length + (if ([]:List Keyword).isEmpty then 0 else 1) < 30))=true:=by rfl)
 (hline:(apos.endLine == cpos.line)=true:=by rfl) (hs:starEach (e :: es) X.env=(false,eval e X.env) :: starEach es X.env:=by rfl) (hplain:(backTo cpos (starEach es X.env)).any (·.1)=false:=by rfl) :
 PE X (.Call (.Attribute o name apos) (e :: es) [] cpos) (tBM X.K T r to t):=by
 intro pins s σ H Q I h;refine wpAny_Call_method_late hbase hfew hline rfl (thn (ho pins s σ H _ I h) λv s1 z9=>?_);obtain ⟨x,H1,I1,r1,ty,q1⟩:=z9;obtain ⟨h1,h2⟩:=Qk I1 r1 ty;refine ⟨T,id,pa,slot,hty,h1,h2,?_⟩;have hA:=ha cpos pins s1 σ H1 _ I1 q1;rw [hs] at hA ⊢;refine Calls.callWith_builtin (by show (false || (backTo cpos (starEach es X.env)).any (·.1))=false;rw [hplain] <;> rfl) (Calls.evalArgs_plain ?_);exact thn hA λus s2 ⟨vs,H2,I2,r2,q2⟩=>hm pins s2 σ H2 x vs v us Q I2 r1 r2 q2
/- xs.append(e),list.index on a module's tuple .. are MtR facts of 06m -/
end
def MtM (X:Cx)(id:String)(r:V->List V->Hp->VK->Prop):Prop:=
 ∀(pins:List (Addr×Obj)) (s:Shared) (σ:St) (H:Hp) (x:V) (xs:List V) (v:Value) (us:List Value) (Q:VK),Inv X pins σ H s->RelV x v->Vals xs us->r x xs H Q->
  wpAny (model X.prog X.w) X.A (call (.builtin id) (v :: us)) (EP X pins σ Q) X.xe s
theorem Vals.one {x:V}{us:List Value}(h:Vals [x] us):∃u,us=[u]/\RelV x u:=by
 cases h with
 | cons r t=>
   cases t
   exact ⟨_,rfl,r⟩
theorem Vals.zero:∀{us:List Value},Vals [] us->us=[]
 | _,.nil=>rfl
theorem Vals.rep {xs:List V}{us:List Value}(h:Vals xs us):∀k:Nat,Vals (List.replicate k xs).flatten (List.replicate k us).flatten
 | 0=>.nil
 | k + 1=>by
   rw [ud9,ud9,uf5,uf5];exact Vals.append h (Vals.rep h k)
theorem OZ (its:List Value):∀(k:Nat) (acc:List Value),
 List.foldl (λx1 x2=>x1++x2) acc.toArray (List.replicate k its.toArray)=(acc++(List.replicate k its).flatten).toArray
 | 0,acc=>by simp
 | k + 1,acc=>by
   have e:acc.toArray++its.toArray=(acc++its).toArray:=by simp
   have e2:(acc++its)++(List.replicate k its).flatten=acc++(List.replicate (k + 1) its).flatten:=by
    rw [ud9,uf5,uf6]
   rw [<-e2,<-OZ its k (acc++its),<-e,ud9,List.foldl_cons]
section
variable {X:Cx}{pins:List (Addr×Obj)}{σ:St}{H:Hp}{s:Shared}{l b:Addr}{xs ys zs:List V}
theorem Inv.lset {its its':List Value}{n:Nat}{f:Array Value->Array Value}{t':Nat}(I:Inv X pins σ H s)(hH:H l=some (.lst xs))
 (e:s.heap.get? l=some { cls:=.type "list",data:=.seq its.toArray n }) (hf:f its.toArray=its'.toArray) (hv:Vals ys its') (hz:ys.length<=sizeLine) :
 Inv X pins σ (upd H l (.lst ys)) { s with heap:=s.heap.update l (Obj.mapSeq f),toks:=t' }:=by
 have q:=PySem.IsL.update e f;rw [hf] at q;refine I.write (x:=l) (e:=l) (by rw [hH];exact trivial) (.inl rfl) (λb' u hb hu=>(uc1 s.heap (Obj.mapSeq f) (Ne.symm hb)).trans hu) ⟨_,q⟩ ?_;exact ⟨hz,its',_,hv,q⟩
theorem Inv.lnew {its:List Value}{t':Nat}(I:Inv X pins σ H s)(hv:Vals ys its)(hz:ys.length<=sizeLine) :
 Inv X pins σ (upd H s.heap.objs.size (.lst ys)) { s with heap:=s.heap.push { cls:=.type "list",data:=.seq its.toArray },toks:=t' }:=
 I.laid (λ_ _ q=>ub9 _ q) (ul9 _) ⟨hz,its,0,hv,ud7 _ rfl⟩
theorem Inv.fresh (I:Inv X pins σ H s):H s.heap.objs.size=none:=I.hok.fresh (ul9 _)
theorem Inv.lstM (I:Inv X pins σ H s)(hH:H l=some (.lst xs)):xs.length<=sizeLine/\∃(its:List Value) (n:Nat),Vals xs its/\xs.length=its.length/\s.heap.get? l=some { cls:=.type "list",data:=.seq its.toArray n }:=by
 obtain ⟨z,its,n,r,e⟩:=I.hok l _ hH;exact ⟨z,its,n,r,r.length,e⟩
theorem RB {n:Nat}(h:n<=sizeLine):Builtin.List.listTooLong n=false:=by
 unfold Builtin.List.listTooLong;exact uj0 (by lia)
end
section
variable {X:Cx}
def M8:V->List V->Hp->VK->Prop:=λx vs H Q=>∃l xs y,x = .ref l/\vs=[y]/\H l=some (.lst xs)/\xs.length < sizeLine/\Q .non (upd H l (.lst (xs++[y])))
theorem Ky:MtM X "list.append" M8:=by
 intro pins s σ H x vs v us Q I rx rv h;obtain ⟨l,xs,y,rfl,rfl,hH,hz,q⟩:=h
 cases rx
 obtain ⟨u,rfl,ru⟩:=rv.one;obtain ⟨z,its,n,r,hl,e⟩:=I.lstM hH;refine call_meets F.slot_list_append ⟨_,e,rfl⟩ F.entry_list_append (F.args_list_append_2 _ _) (PySem.list_append l its.toArray n u (by rw [uf2];lia)) ⟨e,?_⟩;refine ⟨.non,_,I.lset (its':=its++[u]) hH e (by simp) (r.append (.cons ru .nil)) ?_,rfl,q⟩;rw [ue6,List.length_singleton];lia
def M9:V->List V->Hp->VK->Prop:=λx vs H Q=>∃l b xs zs,x = .ref l/\vs=[.ref b]/\H l=some (.lst xs)/\H b=some (.lst zs)/\xs.length + zs.length<=sizeLine/\Q .non (upd H l (.lst (xs++zs)))
theorem Pw:MtM X "list.extend" M9:=by
 intro pins s σ H x vs v us Q I rx rv h;obtain ⟨l,b,xs,zs,rfl,rfl,hH,hB,hz,q⟩:=h
 cases rx
 obtain ⟨u,rfl,ru⟩:=rv.one
 cases ru
 obtain ⟨z,its,n,r,hl,e⟩:=I.lstM hH;obtain ⟨z2,its2,n2,r2,hl2,e2⟩:=I.lstM hB;have hsz:its.toArray.size + its2.toArray.size<=sizeLine:=by rw [uf2,uf2];lia
 have hlong:¬(!its.toArray.isEmpty && Builtin.List.listTooLong (its.toArray.size + its2.toArray.size))=true:=by
  rw [RB hsz,uj4];exact ue3
 refine call_meets F.slot_list_extend ⟨_,e,rfl⟩ F.entry_list_extend (F.args_list_extend_2 _ _)
  (AutoSeq1.list_extend_list_list_0 l its.toArray n b its2.toArray n2 hlong (by rw [uf2];lia) (by lia)) ⟨e,e2,?_⟩
 refine ⟨.non,_,I.lset (its':=its++its2) hH e (by simp) (r.append r2) ?_,rfl,q⟩;rw [ue6];lia
def Xd:V->List V->Hp->VK->Prop:=λx vs H Q=>∃l xs,x = .ref l/\vs=[]/\H l=some (.lst xs)/\Q .non (upd H l (.lst []))
theorem Rx:MtM X "list.clear" Xd:=by
 intro pins s σ H x vs v us Q I rx rv h;obtain ⟨l,xs,rfl,rfl,hH,q⟩:=h
 cases rx
 have hus:=rv.zero;subst hus;obtain ⟨z,its,n,r,hl,e⟩:=I.lstM hH;refine call_meets F.slot_list_clear ⟨_,e,rfl⟩ F.entry_list_clear (F.args_list_clear_1 _) (AutoSeq1.list_clear_list_0 l its.toArray n (by rw [uf2];lia)) ⟨e,?_⟩;exact ⟨.non,_,I.lset (its':=[]) (ys:=[]) hH e rfl .nil (um0 _),rfl,q⟩
def R9:R2:=λx y H Q=>∃l b xs zs,x = .ref l/\y = .ref b/\H l=some (.lst xs)/\H b=some (.lst zs)/\xs.length + zs.length<=sizeLine/\∀p,H p=none->Q (.ref p) (upd H p (.lst (xs++zs)))
theorem PF:OpR X (binaryOp .Add) R9:=by
 intro pins s σ H x y v u Q I rx ry h;obtain ⟨l,b,xs,zs,rfl,rfl,hH,hB,hz,q⟩:=h
 cases rx
 cases ry
 obtain ⟨z,its,n,r,hl,e⟩:=I.lstM hH;obtain ⟨z2,its2,n2,r2,hl2,e2⟩:=I.lstM hB;refine PySem.P.add_list e e2 ?_ (by rw [uf2,uf2];lia);have ea:its.toArray++its2.toArray=(its++its2).toArray:=by simp
 rw [ea];exact ⟨.ref _,_,I.lnew (t':=s.toks) (r.append r2) (by rw [ue6];lia),rfl,q _ I.fresh⟩
def bA:R2:=λx y H Q=>∃l k xs,x = .ref l/\y = .int k/\H l=some (.lst xs)/\-(2 ^ 63)<=k/\k < 2 ^ 63/\xs.length * k.toNat<=sizeLine/\
 ∀p,H p=none->Q (.ref p) (upd H p (.lst (List.replicate k.toNat xs).flatten))
theorem aV {α:Type}(xs:List α)(k:Nat):(List.replicate k xs).flatten.length=k * xs.length:=by
 induction k with
 | zero=>simp
 | succ k ih=>rw [ud9,uf5,ue6,ih,Nat.succ_mul,Nat.add_comm]
end
section
variable {prog:Program}{w:World}{A:Around}{E:Value->Shared->Prop}{s:Shared}
end
section
variable {X:Cx}
end
end L2
namespace Att
open PySem PySem.W PySem.Calls PyProof.Rows
theorem I9 {P:Params}{h:Heap}:∀(ns:List Int) (vs:List Value),WellAll P h vs (ns.map WData.int)->IntsAre vs ns:=by
 intro ns
 induction ns with
 | nil=>
   intro vs w;rw [ul3] at w
   cases w
   exact .nil
 | cons n ns ih=>
   intro vs w;rw [uj9] at w
   cases w with
   | cons a b=>
     cases a
     exact .cons _ _ (ih _ b)
theorem P8 {l:OpenLaw}{n:Nat}(hn:l.most=some n){P:Params}{h:Heap}{args:List WData}{vals:List Value}
 (hpre:l.row.toRowW.claim.pre args=true) (hwl:WellAll P h vals args) :
 ∃a vs ns,vals=[Value.ref a]/\args=[WData.list (ns.map WData.int)]/\h.get? a=some { cls:=.type "list",data:=.seq vs.toArray }/\IntsAre vs ns/\ns.length<=n:=by
 have hsh:WShape.hasAll [] args [.list .int]=true:=(pre_splitW hpre).1;have hc:l.pre.holds [] { args:=args }=true:=(pre_splitW hpre).2;obtain ⟨d,r,rfl,h1,h2⟩:=hasAllW_cons hsh;obtain rfl:=hasAllW_nil h2;obtain ⟨xs,rfl,h3⟩:=hasW_list h1;obtain ⟨ns,rfl⟩:=items_int h3;have hlen:ns.length<=n:=by
  unfold OpenLaw.pre at hc;have h4:(WTm.not (.lt (.lit (.int (n:Int))) (.len (.arg 0)))).holds [] { args:=[.list (ns.map .int)] }=true:=by
   have h4:=(holds_andW hc).1;rw [hn] at h4;exact h4
  have h5:=condW_of h4 (w_not (w_lt w_lit (w_len_list (w_arg rfl))));rw [uh9] at h5;refine Nat.le_of_not_lt λq=>?_;have q':(n:Int) < ((ns.length:Nat):Int):=by lia
  first
   | (rw [uj6 q'] at h5;exact absurd h5 (by decide))
   | (simp at h5;lia)
 cases hwl with
 | cons w1 w2=>
   cases w2
   cases w1 with
   | list ho hall=>exact ⟨_,_,ns,rfl,rfl,ho,I9 ns _ hall,hlen⟩
theorem PX (l:OpenLaw)(args:List WData):l.row.toRowW.claim.post args (.bool true) args=true:=
 postW_of (r:=l.row.toRowW) (X:=(true == true))
  (show WShape.has [] (.bool true) .bool=true by first | rfl | decide | simp [WShape.has,WShape.arms,WShape.armsAll])
  (show (WTm.eq .res (.lit (.bool true))).value [] { args:=args,res:=some (.bool true),after:=args }=some (.bool (true == true)) from w_eq_bool (w_res rfl) w_lit) rfl
theorem attach_call {l:OpenLaw}{n:Nat}{q:Program}{loose:List Str}{XP:(Str->Option Value)->Heap->Prop}{YP:World->Heap->Prop}{d:DefRec}
 (hn:l.most=some n) (hdf:d.params.defaults=[])
 (call:∀(w:World) (s₀ s₁:Shared) (mg mb:Str->Option Value) (fa:Addr) (o:Obj) (pm cd doc:Value) (a:Addr) (vs:List Value) (ns:List Int),
   Ground q loose [] XP w s₀ mg mb s₁.heap->YP w s₁.heap->
   s₁.heap.get? fa=some o->o.data = .func (docDef d.name d.params d.body d.scope pm cd doc)->s₁.heap.CodeRec cd d.name->mg d.name=some (.ref fa)->
   s₁.heap.get? a=some { cls:=.type "list",data:=.seq vs.toArray }->IntsAre vs ns->ns.length<=n->s₁.gens=#[]->
   codeAny (model l.prog w) callerA (.call (.ref fa) ⟨[.ref a],[]⟩) (λr s'=>r = .ok (.ret (.bool true))/\OldK s₁.heap s'.heap/\s'.os=s₁.os/\AllBare s'.gens) s₁) :
 WalkO q loose XP YP l.row.toRowW d [] (λf vs=>PySem.call f vs):=by
 intro w s₀ s₁ mg mb G Y fa o pm cd doc dV kV ho hd hcd hD hmg hg args vals as hpre hlay hrd hwl hlo;obtain rfl:dV = .none:=Dflts.none hD hdf;obtain rfl:kV = .none:=Dflts.noKw hD;obtain ⟨a,vs,ns,rfl,rfl,hobj,hints,hlen⟩:=P8 hn hpre hwl;refine enter_call (codeAny_mono (call w s₀ s₁ mg mb fa o pm cd doc a vs ns G Y ho (fd_plain hd) hcd hmg hobj hints hlen hg) λr s' hq=>?_);obtain ⟨rfl,h2,h3,h4⟩:=hq;exact ⟨.inl ⟨.bool true,.bool true,[],rfl,λ_=>rfl,.bool true,PX l _,λ_=>⟨List.Pairwise.nil,λ_ hm=>(nomatch hm)⟩⟩,h2,h3,h4⟩
section
variable {prog:Program}{w:World}{A:Around}{E:Value->Shared->Prop}{s:Shared}{K:Frag}
noncomputable def a9 (h:Heap)(L d:Addr):List (Addr×Obj):=(List.range h.objs.size).filterMap λa=>if a=L\/a=d then none else (h.get? a).map λo=>(a,o)
end
end Att
namespace L2
open PySem PySem.Spec PyProof.Rows
theorem KD:∀{vs:List Value} {ns:List Int},IntsAre vs ns->Vals (ns.map V.int) vs
 | _,_,.nil=>.nil
 | _,_,.cons n t h=>.cons ⟨t,rfl⟩ (KD h)
def Nt (H:Hp):Prop:=∀b,H b=none\/∃o xs,H b=some (.frz o (.lst xs))
variable {P:Program}{w:World}{fd:FuncData}
theorem Rk {K:PySem.W.Frag}{mg mb:Str->Option Value}{CX:CXT}{k:Nat}{fa a:Addr}{x:Str}{sp:Sp}{s₁:Shared}{vs:List Value}{ns:List Int}
 (KX:K.In s₁.heap) (hns:s₁.heap.Ns mainGlobals mg) (hb:s₁.heap.Ns builtinsNs mb) (hbb:∀x:Str,x≠"__name__"->mb x=bootBuiltins x) (hlim:s₁.heap.NoLimit) (hg:s₁.gens=#[])
 (ha:s₁.heap.get? a=some { cls:=.type "list",data:=.seq vs.toArray }) (hi:IntsAre vs ns) (hl:ns.length<=sizeLine) (hr:Room k callerA)
 (F:∀base:Heap,K.In base->base.Ns mainGlobals mg->FnOk P w K mg base CX k fa fd [x] sp) (hbind:∀(s:Shared) (u:Value),BindsTo s fd ⟨[u],[]⟩ [(x,u)])
 (hsp:∀H:Hp,Nt H->SqL K H a (ns.map V.int)->sp [.ref a] H (λv _=>v = .bl true) λ_ _ _=>False)
 (hCX:∀H e s',CX [] H s₁ (λ_ _ _=>False) e s'->False) :
 codeAny (model P w) callerA (.call (.ref fa) ⟨[.ref a],[]⟩) (λr s'=>r = .ok (.ret (.bool true))/\OldK s₁.heap s'.heap/\s'.os=s₁.os/\AllBare s'.gens) s₁:=by
 have rv:=KD hi;have lenV:=hi.length
 -- from an abstract heap in which nothing but the script may be tracked
 have core:∀H:Hp,Nt H->SqL K H a (ns.map V.int)->HOk P w H s₁.heap->(∀b,H b≠none->b=a)->(H a≠none->K.lookup a=none)->
  codeAny (model P w) callerA (.call (.ref fa) ⟨[.ref a],[]⟩) (λr s'=>r = .ok (.ret (.bool true))/\OldK s₁.heap s'.heap/\s'.os=s₁.os/\AllBare s'.gens) s₁:=by
  intro H hO hS hok hA hK;have base_of:∀{b:Addr} {o:Obj},s₁.heap.get? b=some o->H b=none->(Gh s₁.heap H).get? b=some o:=λe n=>Rf e n;have noA:∀{b:Addr} {o:Obj} {es:Array DictEntry} {ep:Nat},s₁.heap.get? b=some o->o.data = .dict es ep->H b=none:=λ{b o es ep} e d=>by
   cases q:H b with
   | none=>rfl
   | some u=>
     have e':b=a:=hA b (by rw [q];simp);subst e';rw [ha] at e;cases e
     have d':Data.seq vs.toArray _=Data.dict es ep:=d
     cases d'
  have nsK:∀{b:Addr} {m:Str->Option Value},s₁.heap.Ns b m->(Gh s₁.heap H).Ns b m:=λ{b m} ⟨o,es,ep,e,d,r⟩=>⟨o,es,ep,base_of e (noA e d),d,r⟩;have hKb:K.In (Gh s₁.heap H):=λb o e=>base_of (KX b o e) (by
   cases q:H b with
   | none=>rfl
   | some u=>
     have e':b=a:=hA b (by rw [q];simp);subst e';rw [hK (by rw [q];simp)] at e;cases e)
  have hM:Mod K mg (Gh s₁.heap H):=⟨hKb,nsK hns,⟨mb,nsK hb,hbb⟩,let ⟨mc,h1,h2⟩:=hlim;⟨mc,nsK h1,h2⟩⟩;have e0:Env0 P w K mg (Gh s₁.heap H) callerA [] s₁ H:=⟨rfl,hM,λb o e=>Uj e,Nat.le_of_eq (Pc _ _),trivial,λb hb=>absurd (show b∈([]:List Addr) from hb) (by simp),hok,.of_eq hg⟩;refine codeAny_mono ((F _ hKb (nsK hns)).run callerA [] s₁ H ⟨[.ref a],[]⟩ [.ref a] [.ref a] _ _ hr e0 (hbind s₁ (.ref a)) (.cons rfl .nil) (hsp H hO hS)) λr s' h=>?_
  cases r with
  | error e=>exact (hCX H e s' h).elim
  | ok fl=>
    cases fl with
    | next=>exact False.elim h
    | brk=>exact False.elim h
    | cont=>exact False.elim h
    | ret u=>
      obtain ⟨v,H',os,bare,un,hok',r',q⟩:=h;have q':v = .bl true:=q;subst q';obtain rfl:u=Value.bool true:=r';refine ⟨rfl,OldK.of_keep λb o e=>?_,os,bare⟩
      cases q:H b with
      | none=>exact un.keep b o e q (by intro z;exact absurd (show b∈([]:List Addr) from z) (by simp)) (by simp)
      | some u=>
        rcases hO b with z | ⟨ob,xs,z⟩
        ·rw [q] at z;cases z
        ·have z2:=un.frzs b ob _ z;obtain ⟨e1,_⟩:=hok b _ z;obtain ⟨e2,_⟩:=hok' b _ z2;rw [e] at e1;cases e1
         exact e2
 cases hk:K.lookup a with
 | some o=>
   -- the script is one of the module's own objects
   have e:=KX a o hk;rw [ha] at e
   cases e
   refine core (λ_=>none) (λ_=>.inl rfl) (.inr ⟨_,vs.toArray,_,hk,rfl,rfl,rfl,by rw [uf2,lenV];exact hl,by simpa using rv⟩) (λb u z=>by have z':(none:Option HO)=some u:=z;cases z') (λb z=>absurd rfl z) λz=>absurd rfl z
 | none=>
   refine core (λb=>if b=a then some (.frz { cls:=.type "list",data:=.seq vs.toArray } (.lst (ns.map V.int))) else none) (λb=>?_) (.inl (.inr ⟨{ cls:=.type "list",data:=.seq vs.toArray },if_pos rfl⟩)) (λb u z=>?_) (λb z=>?_) λ_=>hk
   ·by_cases hb:b=a
    ·exact .inr ⟨_,_,if_pos hb⟩
    ·exact .inl (if_neg hb)
   ·by_cases hb:b=a
    ·have z':=(if_pos hb).symm.trans z
     cases z'
     subst hb;exact ⟨ha,by rw [uh9];exact hl,vs,_,rv,ha⟩
    ·have z':=(if_neg hb).symm.trans z
     cases z'
   ·by_cases hb:b=a
    ·exact hb
    ·exact absurd (if_neg hb) z
theorem Vs {l:PySem.W.OpenLaw}{n k:Nat}{q:Program}{loose:List Str}{XP:(Str->Option Value)->Heap->Prop}{YP:World->Heap->Prop}{d:DefRec}{K:Params->PySem.W.Frag}{CX:World->CXT}{sp:World->Sp}{x:Str}
 (hn:l.most=some n) (hn2:n<=sizeLine) (hdf:d.params.defaults=[]) (hr:Room k callerA)
 (hY:∀(w:World) (h:Heap),YP w h->(K w.params).In h)
 (F:∀(w:World) (mg:Str->Option Value) (fa:Addr) (h:Heap),(K w.params).In h->h.Ns mainGlobals mg->mg d.name=some (.ref fa)->
   ∃fd:FuncData,(∀(s:Shared) (u:Value),BindsTo s fd ⟨[u],[]⟩ [(x,u)])/\
    ∀base:Heap,(K w.params).In base->base.Ns mainGlobals mg->FnOk l.prog w (K w.params) mg base (CX w) k fa fd [x] (sp w))
 (hsp:∀(w:World) (H:Hp) (a:Addr) (ns:List Int),ns.length<=n->Nt H->SqL (K w.params) H a (ns.map V.int)->sp w [.ref a] H (λv _=>v = .bl true) λ_ _ _=>False)
 (hCX:∀(w:World) (H:Hp) (s:Shared) (e:Value) (s':Shared),CX w [] H s (λ_ _ _=>False) e s'->False) :
 PySem.W.WalkO q loose XP YP l.row.toRowW d [] (λf vs=>PySem.call f vs):=by
 refine Att.attach_call hn hdf λw s₀ s₁ mg mb fa o pm cd doc a vs ns G Y ho hd hcd hmg hobj hints hlen hg=>?_;have KX:=hY w _ Y;obtain ⟨fd,hb,hF⟩:=F w mg fa _ KX G.T.g hmg;exact Rk KX G.T.g G.T.b G.T.builtins G.T.nolimit hg hobj hints (ul1 hlen hn2) hr hF hb (λH hO hS=>hsp w H a ns hlen hO hS) λH e s'=>hCX w H s₁ e s'
noncomputable def Cr (s:Stmt):Arguments:=match s with
 | .FunctionDef _ a _ _ _ _ _ _ _ _=>a
 | _=>{ posonlyargs:=[],args:=[],vararg:=none,kwonlyargs:=[],kw_defaults:=[],kwarg:=none,defaults:=[] }
noncomputable def A8 (s:Stmt):List Stmt:=match s with
 | .FunctionDef _ _ b _ _ _ _ _ _ _=>b
 | _=>[]
noncomputable def Al (s:Stmt):Scope:=match s with
 | .FunctionDef _ _ _ _ _ _ sc _ _ _=>sc
 | _=>{ kind:=.function,names:=[],isGenerator:=false,isCoroutine:=false }
abbrev CX0:CXT:=λ_ _ _ _ _ _=>False
abbrev E0:XK:=λ_ _ _=>False
variable {X:Cx}
theorem HB:E5 CX0 X E0:=λ_ _ _ _ _ _ _ h=>h.elim
structure Fun (K:PySem.W.Frag)(x qual:Str)(st:Stmt)(f:Addr)(fd:FuncData):Prop where
 ex:∃(oc:Value) (od:Option Addr) (kV doc pm:Value) (an:Option Addr) (cdv ct:Value) (osl:Array (Option Value)),
  fd=PySem.W.fnOf x qual (Cr st) (A8 st) (Al st) .none kV doc pm an cdv ct/\K.lookup f=some ⟨oc,od,.func fd,osl⟩/\PySem.W.codeIn K cdv qual=true
 kp:PySem.W.keepIn K (.ref f)=true
variable {qual:Str}{f:Addr}
section
variable {P:Program}{w:World}{K:PySem.W.Frag}{mg:Str->Option Value}{base:Heap}
theorem Fun.ok {x:Str}{st:Stmt}{N ps:List Str}{k:Nat}{sp:Sp}(F:Fun K x qual st f fd)(S:FnScope N ps (Al st))(len:∀vs H Q E,sp vs H Q E->vs.length=ps.length)
 (hbody:∀(cdv:Value) (A:Around) (outer:List Env) (s:Shared) (H:Hp) (vs:List V) (Q:VK) (E:XK),Room k (A.deeper (envOfC qual (Al st) s.heap.objs.size f cdv))->sp vs H Q E->
   ∃t,PSs (Db CX0 P w K mg base N qual (Al st) f cdv A outer s H E).nox (A8 st) t/\t { nx:=λ_ H'=>Q .non H',rt:=Q } (Cp N vs) H):FnOk P w K mg base CX0 (k + 1) f fd ps sp:=by
 obtain ⟨oc,od,kV,doc,pm,an,cdv,ct,osl,rfl,lk,hcd⟩:=F.ex;refine S6 lk hcd S len λA outer s H vs Q E hr hsp=>?_;obtain ⟨t,h,q⟩:=hbody cdv A outer s H vs Q E hr hsp;exact ⟨t,h.nox,q⟩
theorem Fun.binds {x:Str}{st:Stmt}{ps:List Str}(F:Fun K x qual st f fd)
 (h:∀(kV doc pm:Value) (an:Option Addr) (cdv ct:Value) (us:List Value),us.length=ps.length->bindArgs (PySem.W.fnOf x qual (Cr st) (A8 st) (Al st) .none kV doc pm an cdv ct) ⟨us,[]⟩=pure (ps.zip us)):Binds K fd ps []:=by
 obtain ⟨oc,od,kV,doc,pm,an,cdv,ct,osl,rfl,lk,hcd⟩:=F.ex;exact .all (h kV doc pm an cdv ct)
theorem EF {x:Str}{st:Stmt}{oc:Value}{od an:Option Addr}{osl:Array (Option Value)}{kV doc pm cdv ct:Value}(l:K.lookup f=some ⟨oc,od,.func (PySem.W.fnOf x qual (Cr st) (A8 st) (Al st) .none kV doc pm an cdv ct),osl⟩)
 (c:PySem.W.codeIn K cdv qual=true) (k:PySem.W.keepIn K (.ref f)=true):Fun K x qual st f (PySem.W.fnOf x qual (Cr st) (A8 st) (Al st) .none kV doc pm an cdv ct):=⟨⟨oc,od,kV,doc,pm,an,cdv,ct,osl,rfl,l,c⟩,k⟩
end
section
variable {X:Cx}
end
def br (H H':Hp):Prop:=∀b o,H b=some o->H' b=some o
section
variable {κ:Type}[DecidableEq κ]
noncomputable def DI (kvs:List (κ×V))(k:κ):Option V:=(kvs.find? λkv=>decide (kv.1=k)).map (·.2)
noncomputable def DH (kvs:List (κ×V))(k:κ)(v:V):List (κ×V):=
 if (kvs.any λkv=>decide (kv.1=k))=true then kvs.map (λkv=>if kv.1=k then (kv.1,v) else kv) else kvs++[(k,v)]
theorem Gz {p:κ×V}{r:List (κ×V)}{k:κ}(e:p.1=k):DI (p :: r) k=some p.2:=by simp [DI,ui4,e]
theorem Gy {p:κ×V}{r:List (κ×V)}{k:κ}(e:¬p.1=k):DI (p :: r) k=DI r k:=by simp [DI,ui4,e]
theorem HR (kvs:List (κ×V))(k:κ)(v:V):(DH kvs k v).length<=kvs.length + 1:=by
 unfold DH
 split
 ·rw [uh9];lia
 ·rw [ue6,ug4,ui5];lia
theorem RelO.isSome_eq {o:Option V}{u:Option Value}(r:RelO o u):o.isSome=u.isSome:=by
 cases o with
 | none=>cases u with
   | none=>rfl
   | some _=>exact (show False from r).elim
 | some _=>cases u with
   | none=>exact (show False from r).elim
   | some _=>rfl
theorem KV.val {kvs:List (κ×V)}{vs:List (κ×Value)}(r:KV kvs vs)(k:κ):RelO (DI kvs k) (valueAt vs k):=by
 unfold KV at r
 induction r with
 | nil=>exact True.intro
 | @cons p q ps qs h t ih=>
   obtain ⟨h1,h2⟩:=h
   by_cases e:p.1=k
   ·have e':q.1=k:=h1.symm.trans e;have b:valueAt (q :: qs) k=some q.2:=by simp [valueAt,ui4,e']
    rw [Gz e,b];exact h2
   ·have e':¬q.1=k:=λz=>e (h1.trans z);have b:valueAt (q :: qs) k=valueAt qs k:=by simp [valueAt,ui4,e']
    rw [Gy e,b];exact ih
theorem KV.any {kvs:List (κ×V)}{vs:List (κ×Value)}(r:KV kvs vs)(k:κ):(kvs.any λkv=>decide (kv.1=k))=vs.any λkv=>decide (kv.1=k):=by
 unfold KV at r
 induction r with
 | nil=>rfl
 | cons h t ih=>rw [uk1,uk1,ih,h.1]
theorem KV.repl {kvs:List (κ×V)}{vs:List (κ×Value)}(r:KV kvs vs)(k:κ){y:V}{u:Value}(ry:RelV y u) :
 KV (kvs.map λkv=>if kv.1=k then (kv.1,y) else kv) (vs.map λkv=>if kv.1=k then (kv.1,u) else kv):=by
 unfold KV at r ⊢
 induction r with
 | nil=>exact .nil
 | @cons p q ps qs h t ih=>
   rw [uj9,uj9];refine .cons ?_ ih;obtain ⟨h1,h2⟩:=h
   by_cases e:p.1=k
   ·rw [if_pos e,if_pos (h1.symm.trans e)];exact ⟨h1,ry⟩
   ·rw [if_neg e,if_neg (λz=>e (h1.trans z))];exact ⟨h1,h2⟩
theorem KV.put {kvs:List (κ×V)}{vs:List (κ×Value)}(r:KV kvs vs)(k:κ){y:V}{u:Value}(ry:RelV y u):KV (DH kvs k y) (stored vs k u):=by
 unfold DH stored;rw [r.any k]
 by_cases e:(vs.any λkv=>decide (kv.1=k))=true
 ·rw [if_pos e,if_pos e];exact r.repl k ry
 ·rw [if_neg e,if_neg e];exact Paired.snoc r ⟨rfl,ry⟩
theorem KV.length {kvs:List (κ×V)}{vs:List (κ×Value)}(r:KV kvs vs):kvs.length=vs.length:=Paired.length r
end
theorem Ja {k:Key}{u:Value}(r:RelV (kV k) u):(BG P w).is k u=true:=by
 cases k with
 | inl i=>obtain ⟨t,e⟩:=(show ∃t,u=Value.int i t from r);subst e;exact Mz P w i t
 | inr x=>obtain ⟨t,e⟩:=(show ∃t,u=Value.str x t from r);subst e;exact MA P w x t
theorem Kv {P:Program}{w:World}:∀{ks:List Key} {us:List Value},Vals (ks.map kV) us->ItemsAre (BG P w) ks us
 | [],_,r=>by rw [ul3] at r;cases r;exact .nil
 | k :: ks,_,r=>by
   rw [uj9] at r
   cases r with
   | cons h t=>exact .cons (Ja h) (Kv t)
abbrev KT (H:Hp):List (List Key×V)->List (List Key×Addr×Value)->Prop:=Paired λp q=>p.1=q.1/\H q.2.1=some (.tup (p.1.map kV))/\RelV p.2 q.2.2
variable {H:Hp}
theorem KT.val {kvs:List (List Key×V)}{xs:List (List Key×Addr×Value)}(r:KT H kvs xs)(k:List Key):RelO (DI kvs k) ((atKey xs k).map (·.2)):=by
 induction r with
 | nil=>exact True.intro
 | @cons p q ps qs h t ih=>
   obtain ⟨h1,_,h2⟩:=h
   by_cases e:p.1=k
   ·have e':q.1=k:=h1.symm.trans e;have b:atKey (q :: qs) k=some q.2:=by simp [atKey,ui4,e']
    rw [Gz e,b];exact h2
   ·have e':¬q.1=k:=λz=>e (h1.trans z);have b:atKey (q :: qs) k=atKey qs k:=by simp [atKey,ui4,e']
    rw [Gy e,b];exact ih
variable {kvs:List (Key×V)}
section
variable {P:Program}{w:World}{H:Hp}{h:Heap}{a:Addr}
theorem Tg {u:HO}(ok:HOk P w H h)(e:Rd H a u):ObjOk P w H h a u:=e.ok ok
theorem SY (ok:HOk P w H h)(e:Rd H a (.dK kvs)):kvs.length<=sizeLine/\(a == sysModules)=false/\∃vs,KV kvs vs/\h.DictOf (BG P w) a vs:=
 show ObjOk P w H h a (.dK kvs) from Tg ok e
theorem KU (ok:HOk P w H h)(e:H a=some (.dK kvs)):kvs.length<=sizeLine/\(a == sysModules)=false/\∃vs,KV kvs vs/\h.DictOf (BG P w) a vs:=SY ok (.inl e)
theorem Po {ks:List Key}(ok:HOk P w H h)(e:H a=some (.tup (ks.map kV))):(tupleKind (BG P w)).is h ks a:=by
 obtain ⟨_,its,r,o,h1,h2,n,h3⟩:=(show ObjOk P w H h a (.tup (ks.map kV)) from ok a _ e);exact ⟨o,its.toArray,n,h1,h2,h3,by simpa using Kv r⟩
theorem X9 {kvs:List (List Key×V)}(ok:HOk P w H h)(e:Rd H a (.dT kvs)):kvs.length<=sizeLine/\(a == sysModules)=false/\
 ∃xs,KT H kvs xs/\h.DictOfH (tupleKind (BG P w)) a xs:=by
 obtain ⟨z,y,xs,r,o,es,ep,h1,h2,h3,h4,h5⟩:=(show ObjOk P w H h a (.dT kvs) from Tg ok e);refine ⟨z,y,xs,r,o,es,ep,h1,h2,h3,h4,λx hx=>?_,h5⟩;have all:∀{l:List (List Key×V)} {m:List (List Key×Addr×Value)},KT H l m->∀x∈m,(tupleKind (BG P w)).is h x.1 x.2.1:=by
  intro l m q
  induction q with
  | nil=>intro x hx;exact nomatch hx
  | @cons p q ps qs hq t ih=>
    intro x hx;rcases uj8.mp hx with e | hx
    ·subst e;exact Po ok (by rw [<-hq.1];exact hq.2.1)
    ·exact ih x hx
 exact all r x hx
end
def DGet (H:Hp)(a:Addr)(y:V)(r:Option V):Prop:=
 (∃kvs k,Rd H a (.dK kvs)/\y=kV k/\r=DI kvs k)\/∃kvs k b,Rd H a (.dT kvs)/\y = .ref b/\H b=some (.tup (k.map kV))/\r=DI kvs k
def bo (H:Hp)(a:Addr)(y v:V)(H':Hp):Prop:=
 (∃kvs k,H a=some (.dK kvs)/\y=kV k/\kvs.length < sizeLine/\H'=upd H a (.dK (DH kvs k v)))\/
 ∃kvs k b,H a=some (.dT kvs)/\y = .ref b/\H b=some (.tup (k.map kV))/\kvs.length < sizeLine/\H'=upd H a (.dT (DH kvs k v))
theorem DGet.k {a:Addr}{k:Key}(e:H a=some (.dK kvs)):DGet H a (kV k) (DI kvs k):=.inl ⟨kvs,k,.inl e,rfl,rfl⟩
section
variable {X:Cx}{pins:List (Addr×Obj)}{σ:St}{H:Hp}{s:Shared}{a:Addr}{y v:V}{u r:Value}{o:Option V}{A:Around}{E:Value->Shared->Prop}
theorem Inv.big (I:Inv X pins σ H s):sysModules < s.heap.objs.size:=by
 have h:mainGlobals < s.heap.objs.size:=(I.mod.glob.keeps I.bk).lt;exact Nat.lt_trans (by decide) h
theorem Zz {Q:Value->Shared->Prop}(hu:A.units + 1 < cLine)(I:Inv X pins σ H s)(g:DGet H a y o)(ry:RelV y u)(h:∀s',Inv X pins σ H s'->Q (.bool o.isSome) s') :
 wpAny (model X.prog X.w) A (compareOp .In u (.ref a)) Q E s:=by
 rcases g with ⟨kvs,k,e,ey,l⟩ | ⟨kvs,k,b,e,ey,eb,l⟩
 ·subst ey;obtain ⟨z,hd,vs,rel,dd⟩:=SY I.hok e;refine wpAny_in_of (Ja ry) hd dd.mapOf ?_;rw [<-(rel.val k).isSome_eq,<-l];exact h _ (I.tok _)
 ·subst ey
  cases (show u=Value.ref b from ry)
  obtain ⟨z,hd,xs,rel,dd⟩:=X9 I.hok e;refine wpAny_in_heap (tupleKind_room_in1 hu) (Po I.hok eb) hd dd ?_;have q:=(rel.val k).isSome_eq;rw [Option.isSome_map] at q;rw [<-q,<-l];exact h _ (I.tok _)
theorem MN {h':Heap}{t':Nat}{ob:HO}(I:Inv X pins σ H s)(mu:Mut (H a))(hs:Heap.SameBut a s.heap h')(he:∃q,h'.get? a=some q)(new:ObjOk X.prog X.w (upd H a ob) h' a ob) :
 Inv X pins σ (upd H a ob) { s with heap:=h',toks:=t' }:=
 I.write (x:=a) (e:=a) mu (.inl rfl) (λb q hb z=>(hs.2 b hb).trans z) he new
theorem LA {H':Hp}{h':Heap}{vs:List (Key×Value)}(z:kvs.length<=sizeLine)(hd:(a == sysModules)=false)(rel:KV kvs vs)(dd:h'.DictOf (BG P w) a vs) :
 ObjOk P w H' h' a (.dK kvs):=⟨z,hd,vs,rel,dd⟩
end
section
variable {X:Cx}{pins:List (Addr×Obj)}{σ:St}{H:Hp}{s:Shared}{a:Addr}{kvs:List (Key×V)}{k:Key}{u:Value}{A:Around}{E:Value->Shared->Prop}
end
section
variable {X:Cx}{o i e value:Expr}{pos pos' tpos:Pos}{td ty tv:TE}
end
theorem Lz (h:Heap)(hb:sysModules < h.objs.size):ObjOk P w H (h.push { cls:=.type "dict",data:=.dict #[] }) h.objs.size (.dK []):=
 ⟨um0 _,beq_eq_false_iff_ne.mpr (Ne.symm (ul0 hb)),[],.nil,Heap.DictOf.new h⟩
def XB:TE:=λ_ H Q=>∀p,H p=none->Q (.ref p) (upd H p (.dK []))
section
variable {X:Cx}{pos:Pos}
theorem RU:PE X (.Dict [] [] pos) XB:=λpins s σ H Q I h=>
 wpAny_Dict_empty ⟨.ref s.heap.objs.size,_,I.laid (a:=s.heap.objs.size) (o:=.dK []) (t':=s.toks) (λ_ _ q=>ub9 _ q) (ul9 _) (Lz s.heap I.big),rfl,h _ (I.hok.fresh (ul9 _))⟩
end
def Jn:List (TE×TE)->St->Hp->(List (V×V)->Hp->Prop)->Prop
 | [],_,H,Q=>Q [] H
 | (tk,tv) :: r,σ,H,Q=>tk σ H λx H1=>tv σ H1 λy H2=>Jn r σ H2 λps H3=>Q ((x,y) :: ps) H3
abbrev VV:List (V×V)->List (Value×Value)->Prop:=Paired λp q=>RelV p.1 q.1/\RelV p.2 q.2
def PPs (X:Cx)(pos:Pos)(keys:List (Option Expr))(values:List Expr)(trs:List (TE×TE)):Prop:=
 ∀(pins:List (Addr×Obj)) (s:Shared) (σ:St) (H:Hp) (Q:List (V×V)->Hp->Prop),Inv X pins σ H s->Jn trs σ H Q->
  wpAny (model X.prog X.w) X.A (evalPairs (pairTrees keys values X.env pos)) (λvs s'=>∃ps H',Inv X pins σ H' s'/\VV ps vs/\Q ps H') X.xe s
theorem UF {pos:Pos}:PPs X pos [] [] []:=λpins s σ H Q I h=>pairTrees_nil_walk ⟨[],H,I,.nil,h⟩
theorem R6 {pos:Pos}{k v:Expr}{ks:List (Option Expr)}{vs:List Expr}{tk tv:TE}{trs:List (TE×TE)}(hk:PE X k tk)(hv:PE X v tv)(hr:PPs X pos ks vs trs) :
 PPs X pos (some k :: ks) (v :: vs) ((tk,tv) :: trs):=λpins s σ H Q I h=>
 pairTrees_cons_walk (thn (hk pins s σ H _ I h) λu s1 ⟨x,H1,I1,rx,q1⟩=>thn (hv pins s1 σ H1 _ I1 q1) λw2 s2 ⟨y,H2,I2,ry,q2⟩=>
  thn (hr pins s2 σ H2 _ I2 q2) λws s3 ⟨ps,H3,I3,rel,q3⟩=>⟨(x,y) :: ps,H3,I3,.cons ⟨rx,ry⟩ rel,q3⟩)
def Fs (kvs more:List (Key×V)):List (Key×V):=more.foldl (λacc kv=>DH acc kv.1 kv.2) kvs
theorem KV.merge:∀{more:List (Key×V)} {rs:List (Key×Value)} {kvs:List (Key×V)} {vs:List (Key×Value)},KV more rs->KV kvs vs->KV (Fs kvs more) (merged vs rs):=by
 intro more rs kvs vs r;unfold KV at r
 induction r generalizing kvs vs with
 | nil=>intro q;exact q
 | @cons p q ps qs h t ih=>
   intro r0;have e:KV (DH kvs p.1 p.2) (stored vs q.1 q.2):=by
    have:=r0.put p.1 h.2;rw [<-h.1];exact this
   exact ih e
theorem GB:∀(more kvs:List (Key×V)),(Fs kvs more).length<=kvs.length + more.length
 | [],kvs=>by show kvs.length<=kvs.length + 0;lia
 | p :: r,kvs=>by
   have h1:=GB r (DH kvs p.1 p.2);have h2:=HR kvs p.1 p.2;show (Fs (DH kvs p.1 p.2) r).length<=_;rw [ug4];lia
theorem IL {P:Program}{w:World}:∀{kvs:List (Key×V)} {ws:List (Value×Value)},VV (kvs.map λkv=>(kV kv.1,kv.2)) ws->∃rs,Carries (BG P w) ws rs/\KV kvs rs
 | [],_,r=>by rw [ul3] at r;cases r;exact ⟨[],True.intro,.nil⟩
 | p :: kvs,_,r=>by
   rw [uj9] at r
   cases r with
   | @cons a b as bs h t=>
     obtain ⟨rs,c,q⟩:=IL (P:=P) (w:=w) t;obtain ⟨b1,b2⟩:=b;exact ⟨(p.1,b2) :: rs,⟨Ja h.1,rfl,c⟩,.cons ⟨rfl,h.2⟩ q⟩
def YJ (trs:List (TE×TE)):TE:=λσ H Q=>∀p,H p=none->Jn trs σ (upd H p (.dK [])) λps H2=>H2 p=some (.dK [])/\∃kvs:List (Key×V),ps=kvs.map (λkv=>(kV kv.1,kv.2))/\kvs.length<=15/\Q (.ref p) (upd H2 p (.dK (Fs [] kvs)))
theorem Uu {pos:Pos}{keys:List (Option Expr)}{values:List Expr}{trs:List (TE×TE)}(h:PPs X pos keys values trs)(hall:keys.all (·.isSome)=true)(hl:keys.length=values.length)(h0:keys≠[])
 (h15:keys.length<=15):PE X (.Dict keys values pos) (YJ trs):=by
 intro pins s σ H Q I q;have hn:=I.hok.fresh (ul9 s.heap.objs.size);have I1:=I.laid (a:=s.heap.objs.size) (o:=.dK []) (h':=s.heap.push { cls:=.type "dict",data:=.dict #[] }) (t':=s.toks) (λ_ _ q=>ub9 _ q) (ul9 _) (Lz s.heap I.big);refine wpAny_Dict_walk (knd:=BG X.prog X.w) hall hl h0 h15 (thn (h pins _ σ _ _ I1 (q _ hn)) λws s2 z9=>?_);obtain ⟨ps,H2,I2,rel,e,kvs,ep,lk,q2⟩:=z9;subst ep;obtain ⟨rs,c,rk⟩:=IL (P:=X.prog) (w:=X.w) rel;obtain ⟨z,hd,vs0,r0,dd⟩:=KU I2.hok e
 cases r0
 refine ⟨rs,c,dd,λh' dd' hs=>⟨.ref s.heap.objs.size,_,?_,rfl,q2⟩⟩;have hz:(Fs [] kvs).length<=sizeLine:=by
  have h1:=GB kvs [];rw [ui5] at h1;rw [sizeLine_eq];lia
 have he:∃q,h'.get? s.heap.objs.size=some q:=let ⟨q,_,_,hq,_⟩:=dd';⟨q,hq⟩;exact MN I2 (by rw [e];exact True.intro) hs he (LA hz hd (rk.merge .nil) dd')
theorem Fc {env:Env}:∀(l:List (Str×NameKind)) (cs:List (Str×Addr)),(∀x c,cs.lookup x=some c->env.cells.lookup x=some c)->(∀y∈l,y.2 = .free->∃c,env.cells.lookup y.1=some c)->
 ∃cl,(forIn l cs λ(x:Str×NameKind) r=>(match x with | (name,kind)=>if (kind == NameKind.free)=true then do let c <-cellOf env name;pure (ForInStep.yield ((name,c) :: r)) else pure (ForInStep.yield r):Sem (ForInStep (List (Str×Addr)))))=pure cl/\
  (∀x c,cl.lookup x=some c->env.cells.lookup x=some c)/\(∀x c,cs.lookup x=some c->∃c',cl.lookup x=some c')/\∀y∈l,y.2 = .free->∃c,cl.lookup y.1=some c
 | [],cs,h,_=>⟨cs,rfl,h,λ_ c e=>⟨c,e⟩,λ_ z=>nomatch z⟩
 | (n,k) :: l,cs,h,hf=>by
   by_cases hk:k = .free
   ·subst hk;obtain ⟨c,hc⟩:=hf (n,.free) ue2 rfl;have hc':env.cells.lookup n=some c:=hc;have e:cellOf env n=pure c:=by unfold cellOf;rw [hc']
    obtain ⟨cl,e1,e2,e3,e4⟩:=Fc l ((n,c) :: cs) (λx c' q=>by
     rw [ug8] at q
     by_cases hx:(x == n)=true
     ·rw [hx] at q;cases q;rw [eq_of_beq hx];exact hc'
     ·rw [uf7.mpr hx] at q;exact h x c' q) (λy hy=>hf y (ud2 _ hy))
    have self:((n,c) :: cs).lookup n=some c:=by rw [ug8,uh5]
    refine ⟨cl,?_,e2,λx c' q=>?_,λy hy hyf=>?_⟩
    ·rw [List.forIn_cons];simp only [uh5,if_true,e];exact e1
    ·by_cases hx:(x == n)=true
     ·rw [eq_of_beq hx];exact e3 n c self
     ·exact e3 x c' (by rw [ug8,uf7.mpr hx];exact q)
    ·rcases uj8.mp hy with z | z
     ·subst z;exact e3 n c self
     ·exact e4 y z hyf
   ·have hb:(k == NameKind.free)=false:=by simpa using hk
    obtain ⟨cl,e1,e2,e3,e4⟩:=Fc l cs h (λy hy=>hf y (ud2 _ hy));refine ⟨cl,?_,e2,e3,λy hy hyf=>?_⟩
    ·rw [List.forIn_cons];simp only [hb,ue7,if_false];exact e1
    ·rcases uj8.mp hy with z | z
     ·subst z;exact absurd hyf hk
     ·exact e4 y z hyf
theorem NC {scope:Scope}{env:Env}(h:∀y∈scope.names,y.2 = .free->∃c,env.cells.lookup y.1=some c) :
 ∃cl,closureFor scope env=pure cl/\(∀x c,cl.lookup x=some c->env.cells.lookup x=some c)/\∀y∈scope.names,y.2 = .free->∃c,cl.lookup y.1=some c:=by
 obtain ⟨cl,e1,e2,_,e4⟩:=Fc (env:=env) scope.names [] (λ_ _ q=>nomatch q) h;refine ⟨cl,?_,e2,e4⟩;simp only [closureFor]
 first | (rw [e1];rfl) | (simp only [e1];rfl) | (trace_state;exact e1)
theorem Ly {prog:Program}{A:Around}{R:Result->Shared->Prop}{s:Shared}{elt target iter:Expr}{ifs:List Expr}{scope:Scope}{pos:Pos}{it acc:Value}{env:Env}(I:Nat->Shared->Prop)
 (turn:∀n s,I n s->wpAny (model prog w) A (pyNext it) (λr s₁=>match r with
   | none=>R (.ok .next) s₁
   | some v=>wpAny (model prog w) A (letOwnedTupleGo target it v) (λ_ s₁'=>wpAny (model prog w) A (assign target env v) (λ_ s₂=>
      wpAny (model prog w) A (forIn ifs true λc r=>if r=true then do let ok <-isTrue c env (eval c env);pure (ForInStep.yield ok) else pure (ForInStep.yield r)) (λok s₃=>
       if ok=true then wpAny (model prog w) A (eval elt env) (λx s₄=>
        wpAny (model prog w) A (call (.builtin "list.append") [acc,x]) (λ_ s₅=>∃m,m < n/\I m s₅) (λ_ _=>False) s₄) (λ_ _=>False) s₃
       else ∃m,m < n/\I m s₃) (λ_ _=>False) s₂) (λ_ _=>False) s₁') (λ_ _=>False) s₁) (λ_ _=>False) s)
 (n:Nat) (h:I n s) :
 codeAny (model prog w) A (.compLoop (.ListComp elt [⟨target,iter,ifs,0⟩] scope pos) 0 it acc env) R s:=by
 refine codeAny_loop rfl I (λn s hI=>?_) n h;show wpAny _ A ((compTurn (.ListComp elt [⟨target,iter,ifs,0⟩] scope pos) 0 it acc env).onRaise (λx=>do noteFrame x env;theTreesLotGoes x)) _ _ s;refine wpAny_noted ?_;rw [compTurn_list];refine um3 (wpAny_standAt (um3 (um5 (turn n s hI) (λr s₁ h₁=>?_) λ_ _ h'=>h'.elim)))
 cases r with
 | none=>exact um4 h₁
 | some v=>
   refine um3 (um5 h₁ (λ_ s₁' h₁'=>?_) λ_ _ h'=>h'.elim);refine um3 (um5 h₁' (λ_ s₂ h₂=>um3 (um5 h₂ (λok s₃ h₃=>?_) λ_ _ h'=>h'.elim)) λ_ _ h'=>h'.elim)
   cases ok with
   | false=>exact um4 ⟨rfl,h₃⟩
   | true=>
     exact um3 (um3 (um5 h₃ (λx s₄ h₄=>um3 (um5 h₄ (λ_ s₅ h₅=>um4 (um4 ⟨rfl,h₅⟩)) λ_ _ h'=>h'.elim)) λ_ _ h'=>h'.elim))
end L2
set_option maxHeartbeats 2000000
namespace L2
open PySem PySem.Spec PyProof.Rows
noncomputable def Cy (X:Cx)(N':List Str)(scope:Scope)(cl:List (Str×Addr))(C:Addr)(s2:Shared)(H2:Hp)(fp:List Addr):Cx where
 prog:=X.prog
 w:=X.w
 K:=X.K
 mg:=X.mg
 base:=X.base
 A:=X.A
 N:=N'
 s₀:=s2
 H₀:=H2
 env:=compEnvC scope cl C X.env
 outer:=X.stack
 stack:=X.stack
 ex:=fp
 fn:=λ_=>false
 calm:=X.calm
 pn:=[]
 xe:=λ_ _=>False
theorem HS (h:Str->NameKind->NameKind)(x:Str):∀l:List (Str×NameKind),(l.map λp=>(p.1,h p.1 p.2)).lookup x=(l.lookup x).map (h x)
 | []=>rfl
 | (n,k) :: l=>by
   show List.lookup x ((n,h n k) :: _)=_;rw [ug8,ug8]
   by_cases hx:(x == n)=true
   ·rw [hx,eq_of_beq hx];rfl
   ·rw [uf7.mpr hx];exact HS h x l
theorem FX (scope:Scope)(env:Env)(x:Str):(relabel scope env).names.lookup x=(scope.names.lookup x).map λk=>if (k == .free && env.scope.kind == .function && env.kindOf x == some .cell)=true then .cell else k:=by
 rw [<-HS (λn k=>if (k == NameKind.free && env.scope.kind == .function && env.kindOf n == some .cell)=true then .cell else k) x scope.names];unfold relabel;dsimp only
 congr 1
 apply ue0;intro p _;obtain ⟨n,k⟩:=p;dsimp only
 split <;> rfl
theorem Cu {x:Str}{k:NameKind}:∀{l:List (Str×NameKind)},l.lookup x=some k->(x,k)∈l
 | (n,k') :: l,h=>by
   rw [ug8] at h
   by_cases hx:(x == n)=true
   ·rw [hx] at h;cases h;rw [eq_of_beq hx];exact ue2
   ·rw [uf7.mpr hx] at h;exact ud2 _ (Cu h)
theorem Ma {scope:Scope}{env:Env}{x:Str}(hcell:∀y∈scope.names,y.2≠.cell)(h:(relabel scope env).names.lookup x=some .cell\/(relabel scope env).names.lookup x=some .free):scope.names.lookup x=some .free:=by
 rw [FX] at h
 cases e:scope.names.lookup x with
 | none=>rw [e] at h;rcases h with h | h <;> cases h
 | some k=>
   by_cases hk:k = .free
   ·rw [hk]
   ·have hb:(k == NameKind.free)=false:=by simpa using hk
    rw [e] at h;simp only [ui6,hb,uj2,ue7,if_false] at h;rcases h with h | h
    ·cases h;exact absurd rfl (hcell _ (Cu e))
    ·cases h;exact absurd rfl hk
def PIf (X:Cx)(ifs:List Expr)(t:TT):Prop:=
 ∀(pins:List (Addr×Obj)) (s:Shared) (σ:St) (H:Hp) (Q:Bool->Hp->Prop),Inv X pins σ H s->t σ H Q->
  wpAny (model X.prog X.w) X.A (forIn ifs true λc r=>if r=true then do let ok <-isTrue c X.env (eval c X.env);pure (ForInStep.yield ok) else pure (ForInStep.yield r)) (TP X pins σ Q) X.xe s
def YO:TT:=λ_ H Q=>Q true H
theorem Uz {X:Cx}:PIf X [] YO:=λ_ _ _ H _ I h=>wpAny_tests_nil ⟨H,I,h⟩
theorem UA {X:Cx}{c:Expr}{t:TT}(h:PT X c t):PIf X [c] t:=λpins s σ H Q I q=>wpAny_tests_one (h pins s σ H Q I q)
def Qe (J:It)(g:TG)(tt:TT)(te:TE)(σ₀:St)(H1:Hp)(Fin:List V->Hp->Prop):Prop:=
 ∃W:Nat->Nat->List V->St->Hp->Prop,(∃m,W 0 m [] σ₀ H1)/\∀i m acc σ' H',W i m acc σ' H'->acc.length<=sizeLine/\
  ((J.stop i H'/\Fin acc H')\/
    (J.go i H'/\∀x H2,J.yld i H' x H2->g x σ' H2 λσ3 H3=>tt σ3 H3 λb H4=>if b=true then te σ3 H4 λv H5=>∃m',m' < m/\W (i + 1) m' (acc++[v]) σ3 H5 else ∃m',m' < m/\W (i + 1) m' acc σ3 H4))
def Of (wi:TI)(g:TG)(tt:TT)(te:TE)(σf:St->St):TE:=λσ H Q=>wi σ H λJ H1=>Qe J g tt te (σf σ) H1 λacc H'=>∀p,H' p=none->acc.length<=sizeLine->Q (.ref p) (upd H' p (.lst acc))
structure CmpOk (X:Cx)(scope:Scope)(N':List Str)(σf:St->St):Prop where
 kind:scope.kind = .function
 cell:∀y∈scope.names,y.2≠.cell
 loc:∀y∈scope.names,y.2 = .local->scope.names.lookup y.1=some .local
 free:∀y∈scope.names,y.2 = .free->X.env.kindOf y.1=some .cell\/X.env.kindOf y.1=some .free
 len:∀σ:St,σ.length=X.N.length->(σf σ).length=N'.length
 vals:∀(σ:St) (j:Nat) (x:Str) (v:V),N'[j]?=some x->(σf σ)[j]?=some (some v)->∃i:Nat,X.N[i]?=some x/\σ[i]?=some (some v)/\scope.names.lookup x=some .free
variable {pins:List (Addr×Obj)}{σ:St}{H2:Hp}{s2:Shared}{cl:List (Str×Addr)}{fp:List Addr}
section
variable {X:Cx}{tg elt iter:Expr}{ifs:List Expr}{scope:Scope}{pos:Pos}{N':List Str}{wi:TI}{g:TG}{tt:TT}{te:TE}{σf:St->St}
theorem VN {C:Addr}(O:CmpOk X scope N' σf)(I2:Inv X pins σ H2 s2)(f2:∀b∈fp,FpOk X pins H2 b)(hC:s2.heap.objs.size<=C)
 (hlt:∀b∈fp,b < s2.heap.objs.size) (e2:∀x c,cl.lookup x=some c->X.env.cells.lookup x=some c) (e4:∀y∈scope.names,y.2 = .free->∃c,cl.lookup y.1=some c):(Cy X N' scope cl C s2 H2 fp).Ok where
 mod:=I2.ok.mod
 kind:=O.kind
 glob:=I2.ok.glob
 blt:=I2.ok.blt
 above:=hC
 inj:=λx y c h1 h2=>I2.ok.inj x y c (e2 x c h1) (e2 y c h2)
 has:=λx h=>by
  have q:=Ma (env:=X.env) (x:=x) O.cell h;exact e4 _ (Cu q) rfl
 cab:=λx c h _=>nomatch h
 hd:=I2.ok.hd
 frames:=I2.ok.frames
 stk:=.inl rfl
 exf:=λb hb=>⟨ul0 (ue1 (hlt b hb) hC),λx c e=>(f2 b hb).2.2.2.2.1 x c (e2 x c e)⟩
 bs:=I2.bs
 bsz:=ul1 I2.ok.bsz I2.sz
 noex:=λb o e hb=>by
  rcases (f2 b hb).2.2.2.1 with z | z
  ·exact I2.ok.noex b o e z
  ·exact absurd (ue1 (uk9 (I2.ok.bs b o e).1) z) (uj7 _)
 exfs:=λb hb z=>by
  rcases uj8.mp (I2.stkSub b z) with q | q
  ·exact (f2 b hb).2.1 q
  ·exact (f2 b hb).2.2.1 q
 funs:=I2.stack
 frf:=I2.stkFree
theorem Xx (I2:Inv X pins σ H2 s2){a:Addr}(h:s2.heap.objs.size<=a):a∉frs X.stack:=λhb=>by
 rcases uj8.mp (I2.stkSub a hb) with q | q
 ·exact absurd (ue1 I2.lt h) (by rw [q];exact uj7 _)
 ·exact I2.nofs h q
theorem QJ {it:Addr}{tn:Nat->Heap->Prop}{J:It}{Fin:List V->Hp->Prop}{RR:Value->Addr->Result->Shared->Prop}{E:Value->Shared->Prop}(O:CmpOk X scope N' σf)(hc:X.calm=true)
 (I2:Inv X pins σ H2 s2) (T:Turn X.prog X.w X.K tg J fp it tn) (st2:tn 0 s2.heap) (f2:∀b∈fp,FpOk X pins H2 b)
 (e2:∀x c,cl.lookup x=some c->X.env.cells.lookup x=some c) (e4:∀y∈scope.names,y.2 = .free->∃c,cl.lookup y.1=some c)
 (hg:∀C,PG (Cy X N' scope cl C s2 H2 fp) tg g) (ht:∀C,PIf (Cy X N' scope cl C s2 H2 fp) ifs tt) (he:∀C,PE (Cy X N' scope cl C s2 H2 fp) elt te)
 (B:Qe J g tt te (σf σ) H2 Fin)
 (fin:∀C s' σ' H' acc m,s2.heap.objs.size<=C->C≠s2.heap.objs.size->Inv (Cy X N' scope cl C s2 H2 fp) [] σ' H' s'->H' s2.heap.objs.size=none->acc.length<=sizeLine->(∃its n,Vals acc its/\s'.heap.get? s2.heap.objs.size=some { cls:=.type "list",data:=.seq its.toArray n })->Fin acc H'->s'.heap.Ns C m->
   RR (.ref s2.heap.objs.size) C (.ok .next) s') :
 wpAny (model X.prog X.w) X.A (newList []) (λacc s₃=>wpAny (model X.prog X.w) X.A (newFunctionEnv scope X.env.globals cl [] X.env.qual none .none (some X.env)) (λcenv s₄=>
  codeAny (model X.prog X.w) X.A (.compStart (.ListComp elt [⟨tg,iter,ifs,0⟩] scope pos) 0 (.ref it) acc { cenv with scope:=relabel scope X.env }) (RR acc cenv.locals) s₄) E s₃) E s2:=by
 refine wpAny_newObj_type (wpAny_newFunctionEnv O.cell (by intro y hy;simp at hy) (λh₁ hns₁ hsb₁=>?_) O.kind);dsimp only at hns₁ hsb₁ ⊢;generalize hH2:s2.heap.push { cls:=.type "list",dict:=none,data:=.seq ([]:List Value).toArray }=HP at hns₁ hsb₁ ⊢;have hC:HP.objs.size=s2.heap.objs.size + 1:=by rw [<-hH2,uj3]
 generalize hDD:s2.heap.objs.size=DD at *;generalize hCC:HP.objs.size=CC at *;have hDC:DD≠CC:=by rw [hC];exact ul0 (ug5 _)
 have hCle:s2.heap.objs.size<=CC:=by rw [hC,hDD];exact um1 _
 have hlt:∀b∈fp,b < s2.heap.objs.size:=λb hb=>by obtain ⟨o,e,_⟩:=T.obj _ _ st2 b hb;exact uk9 e
 have hlt':∀b∈fp,b < DD:=λb hb=>by rw [<-hDD];exact hlt b hb
 have below:∀b,b < DD->b≠CC/\b≠DD:=λb hb=>⟨by rw [hC];exact ul0 (Nat.lt_succ_of_lt hb),ul0 hb⟩;have old:∀b o,s2.heap.get? b=some o->h₁.get? b=some o:=λb o e=>hsb₁.extBut b o (below b (by rw [<-hDD];exact uk9 e)).1 (ub9 _ (hH2 ▸ ub9 _ e));have hacc:h₁.get? DD=some { cls:=.type "list",data:=.seq ([]:List Value).toArray }:=by
  refine hsb₁.extBut _ _ hDC (ub9 _ ?_);rw [<-hH2,<-hDD];exact ud7 _ rfl
 have ok:=VN (cl:=cl) (C:=CC) O I2 f2 hCle hlt e2 e4;have hfs:DD∉frs X.stack:=Xx I2 (by rw [hDD];exact ul9 _);obtain ⟨W,⟨m0,w0⟩,turn⟩:=B
 let X':Cx:=Cy X N' scope cl CC s2 H2 fp
 have I0:Inv X' [] (σf σ) H2 { s2 with heap:=h₁,toks:=s2.toks + ([]:List (Str×Value)).length }:=by
  refine ⟨ok,rfl,I2.bare,Un.kept old,⟨_,hns₁,λj x v q1 q2 q3=>?_⟩,λx c e=>?_,I2.hok.fresh hCle,λx c e=>I2.freeC x c (e2 x c e),(λp hp=>nomatch hp),I2.hok.kept old,O.len σ I2.len⟩
  ·obtain ⟨i,n1,n2,n3⟩:=O.vals σ j x v q1 q2;obtain ⟨m,_,hl⟩:=I2.loc;have hfr:=O.free _ (Cu n3) rfl;obtain ⟨u,r,l⟩:=hl i x v n1 n2 (.inr hfr);refine ⟨u,r,?_⟩;rcases l with ⟨k,_⟩ | ⟨_,c,ec,hcell⟩
   ·rcases hfr with z | z <;> (have z':=k.symm.trans z;cases z')
   ·obtain ⟨c',ec'⟩:=e4 _ (Cu n3) rfl;have z:=e2 _ _ ec';have ez:X.env.cells.lookup x=some c':=z;rw [ec] at ez
    cases ez
    refine .inr ⟨?_,c,ec',?_⟩
    ·show (relabel scope X.env).names.lookup x=some .cell\/(relabel scope X.env).names.lookup x=some .free;rw [FX,n3];simp only [ui6]
     split
     ·exact .inl rfl
     ·exact .inr rfl
    ·obtain ⟨o,ho,hd⟩:=hcell;exact ⟨o,old _ _ ho,hd⟩
  ·obtain ⟨v,o,ho,hd⟩:=I2.cell x c (e2 x c e);exact ⟨v,o,old _ _ ho,hd⟩
 have loop:∀s₃:Shared,s₃ = { s2 with heap:=h₁,toks:=s2.toks + ([]:List (Str×Value)).length }->
  codeAny (model X.prog X.w) X.A (.compLoop (.ListComp elt [⟨tg,iter,ifs,0⟩] scope pos) 0 (.ref it) (.ref DD) (compEnvC scope cl CC X.env)) (RR (.ref DD) CC) s₃:=by
  rintro s₃ rfl;refine Ly (λn s'=>∃i acc its nn σ' H',Inv X' [] σ' H' s'/\tn i s'.heap/\(∀b∈fp,H' b=none)/\Vals acc its/\s'.heap.get? DD=some { cls:=.type "list",data:=.seq its.toArray nn }/\H' DD=none/\W i n acc σ' H') ?_ m0
   ⟨0,[],[],0,σf σ,H2,I0,T.keep _ _ _ st2 (λb _ o e=>old b o e),λb hb=>(f2 b hb).1,.nil,hacc,I2.hok.fresh (by rw [hDD];exact ul9 _),w0⟩
  rintro n s' ⟨i,acc,its,nn,σ3,H3,I3,st3,fr3,hv,hD,hDn,w3⟩;have I3p:Inv X' [(DD,({ cls:=.type "list",data:=.seq its.toArray nn }:Obj))] σ3 H3 s':=I3.pins_of λp hp=>by
   have e:p=(DD,({ cls:=.type "list",data:=.seq its.toArray nn }:Obj)):=by simpa using hp
   subst e;exact ⟨hD,hDn,hDC,hfs,λv z=>nomatch z⟩
  have stat:∀{pins':List (Addr×Obj)} {H':Hp},(∀p∈pins',p.1=DD)->(∀b∈fp,H' b=none)->∀b∈fp,FpOk X' pins' H' b:=λ{pins' H'} hp hn b hb=>
   ⟨hn b hb,(ok.exf b hb).1,ok.exfs b hb,.inl hb,(ok.exf b hb).2,λp hp' z=>by
    have e:p.1=DD:=hp p (by simpa [X',Cy] using hp');exact absurd (hlt' b hb) (by rw [<-z,e];exact uj7 _)⟩
  have one:∀p∈[(DD,({ cls:=.type "list",data:=.seq its.toArray nn }:Obj))],p.1=DD:=λp hp=>by
   have e:p=(DD,({ cls:=.type "list",data:=.seq its.toArray nn }:Obj)):=by simpa using hp
   rw [e]
  obtain ⟨hz,tr⟩:=turn i n acc σ3 H3 w3;rcases tr with ⟨stop,qf⟩ | ⟨go,step⟩
  ·refine thn (T.done X' rfl rfl rfl hc i _ s' σ3 H3 (λ_ _=>False) I3p (stat one fr3) st3 stop) λr s4 z9=>?_;obtain ⟨hr,I4⟩:=z9;subst hr;obtain ⟨m4,hm4,_⟩:=I4.loc;have pD:=(I4.pin (DD,({ cls:=.type "list",data:=.seq its.toArray nn }:Obj)) (by simp [X',Cy])).1;have I4':Inv X' [] σ3 H3 s4:=I4.pins_of λp hp=>nomatch hp;exact fin CC s4 σ3 H3 acc m4 (by rw [hDD] at hCle;exact hCle) (Ne.symm hDC) I4' hDn hz ⟨its,nn,hv,pD⟩ qf hm4
  ·refine thn (T.item X' rfl rfl rfl hc i _ s' σ3 H3 (λ_ _=>False) I3p (stat one fr3) st3 go) λr s4 z9=>?_;obtain ⟨u,hr,h4⟩:=z9;subst hr;refine thn h4 λ_ s5 z9=>?_;obtain ⟨x,H5,I5,r5,y5,st5,fr5⟩:=z9;have I5':=I5.pinned (stat one fr5) (T.obj _ _ st5);refine thn (hg CC _ s5 σ3 H5 x u _ I5' r5 (step x H5 y5)) λ_ s6 z9=>?_;obtain ⟨σ6,H6,I6,q6⟩:=z9;refine thn (ht CC _ s6 σ6 H6 _ I6 q6) λb s7 z9=>?_;obtain ⟨H7,I7,q7⟩:=z9;have back:∀{H8:Hp} {s8:Shared},Inv X' ([(DD,({ cls:=.type "list",data:=.seq its.toArray nn }:Obj))]++G9 fp s5.heap) σ6 H8 s8->
    s8.heap.get? DD=some { cls:=.type "list",data:=.seq its.toArray nn }/\H8 DD=none/\tn (i + 1) s8.heap/\(∀b∈fp,H8 b=none)/\Inv X' [] σ6 H8 s8:=λ{H8 s8} I8=>by
    have p1:=I8.pin (DD,({ cls:=.type "list",data:=.seq its.toArray nn }:Obj)) (by simp [X',Cy]);refine ⟨p1.1,p1.2.1,T.keep _ _ _ st5 λb hb o e=>(I8.pin (b,o) (uc7 _ (uc7 _ (EW hb e)))).1,λb hb=>?_,I8.pins_of λp hp=>nomatch hp⟩;obtain ⟨o,e,_⟩:=T.obj _ _ st5 b hb;exact (I8.pin (b,o) (uc7 _ (uc7 _ (EW hb e)))).2.1
   cases b with
   | false=>
     rw [if_neg ue3] at q7 ⊢;obtain ⟨m',hm,w7⟩:=q7;obtain ⟨a1,a2,a3,a4,a5⟩:=back I7;exact ⟨m',hm,i + 1,acc,its,nn,σ6,H7,a5,a3,a4,hv,a1,a2,w7⟩
   | true=>
     rw [if_pos rfl] at q7 ⊢;refine thn (he CC _ s7 σ6 H7 _ I7 q7) λy s8 z9=>?_;obtain ⟨v8,H8,I8,r8,m',hm,w8⟩:=z9;obtain ⟨a1,a2,a3,a4,a5⟩:=back I8;have hsz:its.toArray.size<=sizeLine:=by
      have e:=hv.length;simpa [e] using hz
     refine wpAny_list_append_plain (hsz:=hsz) ⟨nn,a1⟩ λh9 hl9 hs9=>?_;obtain ⟨n9,e9⟩:=hl9;have e9':h9.get? DD=some { cls:=.type "list",data:=.seq (its++[y]).toArray n9 }:=by simpa using e9
     refine ⟨m',hm,i + 1,acc++[v8],its++[y],n9,σ6,H8,a5.turned (t':=s8.toks) (h':=h9) (it:=DD) (λb o hb e=>hs9.extBut b o hb e) a2 hDC (.inr (show s2.heap.objs.size<=DD by rw [hDD];exact ul9 _)) (λx' c e z=>?_) (λp hp=>nomatch hp),T.keep _ _ _ a3 λb hb o e=>hs9.extBut b o (ul0 (hlt' b hb)) e,a4,hv.append (.cons r8 .nil),e9',a2,w8⟩;obtain ⟨v,o,ho,hd⟩:=I2.cell x' c (e2 x' c e);have:=uk9 ho;rw [hDD,z] at this;exact uj7 _ this
 exact codeAny_compStart_list (loop _ rfl) (T.self _ 0 _ _ _ (T.keep _ _ _ st2 λb _ o e=>old b o e) (loop _ rfl))
end
section
variable {X:Cx}{tg elt iter:Expr}{ifs:List Expr}{scope:Scope}{pos:Pos}{N':List Str}{wi:TI}{g:TG}{tt:TT}{te:TE}{σf:St->St}
theorem OJ {σ':St}{H':Hp}{s':Shared}{C:Addr}{acc:List V}{its:List Value}{n:Nat}{h':Heap}(I2:Inv X pins σ H2 s2)(f2:∀b∈fp,FpOk X pins H2 b)
 (hC:s2.heap.objs.size<=C) (hCD:C≠s2.heap.objs.size) (I':Inv (Cy X N' scope cl C s2 H2 fp) [] σ' H' s') (hDn:H' s2.heap.objs.size=none) (hz:acc.length<=sizeLine) (hv:Vals acc its)
 (hD:s'.heap.get? s2.heap.objs.size=some { cls:=.type "list",data:=.seq its.toArray n }) (hs:Heap.SameBut C s'.heap h') :
 Inv X pins σ (upd H' s2.heap.objs.size (.lst acc)) { s' with heap:=h' }:=by
 have U:=I'.base;have lt:∀b o,s2.heap.get? b=some o->b≠C/\b≠s2.heap.objs.size:=λb o e=>⟨ul0 (ue1 (uk9 e) hC),ul0 (uk9 e)⟩;have neD:∀b u,H' b=some u->b≠s2.heap.objs.size:=λb u e=>AE e hDn;have neC:∀b u,H' b=some u->b≠C:=λb u e=>AE e I'.free;refine I2.call' (s':={ s' with heap:=h' }) (ch:=fp) I'.os ⟨λb o e n hb hx=>?_,λb o e n hb hx=>?_,λb o e n hx=>?_,λb o e hx=>?_,λb xs e=>?_,λb o u e=>?_,λb ps e=>?_⟩ ?_ I'.bare λb hb=>⟨(f2 b hb).2.2.2.1,(f2 b hb).2.1,(f2 b hb).2.2.2.2.1,(f2 b hb).2.2.2.2.2⟩
 ·exact hs.extBut b o (lt b o e).1 (U.keep b o e n hb hx)
 ·obtain ⟨sl,q⟩:=U.slot b o e n hb hx;exact ⟨sl,hs.extBut b _ (lt b o e).1 q⟩
 ·rw [Ag (lt b o e).2];exact U.free b o e n hx
 ·obtain ⟨o',q⟩:=U.there b o e hx;exact ⟨o',hs.extBut b _ (lt b o e).1 q⟩
 ·have q:=U.tups b xs e;rw [Ag (neD b _ q)];exact q
 ·have q:=U.frzs b o u e;rw [Ag (neD b _ q)];exact q
 ·obtain ⟨m,q⟩:=U.tbls b ps e;exact ⟨m,by rw [Ag (neD b _ q)];exact q⟩
 ·intro b u e
  by_cases hb:b=s2.heap.objs.size
  ·subst hb;rw [Ak] at e
   cases e
   exact ⟨hz,its,n,hv,hs.extBut _ _ (Ne.symm hCD) hD⟩
  ·rw [Ag hb] at e;refine (I'.hok b u e).stay (λc v hc q=>hs.extBut c v ?_ q) (λc q=>by rw [Ag (neD c _ q)];exact q) λc xs q=>by rw [Ag (neD c _ q)];exact q
   rcases hc with z | z
   ·rw [z];exact neC b u e
   ·exact neC c _ z
theorem M5 (O:CmpOk X scope N' σf)(hc:X.calm=true)(hi:PI X tg iter wi)
 (hg:∀cl C s2 H2 fp,PG (Cy X N' scope cl C s2 H2 fp) tg g) (ht:∀cl C s2 H2 fp,PIf (Cy X N' scope cl C s2 H2 fp) ifs tt) (he:∀cl C s2 H2 fp,PE (Cy X N' scope cl C s2 H2 fp) elt te)
 (hs:∀x,foldedSetIterable iter X.env x=pure x:=by intro _;rfl):PE X (.ListComp elt [⟨tg,iter,ifs,0⟩] scope pos) (Of wi g tt te σf):=by
 intro pins s σ H Q I h;obtain ⟨cl,e1,e2,e4⟩:=NC (scope:=scope) (env:=X.env) λy hy hf=>I.ok.has y.1 (O.free y hy hf);rw [eval_ListComp];refine wpAny_comprehension_free (use:=none) rfl hs e1 O.kind O.loc (thn (hi pins s σ H _ I h) λv s1 h1=>thn h1 λitv s2 h2=>?_);obtain ⟨it,fp,tn,J,H2,rfl,I2,T,st2,f2,B⟩:=h2;refine QJ (RR:=λacc C=>compPost (model X.prog X.w) X.A X.xe none (EP X pins σ Q) acc C) O hc I2 T st2 f2 e2 e4 (λC=>hg cl C s2 H2 fp) (λC=>ht cl C s2 H2 fp) (λC=>he cl C s2 H2 fp) B ?_;intro C s' σ' H' acc m hC hCD I' hDn hz hL fin hn;obtain ⟨its,n,hv,hD⟩:=hL;refine ⟨m,hn,λh' hs'=>?_⟩;exact ⟨.ref s2.heap.objs.size,upd H' _ (.lst acc),OJ I2 f2 hC hCD I' hDn hz hv hD hs',rfl,fin _ hDn hz⟩
end
end L2
set_option autoImplicit false
namespace F2
open PySem L2 PySem.Spec
inductive D where
 | non | bl (b:Bool) | int (i:Int) | str (x:Str) | tup (xs:List D) | lst (xs:List D) | scr (ns:List Int) | dic | obj (k:Nat) | ty (n:String) | exc (n:Str) (xs:List D)
structure Cf where
 ι:List Addr
 O:Addr->Prop
def Cf.A (c:Cf)(a:Addr):Prop:=a∈c.ι\/c.O a
def Scr (K:PySem.W.Frag)(c:Cf)(H:Hp)(a:Addr)(vs:List V):Prop:=
 ((∃o,H a=some (.frz o (.lst vs)))/\¬c.A a)\/
   ∃(o:Obj) (its:Array Value) (n:Nat),K.lookup a=some o/\o.cls = .type "list"/\o.dict=none/\o.data = .seq its n/\its.size<=sizeLine/\Vals vs its.toList
def XIs (qx:Bool)(x C:Addr)(dx:Option Addr)(h:Heap):Prop:=∃(o:Obj) (vs:Array Value),h.get? x=some o/\o.cls = .ref C/\o.dict=dx/\o.data = .fields vs/\(qx=true->vs[2]?=some .none/\4 < vs.size)
noncomputable def Ii (n:Str):List Str:=if n = "NoTalk" then ["at"] else if n = "Broken" then ["at", "side"] else []
def XFld (c:Cf)(H:Hp)(dx:Option Addr)(ns:List Str)(vs:List V):Prop:=match dx with
 | none=>vs=[]
 | some d=>H d=some (.xd (ns.zip vs))/\¬c.A d
mutual
inductive Rep (K:PySem.W.Frag)(c:Cf)(H:Hp):V->D->Prop where
 | non:Rep K c H .non .non
 | bl (b:Bool):Rep K c H (.bl b) (.bl b)
 | int (i:Int):Rep K c H (.int i) (.int i)
 | str (x:Str):Rep K c H (.str x) (.str x)
 | ty (n:String):Rep K c H (.ty n) (.ty n)
 | tup {a:Addr} {vs:List V} {ds:List D}:H a=some (.tup vs)->¬c.A a->Reps K c H vs ds->Rep K c H (.ref a) (.tup ds)
 | lst {a:Addr} {vs:List V} {ds:List D}:H a=some (.lst vs)->¬c.A a->Reps K c H vs ds->Rep K c H (.ref a) (.lst ds)
 | scr {a:Addr} {ns:List Int}:Scr K c H a (ns.map V.int)->Rep K c H (.ref a) (.scr ns)
 | dic {a:Addr}:H a=some (.dK [])->¬c.A a->Rep K c H (.ref a) .dic
 | obj {a:Addr} {k:Nat}:c.ι[k]?=some a->Rep K c H (.ref a) (.obj k)
 | exc {qx:Bool} {x C:Addr} {dx:Option Addr} {n:Str} {vs:List V} {ds:List D}:PySem.W.nsIn K mainGlobals n=some (some (.ref C))->H x=some (.ext (XIs qx x C dx))->¬c.A x->XFld c H dx (Ii n) vs->Reps K c H vs ds->Rep K c H (.ref x) (.exc n ds)
inductive Reps (K:PySem.W.Frag)(c:Cf)(H:Hp):List V->List D->Prop where
 | nil:Reps K c H [] []
 | cons {v:V} {d:D} {vs:List V} {ds:List D}:Rep K c H v d->Reps K c H vs ds->Reps K c H (v :: vs) (d :: ds)
end
structure Ext (c:Cf)(H:Hp)(c':Cf)(H':Hp):Prop where
 keep:∀b o,H b=some o->¬c.A b->H' b=some o
 av:∀b o,H b=some o->c'.A b->c.A b
 io:∀(k:Nat) (a:Addr),c.ι[k]?=some a->c'.ι[k]?=some a
variable {c:Cf}{H:Hp}
theorem Ext.refl:Ext c H c H:=⟨λ_ _ h _=>h,λ_ _ _ h=>h,λ_ _ h=>h⟩
theorem Ext.trans {c1 c2:Cf}{H1 H2:Hp}(a:Ext c H c1 H1)(b:Ext c1 H1 c2 H2):Ext c H c2 H2:=by
 refine ⟨λx o h n=>?_,λx o h n=>?_,λk x h=>b.io k x (a.io k x h)⟩
 ·exact b.keep x o (a.keep x o h n) λz=>n (a.av x o h z)
 ·by_cases q:c.A x
  ·exact q
  ·exact a.av x o h (b.av x o (a.keep x o h q) n)
variable {K:PySem.W.Frag}{a:Addr}{vs:List V}
theorem Scr.mono {c':Cf}{H':Hp}(e:Ext c H c' H')(h:Scr K c H a vs):Scr K c' H' a vs:=by
 rcases h with ⟨⟨o,h⟩,n⟩ | h
 ·exact .inl ⟨⟨o,e.keep _ _ h n⟩,λz=>n (e.av _ _ h z)⟩
 ·exact .inr h
theorem Scr.sq (h:Scr K c H a vs):SqL K H a vs:=by
 rcases h with ⟨h,_⟩ | h
 ·exact .inl (.inr h)
 ·exact .inr h
theorem XFld.mono {c':Cf}{H':Hp}{dx:Option Addr}{ns:List Str}(e:Ext c H c' H')(h:XFld c H dx ns vs):XFld c' H' dx ns vs:=by
 cases dx with
 | none=>exact h
 | some d=>exact ⟨e.keep _ _ h.1 h.2,λz=>h.2 (e.av _ _ h.1 z)⟩
mutual
theorem Rep.mono {K:PySem.W.Frag}{c c':Cf}{H H':Hp}(e:Ext c H c' H'){v:V}{d:D}(r:Rep K c H v d):Rep K c' H' v d:=by
 cases r with
 | non=>exact .non
 | bl b=>exact .bl b
 | int i=>exact .int i
 | str x=>exact .str x
 | ty n=>exact .ty n
 | tup h n r=>exact .tup (e.keep _ _ h n) (λz=>n (e.av _ _ h z)) (Reps.mono e r)
 | lst h n r=>exact .lst (e.keep _ _ h n) (λz=>n (e.av _ _ h z)) (Reps.mono e r)
 | scr h=>exact .scr (h.mono e)
 | dic h n=>exact .dic (e.keep _ _ h n) (λz=>n (e.av _ _ h z))
 | obj h=>exact .obj (e.io _ _ h)
 | exc g h n f r=>exact .exc g (e.keep _ _ h n) (λz=>n (e.av _ _ h z)) (f.mono e) (Reps.mono e r)
theorem Reps.mono {K:PySem.W.Frag}{c c':Cf}{H H':Hp}(e:Ext c H c' H'){vs:List V}{ds:List D}(r:Reps K c H vs ds):Reps K c' H' vs ds:=by
 cases r with
 | nil=>exact .nil
 | cons h t=>exact .cons (Rep.mono e h) (Reps.mono e t)
end
section
variable {K:PySem.W.Frag}{c:Cf}{H:Hp}
theorem Reps.length:∀{vs:List V} {ds:List D},Reps K c H vs ds->vs.length=ds.length
 | _,_,.nil=>rfl
 | _,_,.cons _ t=>by simp [Reps.length t]
theorem Reps.get:∀{vs:List V} {ds:List D} {i:Nat} {v:V} {d:D},Reps K c H vs ds->vs[i]?=some v->ds[i]?=some d->Rep K c H v d
 | _,_,_,_,_,.nil,e,_=>by simp at e
 | _,_,0,_,_,.cons r _,e,e'=>by simp at e e';subst e e';exact r
 | _,_,i + 1,_,_,.cons _ t,e,e'=>Reps.get (i:=i) t (by simpa using e) (by simpa using e')
theorem Reps.at:∀{vs:List V} {ds:List D} {i:Nat} {d:D},Reps K c H vs ds->ds[i]?=some d->∃v,vs[i]?=some v/\Rep K c H v d
 | _,_,_,_,.nil,e=>by simp at e
 | _,_,0,_,.cons r _,e=>by simp at e;subst e;exact ⟨_,rfl,r⟩
 | _,_,i + 1,_,.cons _ t,e=>by
   obtain ⟨v,h1,h2⟩:=Reps.at (i:=i) t (by simpa using e);exact ⟨v,by simpa using h1,h2⟩
theorem Reps.append {vs ws:List V}{ds es:List D}(r:Reps K c H vs ds)(s:Reps K c H ws es):Reps K c H (vs++ws) (ds++es):=by
 cases r with
 | nil=>exact s
 | cons r t=>exact .cons r (Reps.append t s)
theorem Reps.take:∀{vs:List V} {ds:List D} (n:Nat),Reps K c H vs ds->Reps K c H (vs.take n) (ds.take n)
 | _,_,0,_=>.nil
 | _,_,_ + 1,.nil=>.nil
 | _,_,n + 1,.cons r t=>.cons r (Reps.take n t)
theorem Reps.drop:∀{vs:List V} {ds:List D} (n:Nat),Reps K c H vs ds->Reps K c H (vs.drop n) (ds.drop n)
 | _,_,0,r=>r
 | _,_,_ + 1,.nil=>.nil
 | _,_,n + 1,.cons _ t=>Reps.drop n t
theorem Reps.ints:∀ns:List Int,Reps K c H (ns.map V.int) (ns.map D.int)
 | []=>.nil
 | n :: r=>.cons (.int n) (Reps.ints r)
theorem Reps.rep {vs:List V}{ds:List D}(h:Reps K c H vs ds):∀k:Nat,Reps K c H (List.replicate k vs).flatten (List.replicate k ds).flatten
 | 0=>.nil
 | k + 1=>by
   rw [ud9,ud9,uf5,uf5];exact h.append (Reps.rep h k)
end
inductive Ob where
 | lst (xs:List D)
 | dct (kvs:List (Key×D))
 | ins (n:Str) (fs:List (Str×D))
inductive Sl where
 | val (d:D)
 | own (xs:List D)
structure T where
 env:List (Option Sl)
 S:List Ob
def KVR (K:PySem.W.Frag)(c:Cf)(H:Hp):List (Key×V)->List (Key×D)->Prop:=Paired λp q=>p.1=q.1/\Rep K c H p.2 q.2
noncomputable def JH:List Str:=["Reader", "Side", "Lasting", "Parley", "Listener", "Relay", "Desk"]
noncomputable def atN:List Str:=["grammar", "standing", "wires", "places", "side", "said", "taken", "handed", "left", "right", "under_way", "grammars", "standings", "heard", "left_grammar", "right_grammar", "rows", "pair", "broken", "parley"]
def FldR (K:PySem.W.Frag)(c:Cf)(H:Hp):List (Str×V)->List (Str×D)->Prop:=Paired λp q=>p.1=q.1/\Rep K c H p.2 q.2
def ObR (K:PySem.W.Frag)(c:Cf)(H:Hp)(a:Addr):Ob->Prop
 | .lst ds=>∃vs,H a=some (.lst vs)/\Reps K c H vs ds
 | .dct kvs=>∃us,H a=some (.dK us)/\KVR K c H us kvs
 | .ins n fs=>(n∈JH/\∀p∈fs,p.1∈atN)/\∃C dx us,PySem.W.nsIn K mainGlobals n=some (some (.ref C))/\H a=some (.ins C dx us)/\FldR K c H us fs
theorem ObR.mono {K:PySem.W.Frag}{c c':Cf}{H H':Hp}{a:Addr}{o:Ob}(e:Ext c H c' H')(h:ObR K c H a o)(ha:H' a=H a):ObR K c' H' a o:=by
 cases o with
 | lst ds=>obtain ⟨vs,h1,h2⟩:=h;exact ⟨vs,ha.trans h1,h2.mono e⟩
 | dct kvs=>obtain ⟨us,h1,h2⟩:=h;exact ⟨us,ha.trans h1,Paired.mapP h2 λ_ _ z=>⟨z.1,z.2.mono e⟩⟩
 | ins n fs=>obtain ⟨h0,C,dx,us,g,h1,h2⟩:=h;exact ⟨h0,C,dx,us,g,ha.trans h1,Paired.mapP h2 λ_ _ z=>⟨z.1,z.2.mono e⟩⟩
theorem ObR.some {o:Ob}(h:ObR K c H a o):∃u,H a=some u:=by
 cases o with
 | lst ds=>obtain ⟨vs,h1,_⟩:=h;exact ⟨_,h1⟩
 | dct kvs=>obtain ⟨us,h1,_⟩:=h;exact ⟨_,h1⟩
 | ins n fs=>obtain ⟨_,_,_,_,_,h1,_⟩:=h;exact ⟨_,h1⟩
structure SInv (K:PySem.W.Frag)(c:Cf)(S:List Ob)(H:Hp):Prop where
 len:c.ι.length=S.length
 nd:c.ι.Nodup
 obs:∀(k:Nat) (a:Addr) (o:Ob),c.ι[k]?=some a->S[k]?=some o->ObR K c H a o
 trk:∀b,c.O b->∃o,H b=some o
 dis:∀b,c.O b->b∉c.ι
variable {S:List Ob}
theorem SInv.trkA (s:SInv K c S H){b:Addr}(h:c.A b):∃o,H b=some o:=by
 rcases h with h | h
 ·obtain ⟨k,hk,e⟩:=List.mem_iff_getElem.mp h;have e1:c.ι[k]?=some b:=by rw [ub3 hk,e]
  have hk':k < S.length:=by rw [<-s.len];exact hk
  exact (s.obs k b _ e1 (ub3 hk')).some
 ·exact s.trk b h
theorem SInv.free (s:SInv K c S H){b:Addr}(h:H b=none):¬c.A b:=λz=>by
 obtain ⟨o,e⟩:=s.trkA z;rw [h] at e;cases e
structure FInv (K:PySem.W.Frag)(Oo:Addr->Prop)(c:Cf)(t:T)(σ:St)(H:Hp):Prop where
 s:SInv K c t.S H
 len:t.env.length=σ.length
 sub:∀b,Oo b->c.O b
 val:∀(i:Nat) (d:D),t.env[i]?=some (some (.val d))->∃v,σ[i]?=some (some v)/\Rep K c H v d
 own:∀(i:Nat) (ds:List D),t.env[i]?=some (some (.own ds))->∃a vs,σ[i]?=some (some (.ref a))/\c.O a/\¬Oo a/\H a=some (.lst vs)/\Reps K c H vs ds
 inj:∀(i j:Nat) (ds es:List D) (a:Addr),t.env[i]?=some (some (.own ds))->t.env[j]?=some (some (.own es))->σ[i]?=some (some (.ref a))->σ[j]?=some (some (.ref a))->i=j
structure Stp (Oo:Addr->Prop)(c:Cf)(H:Hp)(c':Cf)(H':Hp):Prop where
 ext:Ext c H c' H'
 oo:∀b,Oo b->H' b=H b
theorem Stp.refl {Oo:Addr->Prop}{c:Cf}{H:Hp}:Stp Oo c H c H:=⟨.refl,λ_ _=>rfl⟩
theorem Stp.trans {Oo:Addr->Prop}{c c1 c2:Cf}{H H1 H2:Hp}(a:Stp Oo c H c1 H1)(b:Stp Oo c1 H1 c2 H2):Stp Oo c H c2 H2:=
 ⟨a.ext.trans b.ext,λx h=>(b.oo x h).trans (a.oo x h)⟩
section
variable {K:PySem.W.Frag}{Oo:Addr->Prop}{c:Cf}{t:T}{σ:St}{H:Hp}
theorem Ext.laid (s:SInv K c S H){p:Addr}{o:HO}(h:H p=none):Ext c H c (upd H p o):=
 ⟨λb u e _=>by rw [Ag (AE e h)];exact e,λ_ _ _ z=>z,λ_ _ e=>e⟩
theorem SInv.laid {S:List Ob}(s:SInv K c S H){p:Addr}{o:HO}(h:H p=none):SInv K c S (upd H p o):=
 ⟨s.len,s.nd,λk a u e1 e2=>by
  have q:=s.obs k a u e1 e2;obtain ⟨w,hw⟩:=q.some;exact q.mono (Ext.laid s h) (Ag (AE hw h)),
  λb z=>by obtain ⟨u,e⟩:=s.trk b z;exact ⟨u,by rw [Ag (AE e h)];exact e⟩,s.dis⟩
theorem FInv.laid (f:FInv K Oo c t σ H){p:Addr}{o:HO}(h:H p=none):FInv K Oo c t σ (upd H p o):=by
 have e:=Ext.laid (o:=o) f.s h;refine ⟨f.s.laid h,f.len,f.sub,λi d q=>?_,λi ds q=>?_,f.inj⟩
 ·obtain ⟨v,h1,h2⟩:=f.val i d q;exact ⟨v,h1,h2.mono e⟩
 ·obtain ⟨a,vs,h1,h2,h3,h4,h5⟩:=f.own i ds q;exact ⟨a,vs,h1,h2,h3,by rw [Ag (AE h4 h)];exact h4,h5.mono e⟩
theorem FInv.stp_laid (f:FInv K Oo c t σ H){p:Addr}{o:HO}(h:H p=none):Stp Oo c H c (upd H p o):=
 ⟨Ext.laid f.s h,λb z=>by obtain ⟨u,e⟩:=f.s.trk b (f.sub b z);exact Ag (AE e h)⟩
theorem FInv.set (f:FInv K Oo c t σ H){i:Nat}{v:V}{d:D}(r:Rep K c H v d):FInv K Oo c { t with env:=t.env.set i (some (.val d)) } (σ.set i (some v)) H:=by
 have neq:∀{j:Nat} {x:Sl},(t.env.set i (some (.val d)))[j]?=some (some x)->(j=i/\x = .val d/\j < t.env.length)\/(j≠i/\t.env[j]?=some (some x)):=λ{j x} q=>by
  by_cases h:j=i
  ·subst h;rw [uf8] at q
   split at q
   ·split at q
    ·next h1=>injection q with q;injection q with q;exact .inl ⟨rfl,q.symm,h1⟩
    ·cases q
   ·next h1=>exact absurd rfl h1
  ·rw [ud3 (Ne.symm h)] at q;exact .inr ⟨h,q⟩
 refine ⟨f.s,by simp [f.len],f.sub,λj e q=>?_,λj ds q=>?_,λj k ds es a q1 q2 q3 q4=>?_⟩
 ·rcases neq q with ⟨rfl,z,hl⟩ | ⟨h,q⟩
  ·cases z
   exact ⟨v,by rw [ub8 (by rw [<-f.len];exact hl)],r⟩
  ·obtain ⟨u,h1,h2⟩:=f.val j e q;exact ⟨u,by rw [ud3 (Ne.symm h)];exact h1,h2⟩
 ·rcases neq q with ⟨rfl,z,_⟩ | ⟨h,q⟩
  ·cases z
  ·obtain ⟨a,vs,h1,h2⟩:=f.own j ds q;exact ⟨a,vs,by rw [ud3 (Ne.symm h)];exact h1,h2⟩
 ·rcases neq q1 with ⟨_,z,_⟩ | ⟨h,q1⟩
  ·cases z
  rcases neq q2 with ⟨_,z,_⟩ | ⟨h',q2⟩
  ·cases z
  rw [ud3 (Ne.symm h)] at q3;rw [ud3 (Ne.symm h')] at q4;exact f.inj j k ds es a q1 q2 q3 q4
theorem FInv.setOwn (f:FInv K Oo c t σ H){i:Nat}{p:Addr}{vs:List V}{ds:List D}(h:H p=none)(r:Reps K c H vs ds) :
 ∃c',FInv K Oo c' { t with env:=t.env.set i (some (.own ds)) } (σ.set i (some (.ref p))) (upd H p (.lst vs))/\Stp Oo c H c' (upd H p (.lst vs)):=by
 let c':Cf:=⟨c.ι,λb=>c.O b\/b=p⟩
 have nA:¬c.A p:=f.s.free h;have ext:Ext c H c' (upd H p (.lst vs)):=by
  refine ⟨λb u e _=>by rw [Ag (AE e h)];exact e,λb u e z=>?_,λ_ _ e=>e⟩;rcases z with z | z | z
  ·exact .inl z
  ·exact .inr z
  ·subst z;rw [h] at e;cases e
 have stp:Stp Oo c H c' (upd H p (.lst vs)):=⟨ext,λb z=>by obtain ⟨u,e⟩:=f.s.trk b (f.sub b z);exact Ag (AE e h)⟩;have sinv:SInv K c' t.S (upd H p (.lst vs)):=by
  refine ⟨f.s.len,f.s.nd,λk a u e1 e2=>?_,λb z=>?_,λb z hb=>?_⟩
  ·have q:=f.s.obs k a u e1 e2;obtain ⟨w,hw⟩:=q.some;exact q.mono ext (Ag (AE hw h))
  ·rcases z with z | z
   ·obtain ⟨u,e⟩:=f.s.trk b z;exact ⟨u,by rw [Ag (AE e h)];exact e⟩
   ·subst z;exact ⟨_,Ak⟩
  ·rcases z with z | z
   ·exact f.s.dis b z hb
   ·subst z;exact nA (.inl hb)
 have neq:∀{j:Nat} {x:Sl},(t.env.set i (some (.own ds)))[j]?=some (some x)->(j=i/\x = .own ds/\j < t.env.length)\/(j≠i/\t.env[j]?=some (some x)):=λ{j x} q=>by
  by_cases h:j=i
  ·subst h;rw [uf8] at q
   split at q
   ·split at q
    ·next h1=>injection q with q;injection q with q;exact .inl ⟨rfl,q.symm,h1⟩
    ·cases q
   ·next h1=>exact absurd rfl h1
  ·rw [ud3 (Ne.symm h)] at q;exact .inr ⟨h,q⟩
 have fresh:∀(j:Nat) (es:List D),t.env[j]?=some (some (.own es))->σ[j]?≠some (some (.ref p)):=λj es q z=>by
  obtain ⟨a,vs',h1,_,_,h4,_⟩:=f.own j es q;rw [h1] at z;injection z with z;injection z with z;injection z with z;subst z;rw [h] at h4;cases h4
 refine ⟨c',⟨sinv,by simp [f.len],λb z=>.inl (f.sub b z),λj e q=>?_,λj es q=>?_,λj k ds' es a q1 q2 q3 q4=>?_⟩,stp⟩
 ·rcases neq q with ⟨_,z,_⟩ | ⟨hn,q⟩
  ·cases z
  ·obtain ⟨u,h1,h2⟩:=f.val j e q;exact ⟨u,by rw [ud3 (Ne.symm hn)];exact h1,h2.mono ext⟩
 ·rcases neq q with ⟨rfl,z,hl⟩ | ⟨hn,q⟩
  ·cases z
   refine ⟨p,vs,by rw [ub8 (by rw [<-f.len];exact hl)],.inr rfl,λz=>?_,Ak,r.mono ext⟩;obtain ⟨u,e⟩:=f.s.trk p (f.sub p z);rw [h] at e;cases e
  ·obtain ⟨a,ws,h1,h2,h3,h4,h5⟩:=f.own j es q;exact ⟨a,ws,by rw [ud3 (Ne.symm hn)];exact h1,.inl h2,h3,by rw [Ag (AE h4 h)];exact h4,h5.mono ext⟩
 ·rcases neq q1 with ⟨z1,z2,l1⟩ | ⟨n1,r1⟩
  ·rcases neq q2 with ⟨y1,_,_⟩ | ⟨n2,r2⟩
   ·rw [z1,y1]
   ·subst z1;rw [ub8 (by rw [<-f.len];exact l1)] at q3;injection q3 with q3;injection q3 with q3;injection q3 with q3;subst q3
    rw [ud3 (Ne.symm n2)] at q4;exact absurd q4 (fresh k es r2)
  ·rcases neq q2 with ⟨y1,y2,l2⟩ | ⟨n2,r2⟩
   ·subst y1;rw [ub8 (by rw [<-f.len];exact l2)] at q4;injection q4 with q4;injection q4 with q4;injection q4 with q4;subst q4
    rw [ud3 (Ne.symm n1)] at q3;exact absurd q3 (fresh j ds' r1)
   ·rw [ud3 (Ne.symm n1)] at q3;rw [ud3 (Ne.symm n2)] at q4;exact f.inj j k ds' es a r1 r2 q3 q4
theorem FInv.frz (f:FInv K Oo c t σ H){i:Nat}{ds:List D}(q:t.env[i]?=some (some (.own ds))) :
 ∃c' v,FInv K Oo c' { t with env:=t.env.set i (some (.val (.lst ds))) } σ H/\Stp Oo c H c' H/\σ[i]?=some (some v)/\Rep K c' H v (.lst ds):=by
 obtain ⟨a,vs,h1,h2,h3,h4,h5⟩:=f.own i ds q
 let c':Cf:=⟨c.ι,λb=>c.O b/\b≠a⟩
 have ext:Ext c H c' H:=⟨λ_ _ e _=>e,λb u e z=>z.elim .inl λw=>.inr w.1,λ_ _ e=>e⟩;have sinv:SInv K c' t.S H:=⟨f.s.len,f.s.nd,λk b u e1 e2=>(f.s.obs k b u e1 e2).mono ext rfl,λb z=>f.s.trk b z.1,λb z=>f.s.dis b z.1⟩;have nA:¬c'.A a:=λz=>z.elim (λw=>f.s.dis a h2 w) λw=>w.2 rfl;have hσ:σ.set i (some (.ref a))=σ:=by
  apply List.ext_getElem?;intro j
  by_cases hj:j=i
  ·subst hj;rw [ub8 (by have:=(ua9.mp h1).1;exact this),h1]
  ·rw [ud3 (Ne.symm hj)]
 have r:Rep K c' H (.ref a) (.lst ds):=.lst h4 nA (h5.mono ext);have f0:FInv K Oo c' { t with env:=t.env.set i (some (.val (.lst ds))) } σ H:=by
  have neq:∀{j:Nat} {x:Sl},(t.env.set i (some (.val (.lst ds))))[j]?=some (some x)->(j=i/\x = .val (.lst ds))\/(j≠i/\t.env[j]?=some (some x)):=λ{j x} q=>by
   by_cases h:j=i
   ·subst h;rw [uf8] at q
    split at q
    ·split at q
     ·injection q with q;injection q with q;exact .inl ⟨rfl,q.symm⟩
     ·cases q
    ·next h1=>exact absurd rfl h1
   ·rw [ud3 (Ne.symm h)] at q;exact .inr ⟨h,q⟩
  refine ⟨sinv,by simp [f.len],λb z=>⟨f.sub b z,λw=>h3 (w ▸ z)⟩,λj e q'=>?_,λj es q'=>?_,λj k ds' es b q1 q2 q3 q4=>?_⟩
  ·rcases neq q' with ⟨rfl,z⟩ | ⟨hn,q'⟩
   ·cases z;exact ⟨_,h1,r⟩
   ·obtain ⟨u,w1,w2⟩:=f.val j e q';exact ⟨u,w1,w2.mono ext⟩
  ·rcases neq q' with ⟨_,z⟩ | ⟨hn,q'⟩
   ·cases z
   ·obtain ⟨b,ws,w1,w2,w3,w4,w5⟩:=f.own j es q';refine ⟨b,ws,w1,⟨w2,λz=>?_⟩,w3,w4,w5.mono ext⟩;subst z;exact hn (f.inj j i es ds b q' q w1 h1)
  ·rcases neq q1 with ⟨_,z⟩ | ⟨_,q1⟩
   ·cases z
   rcases neq q2 with ⟨_,z⟩ | ⟨_,q2⟩
   ·cases z
   exact f.inj j k ds' es b q1 q2 q3 q4
 exact ⟨c',_,f0,⟨ext,λ_ _=>rfl⟩,h1,r⟩
theorem FInv.wrOwn (f:FInv K Oo c t σ H){i:Nat}{ds ds':List D}{vs':List V}{a:Addr}(q:t.env[i]?=some (some (.own ds)))(h1:σ[i]?=some (some (.ref a)))(r:Reps K c H vs' ds') :
 FInv K Oo c { t with env:=t.env.set i (some (.own ds')) } σ (upd H a (.lst vs'))/\Stp Oo c H c (upd H a (.lst vs')):=by
 obtain ⟨a',vs,g1,h2,h3,h4,h5⟩:=f.own i ds q;rw [h1] at g1;injection g1 with g1;injection g1 with g1;injection g1 with g1;subst g1
 have ext:Ext c H c (upd H a (.lst vs')):=⟨λb u e n=>by rw [Ag (λ(z:b=a)=>n (.inr (by rw [z];exact h2)))];exact e,λ_ _ _ z=>z,λ_ _ e=>e⟩;have stp:Stp Oo c H c (upd H a (.lst vs')):=⟨ext,λb z=>Ag λw=>h3 (w ▸ z)⟩;have sinv:SInv K c t.S (upd H a (.lst vs')):=by
  refine ⟨f.s.len,f.s.nd,λk b u e1 e2=>(f.s.obs k b u e1 e2).mono ext (Ag λz=>f.s.dis a h2 (z ▸ ud4 e1)),λb z=>?_,f.s.dis⟩
  by_cases hb:b=a
  ·subst hb;exact ⟨_,Ak⟩
  ·obtain ⟨u,e⟩:=f.s.trk b z;exact ⟨u,by rw [Ag hb];exact e⟩
 have neq:∀{j:Nat} {x:Sl},(t.env.set i (some (.own ds')))[j]?=some (some x)->(j=i/\x = .own ds')\/(j≠i/\t.env[j]?=some (some x)):=λ{j x} q=>by
  by_cases h:j=i
  ·subst h;rw [uf8] at q
   split at q
   ·split at q
    ·injection q with q;injection q with q;exact .inl ⟨rfl,q.symm⟩
    ·cases q
   ·next h1=>exact absurd rfl h1
  ·rw [ud3 (Ne.symm h)] at q;exact .inr ⟨h,q⟩
 refine ⟨⟨sinv,by simp [f.len],f.sub,λj e q'=>?_,λj es q'=>?_,λj k es es' b q1 q2 q3 q4=>?_⟩,stp⟩
 ·rcases neq q' with ⟨_,z⟩ | ⟨_,q'⟩
  ·cases z
  ·obtain ⟨u,w1,w2⟩:=f.val j e q';exact ⟨u,w1,w2.mono ext⟩
 ·rcases neq q' with ⟨rfl,z⟩ | ⟨hn,q'⟩
  ·cases z;exact ⟨a,vs',h1,h2,h3,Ak,r.mono ext⟩
  ·obtain ⟨b,ws,w1,w2,w3,w4,w5⟩:=f.own j es q';have hb:b≠a:=λz=>by subst z;exact hn (f.inj j i es ds b q' q w1 h1)
   exact ⟨b,ws,w1,w2,w3,by rw [Ag hb];exact w4,w5.mono ext⟩
 ·have old:∀{j:Nat} {x:List D},(t.env.set i (some (.own ds')))[j]?=some (some (.own x))->∃y,t.env[j]?=some (some (.own y)):=λ{j x} q'=>by
   rcases neq q' with ⟨rfl,_⟩ | ⟨_,q'⟩
   ·exact ⟨ds,q⟩
   ·exact ⟨x,q'⟩
  obtain ⟨y1,z1⟩:=old q1;obtain ⟨y2,z2⟩:=old q2;exact f.inj j k y1 y2 b z1 z2 q3 q4
theorem FInv.wrObj (f:FInv K Oo c t σ H){k:Nat}{a:Addr}{o:Ob}{u:HO}(e:c.ι[k]?=some a)(r:∀c' H',Ext c H c' H'->H' a=some u->ObR K c' H' a o) :
 FInv K Oo c { t with S:=t.S.set k o } σ (upd H a u)/\Stp Oo c H c (upd H a u):=by
 have hA:a∈c.ι:=ud4 e;have ext:Ext c H c (upd H a u):=⟨λb w h n=>by rw [Ag (λ(z:b=a)=>n (.inl (by rw [z];exact hA)))];exact h,λ_ _ _ z=>z,λ_ _ e=>e⟩;have neO:∀b,c.O b->b≠a:=λb z w=>f.s.dis b z (w ▸ hA);have stp:Stp Oo c H c (upd H a u):=⟨ext,λb z=>Ag (neO b (f.sub b z))⟩;have sinv:SInv K c (t.S.set k o) (upd H a u):=by
  refine ⟨by simp [f.s.len],f.s.nd,λj b o' e1 e2=>?_,λb z=>?_,f.s.dis⟩
  ·by_cases hj:j=k
   ·subst hj;rw [e] at e1;cases e1
    have hl:j < t.S.length:=by rw [<-f.s.len];exact (ua9.mp e).1
    rw [ub8 hl] at e2;cases e2
    exact r c _ ext Ak
   ·rw [ud3 (Ne.symm hj)] at e2;refine (f.s.obs j b o' e1 e2).mono ext (Ag λz=>?_);subst z;obtain ⟨l1,g1⟩:=ua9.mp e1;obtain ⟨l2,g2⟩:=ua9.mp e;exact hj ((ug3 f.s.nd).mp (g1.trans g2.symm))
  ·obtain ⟨w,h⟩:=f.s.trk b z;exact ⟨w,by rw [Ag (neO b z)];exact h⟩
 refine ⟨⟨sinv,f.len,f.sub,λi d q=>?_,λi ds q=>?_,f.inj⟩,stp⟩
 ·obtain ⟨v,h1,h2⟩:=f.val i d q;exact ⟨v,h1,h2.mono ext⟩
 ·obtain ⟨b,vs,h1,h2,h3,h4,h5⟩:=f.own i ds q;exact ⟨b,vs,h1,h2,h3,by rw [Ag (neO b h2)];exact h4,h5.mono ext⟩
theorem FInv.newObj (f:FInv K Oo c t σ H){p:Addr}{o:Ob}{u:HO}(h:H p=none)(r:∀c' H',Ext c H c' H'->H' p=some u->ObR K c' H' p o) :
 ∃c',FInv K Oo c' { t with S:=t.S++[o] } σ (upd H p u)/\Stp Oo c H c' (upd H p u)/\c'.ι[t.S.length]?=some p:=by
 let c':Cf:=⟨c.ι++[p],c.O⟩
 have nA:¬c.A p:=f.s.free h;have ext:Ext c H c' (upd H p u):=by
  refine ⟨λb w e _=>by rw [Ag (AE e h)];exact e,λb w e z=>?_,λk a e=>?_⟩
  ·rcases z with z | z
   ·rcases uh7.mp z with z | z
    ·exact .inl z
    ·rw [ue8] at z;subst z;rw [h] at e;cases e
   ·exact .inr z
  ·show (c.ι++[p])[k]?=some a;rw [ub0 (ua9.mp e).1];exact e
 have stp:Stp Oo c H c' (upd H p u):=⟨ext,λb z=>by obtain ⟨w,e⟩:=f.s.trk b (f.sub b z);exact Ag (AE e h)⟩;have at_:(c.ι++[p])[t.S.length]?=some p:=by rw [<-f.s.len,ua5 (ul9 _)];simp
 have sinv:SInv K c' (t.S++[o]) (upd H p u):=by
  refine ⟨by simp [c',f.s.len],?_,λj b o' e1 e2=>?_,λb z=>?_,λb z hb=>?_⟩
  ·show (c.ι++[p]).Nodup;exact List.nodup_append.mpr ⟨f.s.nd,by simp,λx hx y hy z=>by rw [ue8] at hy;subst z;subst hy;exact nA (.inl hx)⟩
  ·have hlt:j < (t.S++[o]).length:=(ua9.mp e2).1
   by_cases hj:j < t.S.length
   ·have e1':c.ι[j]?=some b:=by
     have q:(c.ι++[p])[j]?=some b:=e1;rw [ub0 (by rw [f.s.len];exact hj)] at q;exact q
    rw [ub0 hj] at e2;have q:=f.s.obs j b o' e1' e2;obtain ⟨w,hw⟩:=q.some;exact q.mono ext (Ag (AE hw h))
   ·have hj':j=t.S.length:=by simp at hlt;lia
    subst hj';rw [at_] at e1;cases e1
    rw [ua5 (ul9 _)] at e2;simp at e2;subst e2;exact r c' _ ext Ak
  ·obtain ⟨w,e⟩:=f.s.trk b z;exact ⟨w,by rw [Ag (AE e h)];exact e⟩
  ·rcases uh7.mp hb with w | w
   ·exact f.s.dis b z w
   ·rw [ue8] at w;subst w;exact nA (.inr z)
 refine ⟨c',⟨sinv,f.len,f.sub,λi d q=>?_,λi ds q=>?_,f.inj⟩,stp,at_⟩
 ·obtain ⟨v,h1,h2⟩:=f.val i d q;exact ⟨v,h1,h2.mono ext⟩
 ·obtain ⟨b,vs,h1,h2,h3,h4,h5⟩:=f.own i ds q;exact ⟨b,vs,h1,h2,h3,by rw [Ag (AE h4 h)];exact h4,h5.mono ext⟩
theorem FInv.after (f:FInv K Oo c t σ H){c':Cf}{S':List Ob}{H':Hp}(s:SInv K c' S' H')(st:Stp c.O c H c' H')(ho:∀b,c'.O b↔c.O b):FInv K Oo c' { t with S:=S' } σ H'/\Stp Oo c H c' H':=by
 refine ⟨⟨s,f.len,λb z=>(ho b).mpr (f.sub b z),λi d q=>?_,λi ds q=>?_,f.inj⟩,st.ext,λb z=>st.oo b (f.sub b z)⟩
 ·obtain ⟨v,h1,h2⟩:=f.val i d q;exact ⟨v,h1,h2.mono st.ext⟩
 ·obtain ⟨b,vs,h1,h2,h3,h4,h5⟩:=f.own i ds q;exact ⟨b,vs,h1,(ho b).mpr h2,h3,(st.oo b h2).trans h4,h5.mono st.ext⟩
end
abbrev M (α:Type):=T->Option (α×T)
inductive Out where
 | next | brk | cont | ret (d:D)
noncomputable def ret {α:Type}(a:α):M α:=λt=>some (a,t)
noncomputable def fail {α:Type}:M α:=λ_=>none
noncomputable def bnd {α β:Type}(f:M α)(g:α->M β):M β:=λt=>match f t with
 | some (a,t1)=>g a t1
 | none=>none
variable {t:T}
theorem Af {α β:Type}{f:M α}{g:α->M β}{z:β×T}(h:bnd f g t=some z):∃a t1,f t=some (a,t1)/\g a t1=some z:=by
 unfold bnd at h
 cases e:f t with
 | none=>rw [e] at h;cases h
 | some p=>obtain ⟨a,t1⟩:=p;rw [e] at h;exact ⟨a,t1,rfl,h⟩
noncomputable def LIM:Nat:=100000
theorem C9:LIM<=sizeLine:=by unfold LIM;decide
theorem Vx:LIM < sizeLine:=by unfold LIM;decide
section
variable (K:PySem.W.Frag)
inductive RE (f:M D)(σ:L2.St)(H:Hp)(Q:VK):Prop where
 | mk (Oo:Addr->Prop) (c:Cf) (t:T) (fi:FInv K Oo c t σ H) (r:D) (t':T) (e:f t=some (r,t')) (k:∀v H' c',FInv K Oo c' t' σ H'->Stp Oo c H c' H'->Rep K c' H' v r->Q v H'):RE f σ H Q
inductive RT (f:M Bool)(σ:L2.St)(H:Hp)(Q:Bool->Hp->Prop):Prop where
 | mk (Oo:Addr->Prop) (c:Cf) (t:T) (fi:FInv K Oo c t σ H) (r:Bool) (t':T) (e:f t=some (r,t')) (k:∀H' c',FInv K Oo c' t' σ H'->Stp Oo c H c' H'->Q r H'):RT f σ H Q
inductive RA (f:M (List D))(σ:L2.St)(H:Hp)(Q:List V->Hp->Prop):Prop where
 | mk (Oo:Addr->Prop) (c:Cf) (t:T) (fi:FInv K Oo c t σ H) (r:List D) (t':T) (e:f t=some (r,t')) (k:∀vs H' c',FInv K Oo c' t' σ H'->Stp Oo c H c' H'->Reps K c' H' vs r->Q vs H'):RA f σ H Q
inductive RF (f:M (List D))(σ:L2.St)(H:Hp)(Q:VK):Prop where
 | mk (Oo:Addr->Prop) (c:Cf) (t:T) (fi:FInv K Oo c t σ H) (ds:List D) (t':T) (e:f t=some (ds,t')) (k:∀p vs H' c',FInv K Oo c' t' σ H'->Stp Oo c H c' H'->Reps K c' H' vs ds->H' p=none->Q (.ref p) (upd H' p (.lst vs))):RF f σ H Q
inductive RSg (μ:Cf->Hp->D->(V->Hp->Prop)->Prop)(f:M Out)(E:Ends)(σ:L2.St)(H:Hp):Prop where
 | mk (Oo:Addr->Prop) (c:Cf) (t:T) (fi:FInv K Oo c t σ H) (o:Out) (t':T) (e:f t=some (o,t')) (k:∀σ' H' c',FInv K Oo c' t' σ' H'->Stp Oo c H c' H'->
 match (generalizing:=false) o with
 | .next=>E.nx σ' H'
 | .brk=>E.bk σ' H'
 | .cont=>E.ct σ' H'
 | .ret r=>μ c' H' r E.rt):RSg μ f E σ H
def μR:Cf->Hp->D->(V->Hp->Prop)->Prop:=λc H r rt=>∀v,Rep K c H v r->rt v H
def μF:Cf->Hp->D->(V->Hp->Prop)->Prop:=λc H r rt=>match r with
 | .lst ds=>∀p us,H p=none->Reps K c H us ds->rt (.ref p) (upd H p (.lst us))
 | _=>False
abbrev RS (f:M Out):TS:=RSg K (μR K) f
inductive RG (f:D->M Unit)(v:V)(σ:L2.St)(H:Hp)(Q:L2.St->Hp->Prop):Prop where
 | mk (Oo:Addr->Prop) (c:Cf) (t:T) (d:D) (fi:FInv K Oo c t σ H) (r:Rep K c H v d) (t':T) (e:f d t=some ((),t')) (k:∀σ' H' c',FInv K Oo c' t' σ' H'->Stp Oo c H c' H'->Q σ' H'):RG f v σ H Q
structure ItOk (J:It)(c:Cf)(H:Hp)(ds:List D):Prop where
 go:∀c' H' (i:Nat),Ext c H c' H'->i < ds.length->J.go i H'
 yld:∀c' H' (i:Nat) x H'' d,Ext c H c' H'->ds[i]?=some d->J.yld i H' x H''->H''=H'/\Rep K c' H' x d
 stop:∀c' H',Ext c H c' H'->J.stop ds.length H'
inductive RI (f:M (List D))(σ:L2.St)(H:Hp)(R:It->Hp->Prop):Prop where
 | mk (Oo:Addr->Prop) (c:Cf) (t:T) (fi:FInv K Oo c t σ H) (ds:List D) (t':T) (e:f t=some (ds,t')) (k:∀J H' c',FInv K Oo c' t' σ H'->Stp Oo c H c' H'->ItOk K J c' H' ds->R J H'):RI f σ H R
def Bn (R:R2)(h:D->D->M D):Prop:=∀{Oo:Addr->Prop} {c:Cf} {t:T} {σ:L2.St} {H:Hp} {x y:V} {dx dy r:D} {t':T} {Q:VK},FInv K Oo c t σ H->Rep K c H x dx->Rep K c H y dy->h dx dy t=some (r,t')->
 (∀v H' c',FInv K Oo c' t' σ H'->Stp Oo c H c' H'->Rep K c' H' v r->Q v H')->R x y H Q
def E7 (R:List V->Hp->VK->Prop)(h:List D->M D):Prop:=∀{Oo:Addr->Prop} {c:Cf} {t:T} {σ:L2.St} {H:Hp} {xs:List V} {ds:List D} {r:D} {t':T} {Q:VK},FInv K Oo c t σ H->Reps K c H xs ds->h ds t=some (r,t')->
 (∀v H' c',FInv K Oo c' t' σ H'->Stp Oo c H c' H'->Rep K c' H' v r->Q v H')->R xs H Q
def Nu (R:R2)(h:D->D->M (List D)):Prop:=∀{Oo:Addr->Prop} {c:Cf} {t:T} {σ:L2.St} {H:Hp} {x y:V} {dx dy:D} {r:List D} {t':T} {Q:VK},FInv K Oo c t σ H->Rep K c H x dx->Rep K c H y dy->h dx dy t=some (r,t')->
 (∀p vs H' c',FInv K Oo c' t' σ H'->Stp Oo c H c' H'->Reps K c' H' vs r->H' p=none->Q (.ref p) (upd H' p (.lst vs)))->R x y H Q
def IB (R:List V->Hp->VK->Prop)(h:List D->M (List D)):Prop:=∀{Oo:Addr->Prop} {c:Cf} {t:T} {σ:L2.St} {H:Hp} {xs:List V} {ds r:List D} {t':T} {Q:VK},FInv K Oo c t σ H->Reps K c H xs ds->h ds t=some (r,t')->
 (∀p vs H' c',FInv K Oo c' t' σ H'->Stp Oo c H c' H'->Reps K c' H' vs r->H' p=none->Q (.ref p) (upd H' p (.lst vs)))->R xs H Q
end
variable {tg:Expr}{j i:Nat}{f g:M D}{h:D->D->M D}{R:R2}{op:CmpOp}{σ:L2.St}
section
variable {X:Cx}{e a b:Expr}{pos:Pos}
theorem AD {t t':TE}(h:PE X e t)(i:∀σ H Q,t' σ H Q->t σ H Q):PE X e t':=λpins s σ H Q I q=>h pins s σ H Q I (i σ H Q q)
theorem Le {t t':TT}(h:PT X e t)(i:∀σ H Q,t' σ H Q->t σ H Q):PT X e t':=λpins s σ H Q I q=>h pins s σ H Q I (i σ H Q q)
theorem OA {t t':TT}(h:PW X e t)(i:∀σ H Q,t' σ H Q->t σ H Q):PW X e t':=λw pins s σ H Q I q=>h w pins s σ H Q I (i σ H Q q)
theorem Oy {es:List Expr}{t t':TA}(h:PA X es t)(i:∀σ H Q,t' σ H Q->t σ H Q):PA X es t':=λpos pins s σ H Q I q=>h pos pins s σ H Q I (i σ H Q q)
theorem A9 {st:Stmt}{t t':TS}(h:PS X st t)(i:∀E σ H,t' E σ H->t E σ H):PS X st t':=λpins s σ H E I q=>h pins s σ H E I (i E σ H q)
theorem MI {st:List Stmt}{t t':TS}(h:PSs X st t)(i:∀E σ H,t' E σ H->t E σ H):PSs X st t':=λpins s σ H E I q=>h pins s σ H E I (i E σ H q)
theorem Ld {t t':TG}(h:PG X e t)(i:∀v σ H Q,t' v σ H Q->t v σ H Q):PG X e t':=λpins s σ H v u Q I r q=>h pins s σ H v u Q I r (i v σ H Q q)
theorem Iy {t t':TI}(h:PI X tg e t)(i:∀σ H R,t' σ H R->t σ H R):PI X tg e t':=λpins s σ H R I q=>h pins s σ H R I (i σ H R q)
def fC (d:D):M D:=ret d
theorem Ig {v:V}{d:D}(h:PE X e (tC v))(r:∀c H,Rep X.K c H v d):PE X e (RE X.K (fC d)):=
 AD h λσ H Q z9=>by
  obtain ⟨Oo,c,t,f,r',t',eq,k⟩:=z9
  cases eq
  exact k v H c f .refl (r c H)
theorem V1 {i:Int}:PE X (.Constant (.int i) j pos) (RE X.K (fC (.int i))):=Ig WX λ_ _=>.int i
theorem Yb {i:Bool}:PE X (.Constant (.bool i) j pos) (RE X.K (fC (.bl i))):=Ig Yt λ_ _=>.bl i
theorem V6 {i:Str}:PE X (.Constant (.str i) j pos) (RE X.K (fC (.str i))):=Ig PQ λ_ _=>.str i
theorem V2:PE X (.Constant .none j pos) (RE X.K (fC .non)):=Ig WZ λ_ _=>.non
theorem JJ {x:Str}{i:Int}{tk:Tok}(hg:Gl X x)(hm:X.mg x=some (.int i tk))(hd:(x == ("__debug__" : Str))=false:=by decide):PE X (.Name x pos) (RE X.K (fC (.int i))):=
 Ig (M6 hg hm (v:=.int i) ⟨tk,rfl⟩ hd) λ_ _=>.int i
theorem QV {x:Str}{y:Str}{tk:Tok}(hg:Gl X x)(hm:X.mg x=some (.str y tk))(hd:(x == ("__debug__" : Str))=false:=by decide):PE X (.Name x pos) (RE X.K (fC (.str y))):=
 Ig (M6 hg hm (v:=.str y) ⟨tk,rfl⟩ hd) λ_ _=>.str y
theorem IT {x:Str}{n:String}(hg:Gl X x)(hm:X.mg x=none)(hv:bootBuiltins x=some (.type n))(hn:x≠"__name__":=by decide)(hd:(x == ("__debug__" : Str))=false:=by decide):PE X (.Name x pos) (RE X.K (fC (.ty n))):=
 Ig (Us hg hm hv (v:=.ty n) rfl hn hd) λ_ _=>.ty n
noncomputable def Aa (i:Nat):M D:=λt=>match t.env[i]? with
 | some (some (.val d))=>some (d,t)
 | some (some (.own ds))=>some (.lst ds,{ t with env:=t.env.set i (some (.val (.lst ds))) })
 | _=>none
theorem NE {t':T}{r:D}(h:Aa i t=some (r,t')):(t.env[i]?=some (some (.val r))/\t'=t)\/∃ds,t.env[i]?=some (some (.own ds))/\r = .lst ds/\t' = { t with env:=t.env.set i (some (.val (.lst ds))) }:=by
 unfold Aa at h
 cases e:t.env[i]? with
 | none=>rw [e] at h;cases h
 | some o=>
   cases o with
   | none=>rw [e] at h;cases h
   | some sl=>
     cases sl with
     | val d=>rw [e] at h;cases h;exact .inl ⟨rfl,rfl⟩
     | own ds=>rw [e] at h;cases h;exact .inr ⟨ds,rfl,rfl,rfl⟩
theorem V7 (i:Nat){x:Str}(hN:X.N[i]?=some x:=by rfl)(hv:Vis X.env.scope x:=by walk_at "h")(hd:(x == ("__debug__" : Str))=false:=by decide)
 (hcd:(x == ("__classdict__" : Str))=false:=by decide):PE X (.Name x pos) (RE X.K (Aa i)):=
 AD (Cd hN hv hd hcd) λσ H Q z9=>by
  obtain ⟨Oo,c,t,f,r,t',eq,k⟩:=z9;rcases NE eq with ⟨q,rfl⟩ | ⟨ds,q,rfl,rfl⟩
  ·obtain ⟨v,h1,h2⟩:=f.val i r q;exact ⟨v,h1,k v H c f .refl h2⟩
  ·obtain ⟨c',v,f',st,h1,h2⟩:=f.frz q;exact ⟨v,h1,k v H c' f' st h2⟩
def Ac (f g:M D)(h:D->D->M D):M D:=bnd f λx=>bnd g λy=>h x y
theorem RE.two (s:Bn K R h){σ:L2.St}{H:Hp}{Q:VK}(q:RE K (Ac f g h) σ H Q):tOp R (RE K f) (RE K g) σ H Q:=by
 obtain ⟨Oo,c,t,fi,r,t',eq,k⟩:=q;obtain ⟨dx,t1,e1,eq⟩:=Af eq;obtain ⟨dy,t2,e2,eq⟩:=Af eq;exact ⟨Oo,c,t,fi,dx,t1,e1,λx H1 c1 f1 s1 rx=>⟨Oo,c1,t1,f1,dy,t2,e2,λy H2 c2 f2 s2 ry=>s f2 (rx.mono s2.ext) ry eq λv H' c' f' s' rv=>k v H' c' f' ((s1.trans s2).trans s') rv⟩⟩
theorem Hu {op:Operator}(ho:OpR X (binaryOp op) R)(s:Bn X.K R h)(ha:PE X a (RE X.K f))(hb:PE X b (RE X.K g)):PE X (.BinOp a op b pos) (RE X.K (Ac f g h)):=
 AD (NY ho ha hb) λ_ _ _ q=>RE.two s q
theorem IS (ho:OpR X (compareOp op) R)(s:Bn X.K R h)(ha:PE X a (RE X.K f))(hb:PE X b (RE X.K g))(hm:behindInMarks op b=false):PE X (.Compare a [op] [b] pos) (RE X.K (Ac f g h)):=
 AD (Ut ho ha hb hm) λ_ _ _ q=>RE.two s q
theorem SZ (hr:IxR X R)(s:Bn X.K R h)(ha:PE X a (RE X.K f))(hb:PE X b (RE X.K g))(hs:MJ b):PE X (.Subscript a b pos) (RE X.K (Ac f g h)):=
 AD (Yu hr ha hb hs) λ_ _ _ q=>RE.two s q
def fUn (f:M D)(h:D->M D):M D:=bnd f h
def toB:D->M Bool
 | .bl b=>ret b
 | _=>fail
def Aj (f:M D):M Bool:=bnd f toB
theorem Iw {d:D}{z:Bool×T}(h:toB d t=some z):∃b,d = .bl b/\z=(b,t):=by
 cases d with
 | bl b=>cases h;exact ⟨b,rfl,rfl⟩
 | _=>cases h
theorem RT.val {Q:Bool->Hp->Prop}(q:RT K (Aj f) σ H Q):RE K f σ H λx H1=>∃k,x = .bl k/\Q k H1:=by
 obtain ⟨Oo,c,t,fi,r,t',eq,k⟩:=q;obtain ⟨d,t1,e1,eq⟩:=Af eq;obtain ⟨b,rfl,z⟩:=Iw eq
 cases z
 refine ⟨Oo,c,t,fi,_,t',e1,λv H1 c1 f1 s1 rv=>?_⟩
 cases rv
 exact ⟨r,rfl,k H1 c1 f1 s1⟩
theorem O9 (h:PE X e (RE X.K f))(he:∀whole,isTrue e X.env whole=(do let v <-whole;standAt e.pos;holding [v] (truthy v)):=by intro _;rfl):PT X e (RT X.K (Aj f)):=
 Le (Xa h he) λ_ _ _ q=>RT.val q
theorem Fh (ho:OpR X (compareOp op) R)(s:Bn X.K R h)(ha:PE X a (RE X.K f))(hb:PE X b (RE X.K g))(hm:behindInMarks op b=false):PT X (.Compare a [op] [b] pos) (RT X.K (Aj (Ac f g h))):=
 Le (UI ho ha hb hm) λσ H Q q=>RE.two s (RT.val q)
def ED (f g w:M D)(h h':D->D->M D):M D:=bnd f λx=>bnd g λy=>bnd (Aj (h x y)) λk=>if k=true then bnd w λz=>h' y z else ret (.bl false)
theorem RE.chain {w:M D}{h':D->D->M D}{R':R2}(s:Bn K R h)(s':Bn K R' h'){σ:L2.St}{H:Hp}{Q:VK}(q:RE K (ED f g w h h') σ H Q):Qg R R' (RE K f) (RE K g) (RE K w) σ H Q:=by
 obtain ⟨Oo,c,t,fi,r,t',eq,k⟩:=q;obtain ⟨dx,t1,e1,eq⟩:=Af eq;obtain ⟨dy,t2,e2,eq⟩:=Af eq;obtain ⟨kb,t3,e3,eq⟩:=Af eq;obtain ⟨d3,t3',e3',e3⟩:=Af e3;obtain ⟨b3,rfl,z⟩:=Iw e3
 cases z
 refine ⟨Oo,c,t,fi,dx,t1,e1,λx H1 c1 f1 s1 rx=>⟨Oo,c1,t1,f1,dy,t2,e2,λy H2 c2 f2 s2 ry=>s f2 (rx.mono s2.ext) ry e3' λv H3 c3 f3 s3 rv=>?_⟩⟩
 cases rv
 refine ⟨kb,rfl,?_⟩
 cases kb with
 | false=>
   rw [if_neg ue3] at eq ⊢
   cases eq
   exact k _ H3 c3 f3 ((s1.trans s2).trans s3) (.bl false)
 | true=>
   rw [if_pos rfl] at eq ⊢;obtain ⟨dz,t4,e4,eq⟩:=Af eq;exact ⟨Oo,c3,t3,f3,dz,t4,e4,λw' H4 c4 f4 s4 rw'=>s' f4 (ry.mono (s3.trans s4).ext) rw' eq λv H' c' f' s' rv=>k v H' c' f' ((((s1.trans s2).trans s3).trans s4).trans s') rv⟩
theorem QT {d:Expr}{op':CmpOp}{R':R2}{w:M D}{h':D->D->M D}(ho:OpR X (compareOp op) R)(ho':OpR X (compareOp op') R')(s:Bn X.K R h)(s':Bn X.K R' h')(ha:PE X a (RE X.K f))(hb:PE X b (RE X.K g))(hd:PE X d (RE X.K w))
 (hm:lastMarks [op,op'] [b,d]=false:=by with_unfolding_all rfl):PE X (.Compare a [op,op'] [b,d] pos) (RE X.K (ED f g w h h')):=
 AD (RQ ho ho' ha hb hd hm) λ_ _ _ q=>RE.chain s s' q
def Fe (f g:M Bool):M Bool:=bnd f λk=>if k=true then g else ret false
def fOr (f g:M Bool):M Bool:=bnd f λk=>if k=true then ret true else g
def BT (f:M Bool):M Bool:=bnd f λk=>ret (!k)
def DP (f g:M D):M D:=bnd (Aj f) λk=>if k=true then g else ret (.bl false)
def VW (f g:M D):M D:=bnd (Aj f) λk=>if k=true then ret (.bl true) else g
def IQ (f:M D):M D:=bnd (Aj f) λk=>ret (.bl (!k))
def fIf (f:M Bool)(g h:M D):M D:=bnd f λk=>if k=true then g else h
variable {f g:M Bool}{u v w:M D}{rest:List Expr}
theorem Yk (h:PW X e (RT X.K f)):PT X e (RT X.K f):=h.pt
theorem TY (ha:PT X a (RT X.K f)):PW X (.BoolOp .And [a] pos) (RT X.K f):=UJ ha
theorem Wj (ha:PT X a (RT X.K f)):PW X (.BoolOp .Or [a] pos) (RT X.K f):=Xc ha
theorem Wi (ha:PT X a (RT X.K f))(hb:PW X (.BoolOp .And (b :: rest) pos) (RT X.K g)):PW X (.BoolOp .And (a :: b :: rest) pos) (RT X.K (Fe f g)):=
 OA (Xb ha hb) λσ H Q z9=>by
  obtain ⟨Oo,c,t,fi,r,t',eq,k⟩:=z9;obtain ⟨kb,t1,e1,eq⟩:=Af eq;refine ⟨Oo,c,t,fi,kb,t1,e1,λH1 c1 f1 s1=>?_⟩
  cases kb with
  | false=>rw [if_neg ue3] at eq ⊢;cases eq;exact k H1 c1 f1 s1
  | true=>rw [if_pos rfl] at eq ⊢;exact ⟨Oo,c1,t1,f1,r,t',eq,λH2 c2 f2 s2=>k H2 c2 f2 (s1.trans s2)⟩
theorem Yl (ha:PT X a (RT X.K f))(hb:PW X (.BoolOp .Or (b :: rest) pos) (RT X.K g)):PW X (.BoolOp .Or (a :: b :: rest) pos) (RT X.K (fOr f g)):=
 OA (YB ha hb) λσ H Q z9=>by
  obtain ⟨Oo,c,t,fi,r,t',eq,k⟩:=z9;obtain ⟨kb,t1,e1,eq⟩:=Af eq;refine ⟨Oo,c,t,fi,kb,t1,e1,λH1 c1 f1 s1=>?_⟩
  cases kb with
  | true=>rw [if_pos rfl] at eq ⊢;cases eq;exact k H1 c1 f1 s1
  | false=>rw [if_neg ue3] at eq ⊢;exact ⟨Oo,c1,t1,f1,r,t',eq,λH2 c2 f2 s2=>k H2 c2 f2 (s1.trans s2)⟩
theorem Wh (ha:PT X a (RT X.K f)):PT X (.UnaryOp .Not a pos) (RT X.K (BT f)):=
 Le (W9 ha) λσ H Q z9=>by
  obtain ⟨Oo,c,t,fi,r,t',eq,k⟩:=z9;obtain ⟨kb,t1,e1,eq⟩:=Af eq
  cases eq
  exact ⟨Oo,c,t,fi,kb,_,e1,λH1 c1 f1 s1=>k H1 c1 f1 s1⟩
theorem Mp {f:M D}{kb:Bool}{t1:T}(h:Aj f t=some (kb,t1)):f t=some (.bl kb,t1):=by
 obtain ⟨d,t2,e1,e2⟩:=Af h;obtain ⟨b,rfl,z⟩:=Iw e2
 cases z
 exact e1
theorem V5 {op:PySem.BoolOp}(h:PE X a (RE X.K u)):PE X (.BoolOp op [a] pos) (RE X.K u):=W1 h
theorem VY (ha:PE X a (RE X.K u))(hb:PE X (.BoolOp .And (b :: rest) pos) (RE X.K v)):PE X (.BoolOp .And (a :: b :: rest) pos) (RE X.K (DP u v)):=
 AD (WU ha hb) λσ H Q z9=>by
  obtain ⟨Oo,c,t,fi,r,t',eq,k⟩:=z9;obtain ⟨kb,t1,e1,eq⟩:=Af eq;refine ⟨Oo,c,t,fi,_,t1,Mp e1,λx H1 c1 f1 s1 rx=>?_⟩
  cases rx
  refine ⟨kb,rfl,?_⟩
  cases kb with
  | false=>rw [if_neg ue3] at eq ⊢;cases eq;exact k _ H1 c1 f1 s1 (.bl false)
  | true=>rw [if_pos rfl] at eq ⊢;exact ⟨Oo,c1,t1,f1,r,t',eq,λy H2 c2 f2 s2 ry=>k y H2 c2 f2 (s1.trans s2) ry⟩
theorem V3 (ha:PE X a (RE X.K u)):PE X (.UnaryOp .Not a pos) (RE X.K (IQ u)):=
 AD (W0 ha) λσ H Q z9=>by
  obtain ⟨Oo,c,t,fi,r,t',eq,k⟩:=z9;obtain ⟨kb,t1,e1,eq⟩:=Af eq
  cases eq
  refine ⟨Oo,c,t,fi,_,_,Mp e1,λx H1 c1 f1 s1 rx=>?_⟩
  cases rx
  exact ⟨kb,rfl,k _ H1 c1 f1 s1 (.bl (!kb))⟩
theorem QW {d:Expr}(hc:PT X d (RT X.K f))(ha:PE X a (RE X.K u))(hb:PE X b (RE X.K v)):PE X (.IfExp d a b pos) (RE X.K (fIf f u v)):=
 AD (RV hc ha hb) λσ H Q z9=>by
  obtain ⟨Oo,c,t,fi,r,t',eq,k⟩:=z9;obtain ⟨kb,t1,e1,eq⟩:=Af eq;refine ⟨Oo,c,t,fi,kb,t1,e1,λH1 c1 f1 s1=>?_⟩
  cases kb with
  | false=>rw [if_neg ue3] at eq ⊢;exact ⟨Oo,c1,t1,f1,r,t',eq,λy H2 c2 f2 s2 ry=>k y H2 c2 f2 (s1.trans s2) ry⟩
  | true=>rw [if_pos rfl] at eq ⊢;exact ⟨Oo,c1,t1,f1,r,t',eq,λy H2 c2 f2 s2 ry=>k y H2 c2 f2 (s1.trans s2) ry⟩
end
variable {n:Nat}{p:Pos}
section
variable {X:Cx}{e a b:Expr}{es:List Expr}{pos:Pos}
def Ad:M (List D):=ret []
def Ab (f:M D)(g:M (List D)):M (List D):=bnd f λd=>bnd g λds=>ret (d :: ds)
theorem VX:PA X [] (RA X.K Ad):=Oy WT λσ H Q z9=>by
 obtain ⟨Oo,c,t,fi,r,t',eq,k⟩:=z9
 cases eq
 exact k [] H c fi .refl .nil
theorem Tx {g:M (List D)}(ha:PE X e (RE X.K f))(hr:PA X es (RA X.K g))(hs:starEach (e :: es) X.env=(false,eval e X.env) :: starEach es X.env:=by rfl):PA X (e :: es) (RA X.K (Ab f g)):=
 Oy (Uq ha hr hs) λσ H Q z9=>by
  obtain ⟨Oo,c,t,fi,r,t',eq,k⟩:=z9;obtain ⟨d,t1,e1,eq⟩:=Af eq;obtain ⟨ds,t2,e2,eq⟩:=Af eq
  cases eq
  exact ⟨Oo,c,t,fi,d,t1,e1,λx H1 c1 f1 s1 rx=>⟨Oo,c1,t1,f1,ds,_,e2,λxs H2 c2 f2 s2 rxs=>k _ H2 c2 f2 (s1.trans s2) (.cons (rx.mono s2.ext) rxs)⟩⟩
def lim {α:Type}(n:Nat)(a:α):M α:=λt=>if n<=LIM then some (a,t) else none
theorem En {α:Type}{a:α}{z:α×T}(h:lim n a t=some z):n<=LIM/\z=(a,t):=by
 unfold lim at h
 split at h
 ·next h1=>cases h;exact ⟨h1,rfl⟩
 ·cases h
def AX (f:M (List D)):M D:=bnd f λds=>lim ds.length (.tup ds)
theorem OU {x1:Nat}{f:M (List D)}(h:PA X es (RA X.K f)):PE X (.Tuple es x1 pos) (RE X.K (AX f)):=
 AD (W2 h) λσ H Q z9=>by
  obtain ⟨Oo,c,t,fi,r,t',eq,k⟩:=z9;obtain ⟨ds,t1,e1,eq⟩:=Af eq;obtain ⟨hl,z⟩:=En eq
  cases z
  refine ⟨Oo,c,t,fi,ds,_,e1,λxs H1 c1 f1 s1 rxs=>⟨by rw [rxs.length];exact ul1 hl C9,λp hp=>?_⟩⟩;exact k _ _ c1 (f1.laid hp) (s1.trans (f1.stp_laid hp)) (.tup Ak (f1.s.free hp) (rxs.mono (Ext.laid f1.s hp)))
def AB (f:M (List D)):M (List D):=bnd f λds=>lim ds.length ds
theorem V8 {f:M (List D)}(h:PA X es (RA X.K f)):PE X (.List es pos) (RF X.K (AB f)):=
 AD (WY h) λσ H Q z9=>by
  obtain ⟨Oo,c,t,fi,r,t',eq,k⟩:=z9;obtain ⟨ds,t1,e1,eq⟩:=Af eq;obtain ⟨hl,z⟩:=En eq
  cases z
  exact ⟨Oo,c,t,fi,_,_,e1,λxs H1 c1 f1 s1 rxs=>⟨by rw [rxs.length];exact ul1 hl C9,λp hp=>k p xs H1 c1 f1 s1 rxs hp⟩⟩
def Aq (f:M (List D)):M D:=bnd f λds=>ret (.lst ds)
theorem TD {f:M (List D)}(h:PE X e (RF X.K f)):PE X e (RE X.K (Aq f)):=
 AD h λσ H Q z9=>by
  obtain ⟨Oo,c,t,fi,r,t',eq,k⟩:=z9;obtain ⟨ds,t1,e1,eq⟩:=Af eq
  cases eq
  exact ⟨Oo,c,t,fi,ds,_,e1,λp xs H1 c1 f1 s1 rxs hp=>k _ _ c1 (f1.laid hp) (s1.trans (f1.stp_laid hp)) (.lst Ak (f1.s.free hp) (rxs.mono (Ext.laid f1.s hp)))⟩
noncomputable def NU (o:Ob):M D:=λt=>some (.obj t.S.length,{ t with S:=t.S++[o] })
def Gc (f:M (List D)):M D:=bnd f λds=>NU (.lst ds)
theorem V4 {f:M (List D)}(h:PE X e (RF X.K f)):PE X e (RE X.K (Gc f)):=
 AD h λσ H Q z9=>by
  obtain ⟨Oo,c,t,fi,r,t',eq,k⟩:=z9;obtain ⟨ds,t1,e1,eq⟩:=Af eq
  cases eq
  refine ⟨Oo,c,t,fi,ds,_,e1,λp xs H1 c1 f1 s1 rxs hp=>?_⟩;obtain ⟨c2,f2,s2,e2⟩:=f1.newObj (o:=.lst ds) (u:=.lst xs) hp λc' H' ex hu=>⟨xs,hu,rxs.mono ex⟩;exact k _ _ c2 f2 (s1.trans s2) (.obj e2)
abbrev Fn:=List D->List Ob->Option (D×List Ob)
inductive spF (K:PySem.W.Frag)(f:Fn)(vs:List V)(H:Hp)(Q:VK)(E:XK):Prop where
 | mk (c:Cf) (ds:List D) (S:List Ob) (si:SInv K c S H) (rs:Reps K c H vs ds) (r:D) (S':List Ob) (e:f ds S=some (r,S')) (k:∀v H' c',SInv K c' S' H'->Stp c.O c H c' H'->(∀b,c'.O b↔c.O b)->Rep K c' H' v r->Q v H'):spF K f vs H Q E
def Ai (g:Fn)(f:M (List D)):M D:=bnd f λds t=>match g ds t.S with
 | some (r,S')=>some (r,{ t with S:=S' })
 | none=>none
theorem FB {g:Fn}{ds:List D}{r:D}{t':T}(h:(match g ds t.S with | some (r,S')=>some (r,{ t with S:=S' }) | none=>none:Option (D×T))=some (r,t')):∃S',g ds t.S=some (r,S')/\t' = { t with S:=S' }:=by
 cases e:g ds t.S with
 | none=>rw [e] at h;cases h
 | some p=>obtain ⟨r',S'⟩:=p;rw [e] at h;cases h;exact ⟨S',rfl,rfl⟩
theorem Ty {k:Nat}{fa:Addr}{fd:FuncData}{ps:List Str}{g:Fn}{f:M (List D)}{x:Str}(F:FnOk X.prog X.w X.K X.mg X.base CX0 k fa fd ps (spF X.K g))(hr:Room k X.A)(hg:Gl X x)(hm:X.mg x=some (.ref fa))(hk:PySem.W.keepIn X.K (.ref fa)=true)(hb:Binds X.K fd ps [])
 (ha:PA X (e :: es) (RA X.K f)) (hdb:(x == ("__debug__" : Str))=false:=by decide) (he:starEach (e :: es) X.env=(false,eval e X.env) :: starEach es X.env:=by rfl) (hpl:(backTo pos (starEach es X.env)).any (·.1)=false:=by rfl) :
 PE X (.Call (.Name x p) (e :: es) [] pos) (RE X.K (Ai g f)):=
 AD (M4 F hr hg hm hk hb .nil HB ha hdb he hpl) λσ H Q z9=>by
  obtain ⟨Oo,c,t,fi,r,t',eq,kk⟩:=z9;obtain ⟨ds,t1,e1,eq⟩:=Af eq;obtain ⟨S',e2,rfl⟩:=FB eq;refine ⟨Oo,c,t,fi,ds,t1,e1,λvs H1 c1 f1 s1 rvs=>?_⟩;show spF X.K g (vs++[]) H1 Q E0;rw [ui1];refine ⟨c1,ds,t1.S,f1.s,rvs,r,S',e2,λv H' c' si st ho rv=>?_⟩;obtain ⟨f2,s2⟩:=f1.after si st ho;exact kk v H' c' f2 (s1.trans s2) rv
def fB (f:M (List D))(h:List D->M D):M D:=bnd f h
theorem RE.callB {f:M (List D)}{h:List D->M D}{R:List V->Hp->VK->Prop}(s:E7 K R h){σ:L2.St}{H:Hp}{Q:VK}(q:RE K (fB f h) σ H Q):tCB R (RA K f) σ H Q:=by
 obtain ⟨Oo,c,t,fi,r,t',eq,k⟩:=q;obtain ⟨ds,t1,e1,eq⟩:=Af eq;exact ⟨Oo,c,t,fi,ds,t1,e1,λxs H1 c1 f1 s1 rxs=>s f1 rxs eq λv H' c' f' s' rv=>k v H' c' f' (s1.trans s') rv⟩
def fBF (f:M (List D))(h:List D->M (List D)):M (List D):=bnd f h
theorem RF.callB {f:M (List D)}{h:List D->M (List D)}{R:List V->Hp->VK->Prop}(s:IB K R h){σ:L2.St}{H:Hp}{Q:VK}(q:RF K (fBF f h) σ H Q):tCB R (RA K f) σ H Q:=by
 obtain ⟨Oo,c,t,fi,r,t',eq,k⟩:=q;obtain ⟨ds,t1,e1,eq⟩:=Af eq;exact ⟨Oo,c,t,fi,ds,t1,e1,λxs H1 c1 f1 s1 rxs=>s f1 rxs eq λp vs H' c' f' s' rv hp=>k p vs H' c' f' (s1.trans s') rv hp⟩
theorem RF.two {h:D->D->M (List D)}(s:Nu K R h){σ:L2.St}{H:Hp}{Q:VK}(q:RF K (bnd f λx=>bnd g λy=>h x y) σ H Q):tOp R (RE K f) (RE K g) σ H Q:=by
 obtain ⟨Oo,c,t,fi,r,t',eq,k⟩:=q;obtain ⟨dx,t1,e1,eq⟩:=Af eq;obtain ⟨dy,t2,e2,eq⟩:=Af eq;exact ⟨Oo,c,t,fi,dx,t1,e1,λx H1 c1 f1 s1 rx=>⟨Oo,c1,t1,f1,dy,t2,e2,λy H2 c2 f2 s2 ry=>s f2 (rx.mono s2.ext) ry eq λp vs H' c' f' s' rv hp=>k p vs H' c' f' ((s1.trans s2).trans s') rv hp⟩⟩
end
variable {μ:Cf->Hp->D->(V->Hp->Prop)->Prop}
section
variable {X:Cx}{e a b:Expr}{pos:Pos}{st:Stmt}{sts:List Stmt}
noncomputable def Ae (f g:M Out):M Out:=λt=>match f t with
 | some (.next,t1)=>g t1
 | z=>z
def Ap:M Out:=ret .next
theorem TX:PSs X [] (RSg X.K μ Ap):=MI UH λE σ H z9=>by
 obtain ⟨Oo,c,t,fi,o,t',eq,k⟩:=z9
 cases eq
 exact k σ H c fi .refl
theorem Q5 {μ:Cf->Hp->D->(V->Hp->Prop)->Prop}{f g:M Out}(h1:PS X st (RSg X.K μ f))(h2:PSs X sts (RSg X.K μ g)):PSs X (st :: sts) (RSg X.K μ (Ae f g)):=
 MI (Iu h1 h2) λE σ H z9=>by
  obtain ⟨Oo,c,t,fi,o,t',eq,k⟩:=z9;unfold Ae at eq
  cases e1:f t with
  | none=>rw [e1] at eq;cases eq
  | some p=>
    obtain ⟨o1,t1⟩:=p;rw [e1] at eq;refine ⟨Oo,c,t,fi,o1,t1,e1,λσ1 H1 c1 f1 s1=>?_⟩
    cases o1 with
    | next=>exact ⟨Oo,c1,t1,f1,o,t',eq,λσ2 H2 c2 f2 s2=>k σ2 H2 c2 f2 (s1.trans s2)⟩
    | brk=>cases eq;exact k σ1 H1 c1 f1 s1
    | cont=>cases eq;exact k σ1 H1 c1 f1 s1
    | ret d=>cases eq;exact k σ1 H1 c1 f1 s1
theorem JM {μ:Cf->Hp->D->(V->Hp->Prop)->Prop}{f:M Out}(h1:PS X st (RSg X.K μ f)):PSs X [st] (RSg X.K μ f):=FW h1
def Am (f:M D):M Out:=bnd f λd=>ret (.ret d)
theorem O6 (h:PE X e (RE X.K f)):PS X (.Return (some e) pos) (RS X.K (Am f)):=
 A9 (Ha h) λE σ H z9=>by
  obtain ⟨Oo,c,t,fi,o,t',eq,k⟩:=z9;obtain ⟨d,t1,e1,eq⟩:=Af eq
  cases eq
  exact ⟨Oo,c,t,fi,d,_,e1,λv H1 c1 f1 s1 rv=>k σ H1 c1 f1 s1 v rv⟩
theorem MT:PS X (.Pass pos) (RSg X.K μ Ap):=A9 UG λE σ H z9=>by
 obtain ⟨Oo,c,t,fi,o,t',eq,k⟩:=z9
 cases eq
 exact k σ H c fi .refl
theorem HN:PS X (.Continue pos) (RSg X.K μ (ret .cont)):=A9 MC λE σ H z9=>by
 obtain ⟨Oo,c,t,fi,o,t',eq,k⟩:=z9
 cases eq
 exact k σ H c fi .refl
theorem Q4:PS X (.Break pos) (RSg X.K μ (ret .brk)):=A9 R7 λE σ H z9=>by
 obtain ⟨Oo,c,t,fi,o,t',eq,k⟩:=z9
 cases eq
 exact k σ H c fi .refl
def B2 (f:M D):M Out:=bnd f λ_=>ret .next
theorem MS (h:PE X e (RE X.K f))(hs:swapsWith e none pos.line X.env=pure false:=by rfl):PS X (.Expr e pos) (RSg X.K μ (B2 f)):=
 A9 (JT h hs) λE σ H z9=>by
  obtain ⟨Oo,c,t,fi,o,t',eq,k⟩:=z9;obtain ⟨d,t1,e1,eq⟩:=Af eq
  cases eq
  exact ⟨Oo,c,t,fi,d,_,e1,λv H1 c1 f1 s1 rv=>k σ H1 c1 f1 s1⟩
def ifS (f:M Bool)(g h:M Out):M Out:=bnd f λk=>if k=true then g else h
theorem Yj {f:M Bool}{g h:M Out}{sa sb:List Stmt}(hc:PT X e (RT X.K f))(ha:PSs X sa (RSg X.K μ g))(hb:PSs X sb (RSg X.K μ h)):PS X (.If e sa sb pos) (RSg X.K μ (ifS f g h)):=
 A9 (YA hc ha hb) λE σ H z9=>by
  obtain ⟨Oo,c,t,fi,o,t',eq,k⟩:=z9;obtain ⟨kb,t1,e1,eq⟩:=Af eq;refine ⟨Oo,c,t,fi,kb,t1,e1,λH1 c1 f1 s1=>?_⟩
  cases kb with
  | true=>rw [if_pos rfl] at eq ⊢;exact ⟨Oo,c1,t1,f1,o,t',eq,λσ2 H2 c2 f2 s2=>k σ2 H2 c2 f2 (s1.trans s2)⟩
  | false=>rw [if_neg ue3] at eq ⊢;exact ⟨Oo,c1,t1,f1,o,t',eq,λσ2 H2 c2 f2 s2=>k σ2 H2 c2 f2 (s1.trans s2)⟩
noncomputable def Ay (i:Nat)(d:D):M Unit:=λt=>some ((),{ t with env:=t.env.set i (some (.val d)) })
def As (i:Nat)(f:M D):M Out:=bnd f λd=>bnd (Ay i d) λ_=>ret .next
theorem RS.set {μ:Cf->Hp->D->(V->Hp->Prop)->Prop}{K:PySem.W.Frag}{i:Nat}{f:M D}{E:Ends}{σ:L2.St}{H:Hp}(q:RSg K μ (As i f) E σ H):Oe (RE K f) (KY i) E σ H:=by
 obtain ⟨Oo,c,t,fi,o,t',eq,k⟩:=q;obtain ⟨d,t1,e1,eq⟩:=Af eq
 cases eq
 exact ⟨Oo,c,t,fi,d,t1,e1,λv H1 c1 f1 s1 rv=>k _ H1 c1 (f1.set rv) s1⟩
theorem LK {x:Str}{pos':Pos}(hN:X.N.Nodup)(hi:X.N[i]?=some x)(hx:Loc X.env.scope x)(he:PE X e (RE X.K f))(hs:swapsWith e (some (.Name x pos')) pos.line X.env=pure false:=by rfl)(hf:X.fn x=true\/X.env.scope.names.lookup x=some .local:=by walk_at "h") :
 PS X (.Assign [.Name x pos'] e pos) (RSg X.K μ (As i f)):=A9 (L6 hN hi hx he hs hf) λ_ _ _ q=>RS.set q
def DV (i:Nat)(f:M (List D)):M Out:=bnd f λds t=>some (.next,{ t with env:=t.env.set i (some (.own ds)) })
theorem RS.own {f:M (List D)}{E:Ends}(q:RSg K μ (DV i f) E σ H):Oe (RF K f) (KY i) E σ H:=by
 obtain ⟨Oo,c,t,fi,o,t',eq,k⟩:=q;obtain ⟨ds,t1,e1,eq⟩:=Af eq
 cases eq
 refine ⟨Oo,c,t,fi,ds,t1,e1,λp vs H1 c1 f1 s1 rv hp=>?_⟩;obtain ⟨c2,f2,s2⟩:=f1.setOwn (i:=i) hp rv;exact k _ _ c2 f2 (s1.trans s2)
theorem Wg {x:Str}{f:M (List D)}{pos':Pos}(hN:X.N.Nodup)(hi:X.N[i]?=some x)(hx:Loc X.env.scope x)(he:PE X e (RF X.K f))(hs:swapsWith e (some (.Name x pos')) pos.line X.env=pure false:=by rfl)(hf:X.fn x=true\/X.env.scope.names.lookup x=some .local:=by walk_at "h") :
 PS X (.Assign [.Name x pos'] e pos) (RSg X.K μ (DV i f)):=A9 (L6 hN hi hx he hs hf) λ_ _ _ q=>RS.own q
theorem DZ {x:Str}(hN:X.N.Nodup)(hi:X.N[i]?=some x)(hx:Loc X.env.scope x)(hf:X.fn x=true\/X.env.scope.names.lookup x=some .local:=by walk_at "h"):PG X (.Name x pos) (RG X.K (Ay i)):=
 Ld (Ux hN hi hx hf) λv σ H Q z9=>by
  obtain ⟨Oo,c,t,d,fi,rv,t',eq,k⟩:=z9
  cases eq
  exact k _ H c (fi.set rv) .refl
def BD (f:M D)(g:D->M Unit):M Out:=bnd f λd=>bnd (g d) λ_=>ret .next
theorem Wd {g:D->M Unit}(he:PE X e (RE X.K f))(hg:PG X tg (RG X.K g))(hs:swapsWithSole [tg] e pos.line X.env=pure false:=by rfl)(hw:swappedStores [tg] e X.env=pure none:=by rfl)(hp:(assignEach [tg] X.env).map (·.2)=[assign tg X.env]:=by rfl) :
 PS X (.Assign [tg] e pos) (RSg X.K μ (BD f g)):=
 A9 (by first | exact PY he hg hs hw | exact PY he hg hs hw hp) λE σ H z9=>by
  obtain ⟨Oo,c,t,fi,o,t',eq,k⟩:=z9;obtain ⟨d,t1,e1,eq⟩:=Af eq;obtain ⟨u,t2,e2,eq⟩:=Af eq
  cases eq
  exact ⟨Oo,c,t,fi,d,t1,e1,λv H1 c1 f1 s1 rv=>⟨Oo,c1,t1,d,f1,rv,_,e2,λσ2 H2 c2 f2 s2=>k σ2 H2 c2 f2 (s1.trans s2)⟩⟩
inductive RGs (K:PySem.W.Frag)(f:List D->M Unit)(vs:List V)(σ:L2.St)(H:Hp)(Q:L2.St->Hp->Prop):Prop where
 | mk (Oo:Addr->Prop) (c:Cf) (t:T) (ds:List D) (fi:FInv K Oo c t σ H) (r:Reps K c H vs ds) (t':T) (e:f ds t=some ((),t')) (k:∀σ' H' c',FInv K Oo c' t' σ' H'->Stp Oo c H c' H'->Q σ' H'):RGs K f vs σ H Q
theorem MH {ts:List Expr}{t t':TGs}(h:PGs X ts t)(i:∀v σ H Q,t' v σ H Q->t v σ H Q):PGs X ts t':=λpins s σ H vs us Q I r q=>h pins s σ H vs us Q I r (i vs σ H Q q)
def BY:List D->M Unit
 | []=>ret ()
 | _=>fail
def AF (f:D->M Unit)(g:List D->M Unit):List D->M Unit
 | d :: ds=>bnd (f d) λ_=>g ds
 | []=>fail
theorem TF:PGs X [] (RGs X.K BY):=MH Uy λvs σ H Q z9=>by
 obtain ⟨Oo,c,t,ds,fi,rv,t',eq,k⟩:=z9
 cases rv with
 | nil=>cases eq;exact ⟨rfl,k σ H c fi .refl⟩
 | cons _ _=>cases eq
theorem RGs.cons {K:PySem.W.Frag}{f:D->M Unit}{g:List D->M Unit}{vs:List V}{σ:L2.St}{H:Hp}{Q:L2.St->Hp->Prop}(q:RGs K (AF f g) vs σ H Q):S7 (RG K f) (RGs K g) vs σ H Q:=by
 obtain ⟨Oo,c,t,ds,fi,rv,t',eq,k⟩:=q
 cases rv with
 | nil=>cases eq
 | cons r rs=>
   obtain ⟨u,t1,e1,eq⟩:=Af eq;exact ⟨_,_,rfl,Oo,c,t,_,fi,r,t1,e1,λσ1 H1 c1 f1 s1=>⟨Oo,c1,t1,_,f1,rs.mono s1.ext,t',eq,λσ2 H2 c2 f2 s2=>k σ2 H2 c2 f2 (s1.trans s2)⟩⟩
def unT (n:Nat)(g:List D->M Unit):D->M Unit
 | .tup ds=>if ds.length=n then g ds else fail
 | _=>fail
def CG (st:D->M Unit)(b:M Out):List D->M Out
 | []=>ret .next
 | d :: r=>λt=>match st d t with
   | none=>none
   | some (_,t1)=>match b t1 with
     | some (.next,t2)=>CG st b r t2
     | some (.cont,t2)=>CG st b r t2
     | some (.brk,t2)=>some (.next,t2)
     | some (.ret x,t2)=>some (.ret x,t2)
     | none=>none
def BV (f:M (List D))(st:D->M Unit)(b:M Out):M Out:=bnd f λds=>CG st b ds
theorem RS.for {f:M (List D)}{g:D->M Unit}{b:M Out}{E:Ends}(q:RSg K μ (BV f g b) E σ H):Sx (RI K f) (RG K g) (RSg K μ b) E σ H:=by
 obtain ⟨Oo,c,t,fi,o,t',eq,k⟩:=q;obtain ⟨ds,t1,e1,eq⟩:=Af eq;refine ⟨Oo,c,t,fi,ds,t1,e1,λJ H1 c1 f1 s1 it=>?_⟩;refine ⟨λi m σ' H'=>m=ds.length - i/\i<=ds.length/\∃c' t2,FInv K Oo c' t2 σ' H'/\Stp Oo c1 H1 c' H'/\CG g b (ds.drop i) t2=some (o,t'),⟨_,rfl,um0 _,c1,t1,f1,.refl,by rw [uj5];exact eq⟩,?_⟩;rintro i m σ' H' ⟨rfl,hi,c',t2,f2,s2,e2⟩
 by_cases hlt:i < ds.length
 ·refine .inr ⟨it.go c' H' i s2.ext hlt,λσ3 H3=>∃c3 t3,FInv K Oo c3 t3 σ3 H3/\Stp Oo c1 H1 c3 H3/\CG g b (ds.drop (i + 1)) t3=some (o,t'),λσ3 H3 h=>⟨ds.length - (i + 1),by lia,rfl,hlt,h⟩,λx H'' hy=>?_⟩;obtain ⟨rfl,rx⟩:=it.yld c' H' i x H'' _ s2.ext (ub3 hlt) hy;rw [ub1 hlt] at e2;unfold CG at e2
  cases e3:g ds[i] t2 with
  | none=>rw [e3] at e2;cases e2
  | some p=>
    obtain ⟨u,t3⟩:=p;rw [e3] at e2
    try dsimp only at e2
    refine ⟨Oo,c',t2,_,f2,rx,t3,e3,λσ3 H3 c3 f3 s3=>?_⟩
    cases e4:b t3 with
    | none=>rw [e4] at e2;cases e2
    | some p=>
      obtain ⟨o4,t4⟩:=p;rw [e4] at e2
      try dsimp only at e2
      refine ⟨Oo,c3,t3,f3,o4,t4,e4,λσ5 H5 c5 f5 s5=>?_⟩;have s':=(s2.trans s3).trans s5
      cases o4 with
      | next=>exact ⟨c5,t4,f5,s',e2⟩
      | cont=>exact ⟨c5,t4,f5,s',e2⟩
      | brk=>cases e2;exact k σ5 H5 c5 f5 (s1.trans s')
      | ret r=>cases e2;exact k σ5 H5 c5 f5 (s1.trans s')
 ·have hi':i=ds.length:=by lia
  subst hi';rw [ug9] at e2
  cases e2
  exact .inl ⟨it.stop c' H' s2.ext,k σ' H' c' f2 (s1.trans s2)⟩
theorem O2 {iter:Expr}{body:List Stmt}{f:M (List D)}{g:D->M Unit}{b:M Out}(hp:PassesOwn (model X.prog X.w) X.A X.env X.xe)(hc:X.calm=true)(hi:PI X tg iter (RI X.K f))(hg:PG X tg (RG X.K g))(hb:PSs X body (RSg X.K μ b))
 (hs:∀x,foldedSetIterable iter X.env x=pure x:=by intro _;rfl):PS X (.For tg iter body [] pos) (RSg X.K μ (BV f g b)):=
 A9 (PZ hp hc hi hg hb hs) λ_ _ _ q=>RS.for q
theorem ItOk.lst {K:PySem.W.Frag}{c:Cf}{H:Hp}{p:Addr}{ds:List D}(r:∀c' H',Ext c H c' H'->∃vs,SqL K H' p vs/\Reps K c' H' vs ds):ItOk K (Itl K p) c H ds:=by
 refine ⟨λc' H' i ex hi=>?_,λc' H' i x H'' d ex hd hy=>?_,λc' H' ex=>?_⟩
 ·obtain ⟨vs,h1,h2⟩:=r c' H' ex;obtain ⟨v,e,_⟩:=h2.at (ub3 hi);exact ⟨vs,v,h1,e⟩
 ·obtain ⟨vs,h1,h2⟩:=r c' H' ex;obtain ⟨rfl,h⟩:=hy;exact ⟨rfl,h2.get (h vs h1) hd⟩
 ·obtain ⟨vs,h1,h2⟩:=r c' H' ex;exact ⟨vs,h1,by rw [h2.length];exact ul9 _⟩
theorem ItOk.tup {K:PySem.W.Frag}{c:Cf}{H:Hp}{p:Addr}{ds:List D}(r:∀c' H',Ext c H c' H'->∃vs,SqT K H' p vs/\Reps K c' H' vs ds):ItOk K (Itt K p) c H ds:=by
 refine ⟨λc' H' i ex hi=>?_,λc' H' i x H'' d ex hd hy=>?_,λc' H' ex=>?_⟩
 ·obtain ⟨vs,h1,h2⟩:=r c' H' ex;obtain ⟨v,e,_⟩:=h2.at (ub3 hi);exact ⟨vs,v,h1,e⟩
 ·obtain ⟨vs,h1,h2⟩:=r c' H' ex;obtain ⟨rfl,h⟩:=hy;exact ⟨rfl,h2.get (h vs h1) hd⟩
 ·obtain ⟨vs,h1,h2⟩:=r c' H' ex;exact ⟨vs,h1,by rw [h2.length];exact ul9 _⟩
end
theorem FInv.leave {Oo:Addr->Prop}(f:FInv K Oo c t σ H):SInv K ⟨c.ι,Oo⟩ t.S H/\Ext c H ⟨c.ι,Oo⟩ H:=by
 have ext:Ext c H ⟨c.ι,Oo⟩ H:=⟨λ_ _ e _=>e,λb o _ z=>z.elim .inl λw=>.inr (f.sub b w),λ_ _ e=>e⟩;exact ⟨⟨f.s.len,f.s.nd,λk a o e1 e2=>(f.s.obs k a o e1 e2).mono ext rfl,λb z=>f.s.trk b (f.sub b z),λb z=>f.s.dis b (f.sub b z)⟩,ext⟩
noncomputable def env0 (m:Nat)(ds:List D):List (Option Sl):=ds.map (λd=>some (.val d))++List.replicate (m - ds.length) none
def fnOf (n m:Nat)(g:M Out):Fn:=λds S=>if ds.length=n then (match g ⟨env0 m ds,S⟩ with
 | some (.ret r,t)=>some (r,t.S)
 | some (.next,t)=>some (.non,t.S)
 | _=>none) else none
theorem Ge {ds:List D}{N:List Str}(s:SInv K c S H)(r:Reps K c H vs ds):FInv K c.O c ⟨env0 N.length ds,S⟩ (L2.Cp N vs) H:=by
 have hlen:vs.length=ds.length:=r.length;have none_:∀{i:Nat} {x:Sl},(env0 N.length ds)[i]?=some (some x)->∃d,ds[i]?=some d/\x = .val d:=λ{i x} q=>by
  unfold env0 at q
  by_cases hi:i < ds.length
  ·rw [ub0 (by simpa using hi),uf3,ub3 hi] at q;simp at q;exact ⟨ds[i],ub3 hi,q.symm⟩
  ·rw [ua5 (by simpa using hi),ub5] at q
   split at q <;> simp at q
 refine ⟨s,by simp [env0,L2.Cp,hlen],λ_ z=>z,λi d q=>?_,λi es q=>?_,λi j es _ a q _ _ _=>?_⟩
 ·obtain ⟨d',h1,h2⟩:=none_ q
  cases h2
  obtain ⟨v,h3,h4⟩:=r.at h1;refine ⟨v,?_,h4⟩;unfold L2.Cp;have hi:=(ua9.mp h3).1;rw [ub0 (by simpa using hi),uf3,h3];rfl
 ·obtain ⟨_,_,h2⟩:=none_ q;cases h2
 ·obtain ⟨_,_,h2⟩:=none_ q;cases h2
theorem Yi {P:Program}{w:World}{mg:Str->Option Value}{base:Heap}{x qual:Str}{st:Stmt}{fa:Addr}{fd:FuncData}{N ps:List Str}{k:Nat}{g:M Out}(F:Fun K x qual st fa fd)(S:FnScope N ps (Al st))
 (hb:∀(cdv:Value) (A:Around) (outer:List Env) (s:Shared) (H:Hp) (E:XK),Room k (A.deeper (PyProof.Rows.envOfC qual (Al st) s.heap.objs.size fa cdv))->
   PSs (Db CX0 P w K mg base N qual (Al st) fa cdv A outer s H E).nox (A8 st) (RS K g)):FnOk P w K mg base CX0 (k + 1) fa fd ps (spF K (fnOf ps.length N.length g)):=by
 have hlen:∀{ds:List D} {S:List Ob} {z:D×List Ob},fnOf ps.length N.length g ds S=some z->ds.length=ps.length:=λ{ds S z} h=>by
  unfold fnOf at h
  split at h
  ·next h1=>exact h1
  ·cases h
 refine F.ok S (λvs H Q E h=>?_) (λcdv A outer s H vs Q E hr h=>?_)
 ·obtain ⟨c,ds,S,si,rs,r,S',e,_⟩:=h;rw [rs.length];exact hlen e
 obtain ⟨c,ds,S0,si,rs,r,S',e,kk⟩:=h;refine ⟨RS K g,hb cdv A outer s H E hr,?_⟩;have hl:=hlen e;unfold fnOf at e;rw [if_pos hl] at e
 cases eg:g ⟨env0 N.length ds,S0⟩ with
 | none=>rw [eg] at e;cases e
 | some p=>
   obtain ⟨o,t⟩:=p;rw [eg] at e;refine ⟨c.O,c,_,Ge si rs,o,t,eg,λσ' H' c' f' s'=>?_⟩;obtain ⟨si',ext'⟩:=f'.leave;have st':Stp c.O c H ⟨c'.ι,c.O⟩ H':=⟨s'.ext.trans ext',s'.oo⟩
   cases o with
   | next=>cases e;exact kk .non H' _ si' st' (λ_=>Iff.rfl) .non
   | ret d=>cases e;exact λv rv=>kk v H' _ si' st' (λ_=>Iff.rfl) (rv.mono ext')
   | brk=>cases e
   | cont=>cases e
variable {fr:List Nat}
section
variable {X:Cx}{e a b:Expr}{pos:Pos}
def items:D->M (List D)
 | .lst ds=>ret ds
 | .tup ds=>ret ds
 | .scr ns=>ret (ns.map .int)
 | _=>fail
noncomputable def A7 (lo:Int)(n:Nat):List D:=(List.range n).map λi=>.int (lo + (i:Nat))
theorem ItOk.rng {lo:Int}:ItOk K (Itr lo n) c H (A7 lo n):=by
 refine ⟨λc' H' i ex hi=>?_,λc' H' i x H'' d ex hd hy=>?_,λc' H' ex=>?_⟩
 ·have:i < n:=by simpa [A7] using hi
  exact this
 ·obtain ⟨rfl,rfl⟩:=hy;refine ⟨rfl,?_⟩;have hi:i < n:=by
   have:=(ua9.mp hd).1;simpa [A7] using this
  have:d = .int (lo + (i:Nat)):=by
   rw [A7,uf3,List.getElem?_range hi] at hd;simpa using hd.symm
  rw [this];exact .int _
 ·show n<=(A7 lo n).length;simp [A7]
noncomputable def Cg (i:Int):Bool:=decide (-(2 ^ 62)<=i) && decide (i < 2 ^ 62)
def JW:List D->M (List D)
 | [.int j]=>λt=>if Cg j=true then some (A7 0 j.toNat,t) else none
 | _=>fail
def JX:List D->M (List D)
 | [.int i,.int j]=>λt=>if (Cg i && Cg j)=true then some (A7 i (j - i).toNat,t) else none
 | _=>fail
def CA (f:M (List D)):M (List D):=bnd f JW
def FD (f:M (List D)):M (List D):=bnd f JX
theorem FE {i:Int}(h:Cg i=true) : -(2 ^ 62)<=i/\i < 2 ^ 62:=by
 unfold Cg at h;rw [uh0] at h;exact ⟨ug2 h.1,ug2 h.2⟩
theorem OX {f:M (List D)}(hg:Gl X "range")(hm:X.mg "range" = none)(ha:PA X [a] (RA X.K f))(hs:starEach [a] X.env=[(false,eval a X.env)]:=by rfl):PI X tg (.Call (.Name "range" p) [a] [] pos) (RI X.K (CA f)):=
 Iy (PU hg hm ha hs) λσ H R z9=>by
  obtain ⟨Oo,c,t,fi,ds,t',eq,k⟩:=z9;obtain ⟨xs,t1,e1,eq⟩:=Af eq;refine ⟨Oo,c,t,fi,xs,t1,e1,λvs H1 c1 f1 s1 rv=>?_⟩;unfold JW at eq
  split at eq
  ·next j=>
   split at eq
   ·next hs=>
    cases eq
    cases rv with
    | cons r rs=>
      cases rs
      cases r
      obtain ⟨h1,h2⟩:=FE hs;exact ⟨j,rfl,h1,h2,k _ H1 c1 f1 s1 ItOk.rng⟩
   ·cases eq
  ·cases eq
theorem OY {f:M (List D)}(hg:Gl X "range")(hm:X.mg "range" = none)(ha:PA X [a,b] (RA X.K f))(hs:starEach [a,b] X.env=[(false,eval a X.env),(false,eval b X.env)]:=by rfl)(hs2:starEach [b] X.env=[(false,eval b X.env)]:=by rfl):PI X tg (.Call (.Name "range" p) [a,b] [] pos) (RI X.K (FD f)):=
 Iy (PV hg hm ha hs hs2) λσ H R z9=>by
  obtain ⟨Oo,c,t,fi,ds,t',eq,k⟩:=z9;obtain ⟨xs,t1,e1,eq⟩:=Af eq;refine ⟨Oo,c,t,fi,xs,t1,e1,λvs H1 c1 f1 s1 rv=>?_⟩;unfold JX at eq
  split at eq
  ·next i j=>
   split at eq
   ·next hs=>
    cases eq
    rw [uh0] at hs
    cases rv with
    | cons r rs=>
      cases r
      cases rs with
      | cons r rs=>
        cases rs
        cases r
        obtain ⟨h1,h2⟩:=FE hs.1;obtain ⟨h3,h4⟩:=FE hs.2;exact ⟨i,j,rfl,⟨h1,h2,h3,h4⟩,k _ H1 c1 f1 s1 ItOk.rng⟩
   ·cases eq
  ·cases eq
def B7 (st:D->M Unit)(tst:M Bool)(elt:M D):List D->M (List D)
 | []=>ret []
 | d :: r=>bnd (st d) λ_=>bnd tst λk=>if k=true then bnd elt λx=>bnd (B7 st tst elt r) λxs=>ret (x :: xs) else B7 st tst elt r
noncomputable def YQ:Option (Option Sl)->Option Sl
 | some (some (.val d))=>some (.val d)
 | _=>none
def cenv (n:Nat)(fr:List Nat)(env:List (Option Sl)):List (Option Sl):=List.replicate n none++fr.map λi=>YQ env[i]?
noncomputable def FJ (n:Nat)(fr:List Nat)(σ:L2.St):L2.St:=List.replicate n none++fr.map λi=>(σ[i]?).join
def Cz (n:Nat)(fr:List Nat)(f:M (List D))(st:D->M Unit)(tst:M Bool)(elt:M D):M (List D):=bnd f λds t=>match B7 st tst elt ds ⟨cenv n fr t.env,t.S⟩ with
 | some (xs,t')=>if xs.length<=LIM then some (xs,{ t with S:=t'.S }) else none
 | none=>none
theorem Ic {env:List (Option Sl)}{x:Sl}(h:(cenv n fr env)[j]?=some (some x)):∃i d,n<=j/\fr[j - n]?=some i/\env[i]?=some (some (.val d))/\x = .val d:=by
 unfold cenv at h
 by_cases hj:j < n
 ·rw [ub0 (by simpa using hj),ub5] at h
  split at h <;> simp at h
 ·rw [ua5 (by simpa using hj),uc9,uf3] at h
  cases e:fr[j - n]? with
  | none=>rw [e] at h;simp at h
  | some i=>
    rw [e] at h;simp only [ui6,uf9] at h
    cases e2:env[i]? with
    | none=>rw [e2] at h;cases h
    | some o=>
      cases o with
      | none=>rw [e2] at h;cases h
      | some sl=>
        cases sl with
        | own _=>rw [e2] at h;cases h
        | val d=>rw [e2] at h;cases h;exact ⟨i,d,by lia,rfl,e2,rfl⟩
theorem IU {Oo:Addr->Prop}(f:FInv K Oo c t σ H):FInv K c.O c ⟨cenv n fr t.env,t.S⟩ (FJ n fr σ) H:=by
 refine ⟨f.s,by simp [cenv,FJ],λ_ z=>z,λj d q=>?_,λj es q=>?_,λj _ es _ _ q _ _ _=>?_⟩
 ·obtain ⟨i,d',h0,h1,h2,h3⟩:=Ic q
  cases h3
  obtain ⟨v,h4,h5⟩:=f.val i d h2;refine ⟨v,?_,h5⟩;unfold FJ;rw [ua5 (by simpa using h0),uc9,uf3,h1];simp [h4]
 ·obtain ⟨_,_,_,_,_,h⟩:=Ic q;cases h
 ·obtain ⟨_,_,_,_,_,h⟩:=Ic q;cases h
theorem RF.comp {f:M (List D)}{st:D->M Unit}{tst:M Bool}{elt:M D}{Q:VK}(q:RF K (Cz n fr f st tst elt) σ H Q):Of (RI K f) (RG K st) (RT K tst) (RE K elt) (FJ n fr) σ H Q:=by
 obtain ⟨Oo,c,t,fi,xs,t',eq,k⟩:=q;obtain ⟨ds,t1,e1,eq⟩:=Af eq;refine ⟨Oo,c,t,fi,ds,t1,e1,λJ H1 c1 f1 s1 it=>?_⟩
 cases e3:B7 st tst elt ds ⟨cenv n fr t1.env,t1.S⟩ with
 | none=>rw [e3] at eq;cases eq
 | some p=>
   obtain ⟨ys,t3⟩:=p;rw [e3] at eq;dsimp only at eq
   split at eq
   case isFalse=>cases eq
   next hl=>
   cases eq
   refine ⟨λi m acc σ' H'=>m=ds.length - i/\i<=ds.length/\∃c' t2 zs rest,FInv K c1.O c' t2 σ' H'/\Stp c1.O c1 H1 c' H'/\Reps K c' H' acc zs/\B7 st tst elt (ds.drop i) t2=some (rest,t3)/\xs=zs++rest,
    ⟨_,rfl,um0 _,c1,_,[],xs,IU f1,.refl,.nil,by rw [uj5];exact e3,rfl⟩,?_⟩
   rintro i m acc σ' H' ⟨rfl,hi,c',t2,zs,rest,f2,s2,ra,e2,ez⟩;have hacc:acc.length<=sizeLine:=by
    have:zs.length<=xs.length:=by rw [ez,ue6];exact uh1 _ _
    rw [ra.length];exact ul1 this (ul1 hl C9)
   refine ⟨hacc,?_⟩
   by_cases hlt:i < ds.length
   ·refine .inr ⟨it.go c' H' i s2.ext hlt,λx H'' hy=>?_⟩;obtain ⟨rfl,rx⟩:=it.yld c' H' i x H'' _ s2.ext (ub3 hlt) hy;rw [ub1 hlt] at e2;unfold B7 at e2;obtain ⟨u,t4,e4,e2⟩:=Af e2;obtain ⟨kb,t5,e5,e2⟩:=Af e2;refine ⟨c1.O,c',t2,_,f2,rx,t4,e4,λσ3 H3 c3 f3 s3=>⟨c1.O,c3,t4,f3,kb,t5,e5,λH4 c4 f4 s4=>?_⟩⟩
    cases kb with
    | false=>
      rw [if_neg ue3] at e2 ⊢;exact ⟨ds.length - (i + 1),by lia,rfl,hlt,c4,t5,zs,rest,f4,(s2.trans s3).trans s4,ra.mono (s3.trans s4).ext,e2,ez⟩
    | true=>
      rw [if_pos rfl] at e2 ⊢;obtain ⟨x6,t6,e6,e2⟩:=Af e2;obtain ⟨r7,t7,e7,e2⟩:=Af e2
      cases e2
      refine ⟨c1.O,c4,t5,f4,x6,t6,e6,λv H5 c5 f5 s5 rv=>?_⟩;exact ⟨ds.length - (i + 1),by lia,rfl,hlt,c5,t6,zs++[x6],r7,f5,((s2.trans s3).trans s4).trans s5,(ra.mono ((s3.trans s4).trans s5).ext).append (.cons rv .nil),e7,by rw [ez,uf6];rfl⟩
   ·have hi':i=ds.length:=by lia
    subst hi';rw [ug9] at e2
    cases e2
    refine .inl ⟨it.stop c' H' s2.ext,λp hp _=>?_⟩;obtain ⟨si,ext⟩:=f2.leave;obtain ⟨f6,s6⟩:=f1.after si ⟨s2.ext.trans ext,s2.oo⟩ (λ_=>Iff.rfl);rw [ui1] at ez;subst ez;exact k p acc H' _ f6 (s1.trans s6) (ra.mono ext) hp
end
end F2
namespace F2
open PySem L2 PySem.Spec PySem.SeqAt
noncomputable def eq0:D->D->Option Bool
 | .int a,.int b=>some (a == b)
 | .str a,.str b=>some (a == b)
 | .bl a,.bl b=>some (a == b)
 | .non,.non=>some true
 | .int _,.str _=>some false
 | .str _,.int _=>some false
 | _,_=>none
noncomputable def Dc (f:D->D->Option Bool):List D->List D->Option Bool
 | x :: xs,y :: ys=>match f x y,Dc f xs ys with
   | some a,some b=>some (a && b)
   | _,_=>none
 | _,_=>some true
def eqN:Nat->D->D->Option Bool
 | 0,x,y=>eq0 x y
 | n + 1,.tup xs,.tup ys=>(Dc (eqN n) xs ys).map λb=>b && xs.length == ys.length
 | n + 1,.lst xs,.lst ys=>if xs.length=ys.length then Dc (eqN n) xs ys else some false
 | _ + 1,x,y=>eq0 x y
noncomputable def ej (f:D->D->Option Bool)(xs ys:List D)(j:Nat):Bool:=match xs[j]?,ys[j]? with
 | some d,some e=>(f d e).getD true
 | _,_=>true
theorem Dd {f:D->D->Option Bool}:∀{xs ys:List D} {b:Bool},Dc f xs ys=some b->b=(List.range (min xs.length ys.length)).all (ej f xs ys)/\∀(j:Nat) d e,xs[j]?=some d->ys[j]?=some e->∃k,f d e=some k
 | [],ys,b,h=>by
   have h:some true=some b:=by simpa [Dc] using h
   cases h
   refine ⟨by simp,λj d e q _=>by simp at q⟩
 | x :: xs,[],b,h=>by
   have h:some true=some b:=by simpa [Dc] using h
   cases h
   refine ⟨by simp,λj d e _ q=>by simp at q⟩
 | x :: xs,y :: ys,b,h=>by
   unfold Dc at h
   cases e1:f x y with
   | none=>rw [e1] at h;cases h
   | some a=>
     cases e2:Dc f xs ys with
     | none=>rw [e1,e2] at h;cases h
     | some c=>
       rw [e1,e2] at h
       cases h
       obtain ⟨h1,h2⟩:=Dd e2;refine ⟨?_,λj d e q1 q2=>?_⟩
       ·have hm:min (x :: xs).length (y :: ys).length=min xs.length ys.length + 1:=by simp [Nat.succ_min_succ]
        rw [hm,List.range_succ_eq_map,uk2,List.all_map,h1];have:ej f (x :: xs) (y :: ys) 0=a:=by simp [ej,e1]
        rw [this];rfl
       ·cases j with
        | zero=>simp at q1 q2;subst q1 q2;exact ⟨a,e1⟩
        | succ j=>exact h2 j d e (by simpa using q1) (by simpa using q2)
variable {P:Program}{w:World}{H:Hp}{vs:List V}
theorem Gi {h:Heap}{a:Addr}(o:HOk P w H h)(e:H a=some (.lst vs)):∃its:List Value,Vals vs its/\h.IsList a its.toArray:=by
 obtain ⟨_,its,n,r,q⟩:=o a _ e;exact ⟨its,r,_,q,rfl,n,rfl⟩
theorem Hw {h:Heap}{a:Addr}(o:HOk P w H h)(e:H a=some (.tup vs)):∃its:List Value,Vals vs its/\h.IsTuple a its.toArray:=by
 obtain ⟨_,its,r,q⟩:=o a _ e;exact ⟨its,r,q⟩
theorem Jp {its:List Value}{j:Nat}(r:Vals vs its)(h:j < its.toArray.size):∃v,vs[j]?=some v/\RelV v its.toArray[j]:=by
 have h':j < its.length:=by simpa using h
 have hl:j < vs.length:=by rw [r.length];exact h'
 obtain ⟨u,e1,e2⟩:=r.get (ub3 hl);refine ⟨vs[j],ub3 hl,?_⟩;rw [ub3 h'] at e1
 cases e1
 simpa using e2
variable {b:Bool}
theorem ON {f:D->D->Option Bool}{xs ys:List D}(h:Dc f xs ys=some b)(ht:∀(j:Nat) d e k,xs[j]?=some d->ys[j]?=some e->f d e=some k->k=true):b=true:=by
 obtain ⟨h1,h2⟩:=Dd h;rw [h1,uh2];intro j hj;have hj':=uj1.mp hj;have l1:j < xs.length:=by lia
 have l2:j < ys.length:=by lia
 obtain ⟨k,ek⟩:=h2 j _ _ (ub3 l1) (ub3 l2);have:=ht j _ _ k (ub3 l1) (ub3 l2) ek;unfold ej;rw [ub3 l1,ub3 l2];simp [ek,this]
theorem GO {x y:D}(e:eq0 x y=some b):(∃i j,x = .int i/\y = .int j/\(i == j)=b)\/(∃i j,x = .str i/\y = .str j/\(i == j)=b)\/(∃i j,x = .bl i/\y = .bl j/\(i == j)=b)\/(x = .non/\y = .non/\true=b)\/(∃i j,x = .int i/\y = .str j/\false=b)\/(∃i j,x = .str i/\y = .int j/\false=b):=by
 unfold eq0 at e
 split at e
 ·cases e;exact .inl ⟨_,_,rfl,rfl,rfl⟩
 ·cases e;exact .inr (.inl ⟨_,_,rfl,rfl,rfl⟩)
 ·cases e;exact .inr (.inr (.inl ⟨_,_,rfl,rfl,rfl⟩))
 ·cases e;exact .inr (.inr (.inr (.inl ⟨rfl,rfl,rfl⟩)))
 ·cases e;exact .inr (.inr (.inr (.inr (.inl ⟨_,_,rfl,rfl,rfl⟩))))
 ·cases e;exact .inr (.inr (.inr (.inr (.inr ⟨_,_,rfl,rfl,rfl⟩))))
 ·cases e
theorem GQ {n:Nat}{x y:D}(e:eqN n x y=some b):eq0 x y=some b\/(∃m xs ys,n=m + 1/\x = .lst xs/\y = .lst ys/\(if xs.length=ys.length then Dc (eqN m) xs ys else some false)=some b)\/∃m xs ys b',n=m + 1/\x = .tup xs/\y = .tup ys/\Dc (eqN m) xs ys=some b'/\(b' && xs.length == ys.length)=b:=by
 unfold eqN at e
 split at e
 ·exact .inl e
 ·obtain ⟨b',e1,e2⟩:=uc2.mp e;exact .inr (.inr ⟨_,_,_,b',rfl,rfl,rfl,e1,e2⟩)
 ·exact .inr (.inl ⟨_,_,_,rfl,rfl,rfl,e⟩)
 ·exact .inl e
variable {K:PySem.W.Frag}{c:Cf}
theorem MP:∀(n:Nat) {v:V} {d e:D} {b:Bool},Rep K c H v d->Rep K c H v e->eqN n d e=some b->b=true
 :=by
  intro n
  induction n using Nat.strongRecOn with
  | ind n ih=>
  intro v d e b rd re q;have items:∀{m:Nat} {vs:List V} {ds es:List D} {b':Bool},n=m + 1->Reps K c H vs ds->Reps K c H vs es->Dc (eqN m) ds es=some b'->b'=true:=λ{m vs ds es b'} hm r1 r2 e'=>
   ON e' λj d e k q1 q2 ek=>by
    obtain ⟨v,g1,g2⟩:=r1.at q1;exact ih m (by lia) g2 (r2.get g1 q2) ek
  rcases GQ q with q0 | ⟨m,ds,es,hm,rfl,rfl,q0⟩ | ⟨m,ds,es,b',hm,rfl,rfl,q1,q2⟩
  ·rcases GO q0 with ⟨i,j,rfl,rfl,rfl⟩ | ⟨i,j,rfl,rfl,rfl⟩ | ⟨i,j,rfl,rfl,rfl⟩ | ⟨rfl,rfl,rfl⟩ | ⟨i,j,rfl,rfl,rfl⟩ | ⟨i,j,rfl,rfl,rfl⟩
   ·cases rd;cases re;simp
   ·cases rd;cases re;simp
   ·cases rd;cases re;simp
   ·cases rd;cases re;rfl
   ·cases rd;cases re
   ·cases rd;cases re
  ·cases rd with
   | lst h1 h2 h3=>
     cases re with
     | lst g1 g2 g3=>
       rw [h1] at g1;cases g1
       rw [if_pos (h3.length.symm.trans g3.length)] at q0;exact items hm h3 g3 q0
  ·cases rd with
   | tup h1 h2 h3=>
     cases re with
     | tup g1 g2 g3=>
       rw [h1] at g1;cases g1
       rw [<-q2,items hm h3 g3 q1,h3.length.symm.trans g3.length];simp
theorem MO {s:Shared}(hok:HOk P w H s.heap):∀(n:Nat) {A:Around} {x y:V} {u v:Value} {dx dy:D} {b:Bool},RelV x u->RelV y v->Rep K c H x dx->Rep K c H y dy->eqN n dx dy=some b->A.units + n < cLine->
 RcAt A s u v b/\(EqAt A s u v b)
 :=by
  intro n
  induction n using Nat.strongRecOn with
  | ind n ih=>
  intro A x y u v dx dy b ru rv rx ry e hu;have items:∀{m:Nat} {vs ws:List V} {is js:List Value} {ds es:List D} {b':Bool},n=m + 1->Vals vs is->Vals ws js->Reps K c H vs ds->Reps K c H ws es->Dc (eqN m) ds es=some b'->
   ∀j (h1:j < is.toArray.size) (h2:j < js.toArray.size),EqAt A.in1 s is.toArray[j] js.toArray[j] (ej (eqN m) ds es j):=λ{m vs ws is js ds es b'} hm r1 r2 q1 q2 e' j h1 h2=>by
   obtain ⟨v1,a1,a2⟩:=Jp r1 h1;obtain ⟨v2,b1,b2⟩:=Jp r2 h2;obtain ⟨l1,g1⟩:=ua9.mp a1;obtain ⟨l2,g2⟩:=ua9.mp b1;have k1:ds[j]?=some (ds[j]'(by rw [<-q1.length];exact l1)):=ub3 _;have k2:es[j]?=some (es[j]'(by rw [<-q2.length];exact l2)):=ub3 _;obtain ⟨kk,ek⟩:=(Dd e').2 j _ _ k1 k2;have:ej (eqN m) ds es j=kk:=by unfold ej;rw [k1,k2];simp [ek]
   rw [this];have hu':A.in1.units + m < cLine:=by
    have:A.in1.units=A.units + 1:=by first | rfl | exact Around.units_in1 _ | simp [Around.in1,Around.units]
    lia
   exact (ih m (by lia) a2 b2 (q1.get a1 k1) (q2.get b1 k2) ek hu').2
  have hu0:A.units < cLine:=by lia
  have conc:∀{p q:Addr} {k:Bool},p≠q->RcAt A s (.ref p) (.ref q) k->RcAt A s (.ref p) (.ref q) k/\EqAt A s (.ref p) (.ref q) k:=λhn h=>⟨h,EqAt.of_refs hn h⟩;rcases GQ e with e0 | ⟨m,ds,es,hm,rfl,rfl,e0⟩ | ⟨m,ds,es,b',hm,rfl,rfl,e1,e2⟩
  ·rcases GO e0 with ⟨i,j,rfl,rfl,rfl⟩ | ⟨i,j,rfl,rfl,rfl⟩ | ⟨i,j,rfl,rfl,rfl⟩ | ⟨rfl,rfl,rfl⟩ | ⟨i,j,rfl,rfl,rfl⟩ | ⟨i,j,rfl,rfl,rfl⟩
   ·cases rx;cases ry;obtain ⟨t',rfl⟩:=ru;obtain ⟨t,rfl⟩:=rv;exact ⟨RcAt.int_int _ _ _ _,EqAt.int_int _ _ _ _⟩
   ·cases rx;cases ry;obtain ⟨t',rfl⟩:=ru;obtain ⟨t,rfl⟩:=rv;exact ⟨RcAt.str_str _ _ _ _,EqAt.str_str _ _ _ _⟩
   ·cases rx;cases ry;cases ru;cases rv;exact ⟨RcAt.bool_bool _ _,EqAt.bool_bool _ _⟩
   ·cases rx;cases ry;cases ru;cases rv;exact ⟨RcAt.none_none,EqAt.same _⟩
   ·cases rx;cases ry;obtain ⟨t',rfl⟩:=ru;obtain ⟨t,rfl⟩:=rv;exact ⟨RcAt.int_str _ _ _ _,EqAt.int_str _ _ _ _⟩
   ·cases rx;cases ry;obtain ⟨t',rfl⟩:=ru;obtain ⟨t,rfl⟩:=rv;exact ⟨RcAt.str_int _ _ _ _,EqAt.str_int _ _ _ _⟩
  ·cases rx with
   | @lst p vs _ g1 g2 g3=>
   cases ry with
   | @lst q ws _ h1 h2 h3=>
     cases ru
     cases rv
     obtain ⟨is,r1,l1⟩:=Gi hok g1;obtain ⟨js,r2,l2⟩:=Gi hok h1;have hs1:is.toArray.size=ds.length:=by rw [<-g3.length,r1.length];simp
     have hs2:js.toArray.size=es.length:=by rw [<-h3.length,r2.length];simp
     by_cases hl:ds.length=es.length
     ·rw [if_pos hl] at e0;have hsz:is.toArray.size=js.toArray.size:=by rw [hs1,hs2,hl]
      have rc:=RcAt.lists l1 l2 hsz hu0 (items hm r1 r2 g3 h3 e0);have eb:(List.range is.toArray.size).all (ej (eqN m) ds es)=b:=by rw [(Dd e0).1,hs1,<-hl,Nat.min_self]
      rw [eb] at rc
      by_cases hpq:p=q
      ·refine ⟨rc,?_⟩;subst hpq;rw [MP n (Rep.lst g1 g2 g3) (Rep.lst h1 h2 h3) e];exact EqAt.same _
      ·exact conc hpq rc
     ·rw [if_neg hl] at e0
      cases e0
      have hsz:(is.toArray.size != js.toArray.size)=true:=by rw [hs1,hs2];simpa using hl
      refine conc (λz=>hl ?_) (RcAt.lists_lengths l1 l2 hsz hu0);subst z;rw [g1] at h1;cases h1
      rw [<-g3.length,<-h3.length]
  ·cases rx with
   | @tup p vs _ g1 g2 g3=>
   cases ry with
   | @tup q ws _ h1 h2 h3=>
     cases ru
     cases rv
     obtain ⟨is,r1,l1⟩:=Hw hok g1;obtain ⟨js,r2,l2⟩:=Hw hok h1;have hs1:is.toArray.size=ds.length:=by rw [<-g3.length,r1.length];simp
     have hs2:js.toArray.size=es.length:=by rw [<-h3.length,r2.length];simp
     have rc:=RcAt.tuples l1 l2 hu0 (items hm r1 r2 g3 h3 e1);have eb:((List.range (min is.toArray.size js.toArray.size)).all (ej (eqN m) ds es) && is.toArray.size == js.toArray.size)=b:=by rw [hs1,hs2,<-(Dd e1).1];exact e2
     rw [eb] at rc
     by_cases hpq:p=q
     ·refine ⟨rc,?_⟩;subst hpq;rw [MP n (Rep.tup g1 g2 g3) (Rep.tup h1 h2 h3) e];exact EqAt.same _
     ·exact conc hpq rc
theorem Ue {s:Shared}(hok:HOk P w H s.heap)(n:Nat){A:Around}{x y:V}{u v:Value}{dx dy:D}{b:Bool}(ru:RelV x u)(rv:RelV y v)(rx:Rep K c H x dx)(ry:Rep K c H y dy)(e:eqN n dx dy=some b)(hu:A.units + n < cLine) :
 RcNeAt A s u v (!b):=by
 have items:∀{m:Nat} {vs ws:List V} {is js:List Value} {ds es:List D} {b':Bool},n=m + 1->Vals vs is->Vals ws js->Reps K c H vs ds->Reps K c H ws es->Dc (eqN m) ds es=some b'->
  ∀j (h1:j < is.toArray.size) (h2:j < js.toArray.size),EqAt A.in1 s is.toArray[j] js.toArray[j] (ej (eqN m) ds es j):=λ{m vs ws is js ds es b'} hm r1 r2 q1 q2 e' j h1 h2=>by
  obtain ⟨v1,a1,a2⟩:=Jp r1 h1;obtain ⟨v2,b1,b2⟩:=Jp r2 h2;obtain ⟨l1,g1⟩:=ua9.mp a1;obtain ⟨l2,g2⟩:=ua9.mp b1;have k1:ds[j]?=some (ds[j]'(by rw [<-q1.length];exact l1)):=ub3 _;have k2:es[j]?=some (es[j]'(by rw [<-q2.length];exact l2)):=ub3 _;obtain ⟨kk,ek⟩:=(Dd e').2 j _ _ k1 k2;have:ej (eqN m) ds es j=kk:=by unfold ej;rw [k1,k2];simp [ek]
  rw [this];have hu':A.in1.units + m < cLine:=by
   have:A.in1.units=A.units + 1:=rfl;lia
  exact (MO hok m a2 b2 (q1.get a1 k1) (q2.get b1 k2) ek hu').2
 have hu0:A.units < cLine:=by lia
 rcases GQ e with e0 | ⟨m,ds,es,hm,rfl,rfl,e0⟩ | ⟨m,ds,es,b',hm,rfl,rfl,e1,e2⟩
 ·rcases GO e0 with ⟨i,j,rfl,rfl,rfl⟩ | ⟨i,j,rfl,rfl,rfl⟩ | ⟨i,j,rfl,rfl,rfl⟩ | ⟨rfl,rfl,rfl⟩ | ⟨i,j,rfl,rfl,rfl⟩ | ⟨i,j,rfl,rfl,rfl⟩
  ·cases rx;cases ry;obtain ⟨t',rfl⟩:=ru;obtain ⟨t,rfl⟩:=rv;exact RcNeAt.int_int _ _ _ _
  ·cases rx;cases ry;obtain ⟨t',rfl⟩:=ru;obtain ⟨t,rfl⟩:=rv;exact RcNeAt.str_str _ _ _ _
  ·cases rx;cases ry;cases ru;cases rv;exact RcNeAt.bool_bool _ _
  ·cases rx;cases ry;cases ru;cases rv;exact RcNeAt.none_none
  ·cases rx;cases ry;obtain ⟨t',rfl⟩:=ru;obtain ⟨t,rfl⟩:=rv;exact RcNeAt.int_str _ _ _ _
  ·cases rx;cases ry;obtain ⟨t',rfl⟩:=ru;obtain ⟨t,rfl⟩:=rv;exact RcNeAt.str_int _ _ _ _
 ·cases rx with
  | @lst p vs _ g1 g2 g3=>
  cases ry with
  | @lst q ws _ h1 h2 h3=>
    cases ru
    cases rv
    obtain ⟨is,r1,l1⟩:=Gi hok g1;obtain ⟨js,r2,l2⟩:=Gi hok h1;have hs1:is.toArray.size=ds.length:=by rw [<-g3.length,r1.length];simp
    have hs2:js.toArray.size=es.length:=by rw [<-h3.length,r2.length];simp
    by_cases hl:ds.length=es.length
    ·rw [if_pos hl] at e0;have hsz:is.toArray.size=js.toArray.size:=by rw [hs1,hs2,hl]
     have rc:=RcNeAt.lists l1 l2 hsz hu0 (items hm r1 r2 g3 h3 e0);rw [show (List.range is.toArray.size).all (ej (eqN m) ds es)=b by rw [(Dd e0).1,hs1,<-hl,Nat.min_self]] at rc;exact rc
    ·rw [if_neg hl] at e0
     cases e0
     exact RcNeAt.lists_lengths l1 l2 (by rw [hs1,hs2];simpa using hl) hu0
 ·cases rx with
  | @tup p vs _ g1 g2 g3=>
  cases ry with
  | @tup q ws _ h1 h2 h3=>
    cases ru
    cases rv
    obtain ⟨is,r1,l1⟩:=Hw hok g1;obtain ⟨js,r2,l2⟩:=Hw hok h1;have hs1:is.toArray.size=ds.length:=by rw [<-g3.length,r1.length];simp
    have hs2:js.toArray.size=es.length:=by rw [<-h3.length,r2.length];simp
    have rc:=RcNeAt.tuples l1 l2 hu0 (items hm r1 r2 g3 h3 e1);have eb:((List.range (min is.toArray.size js.toArray.size)).all (ej (eqN m) ds es) && is.toArray.size == js.toArray.size)=b:=by rw [hs1,hs2,<-(Dd e1).1];exact e2
    rw [eb] at rc;exact rc
def EQD:Nat:=40
def neD (x y:D):M D:=λt=>(eqN EQD x y).map λb=>(.bl (!b),t)
def Sa (K:PySem.W.Frag)(g:Bool->Bool):R2:=λx y H Q=>∃c dx dy b,Rep K c H x dx/\Rep K c H y dy/\eqN EQD dx dy=some b/\Q (.bl (g b)) H
theorem PJ {X:Cx}(hu:X.A.units + 64 < cLine):OpR X (compareOp .Eq) (Sa X.K id):=by
 intro pins s σ H x y v u Q I rx ry h;obtain ⟨c,dx,dy,b,q1,q2,e,q⟩:=h;have hu':X.A.units + EQD < cLine:=by unfold EQD;lia
 exact (MO I.hok EQD rx ry q1 q2 e hu').1 X.prog X.w _ _ ⟨.bl b,H,I,rfl,q⟩
theorem PP {X:Cx}(hu:X.A.units + 64 < cLine):OpR X (compareOp .NotEq) (Sa X.K (!·)):=by
 intro pins s σ H x y v u Q I rx ry h;obtain ⟨c,dx,dy,b,q1,q2,e,q⟩:=h;have hu':X.A.units + EQD < cLine:=by unfold EQD;lia
 exact Ue I.hok EQD rx ry q1 q2 e hu' X.prog X.w _ _ ⟨.bl (!b),H,I,rfl,q⟩
end F2
set_option maxHeartbeats 4000000
namespace F2
open PySem L2 PySem.Spec
variable {g:Int->Int->D}{t:T}{z:D×T}{X:Cx}{c:Cf}{H:Hp}
section
variable {K:PySem.W.Frag}
def i2 (g:Int->Int->D):D->D->M D
 | .int i,.int j=>ret (g i j)
 | _,_=>fail
theorem Wn {x y:D}(h:i2 g x y t=some z):∃i j,x = .int i/\y = .int j/\z=(g i j,t):=by
 cases x with
 | int i=>cases y with
   | int j=>cases h;exact ⟨i,j,rfl,rfl,rfl⟩
   | _=>cases h
 | _=>cases h
theorem Xq {gV:Int->Int->V}(hr:∀i j c H,Rep K c H (gV i j) (g i j)):Bn K (rI0 gV) (i2 g):=λ{Oo c t σ H x y dx dy r t' Q} f rx ry eq k=>by
 obtain ⟨i,j,rfl,rfl,z⟩:=Wn eq
 cases z
 cases rx
 cases ry
 exact ⟨i,j,rfl,rfl,k _ H c f .refl (hr i j c H)⟩
def i2C (C:Int->Int->Bool)(g:Int->Int->D):D->D->M D
 | .int i,.int j=>λt=>if C i j=true then some (g i j,t) else none
 | _,_=>fail
theorem T2 {C:Int->Int->Bool}{x y:D}(h:i2C C g x y t=some z):∃i j,x = .int i/\y = .int j/\C i j=true/\z=(g i j,t):=by
 cases x with
 | int i=>cases y with
   | int j=>
     unfold i2C at h;dsimp only at h
     by_cases hc:C i j=true
     ·rw [if_pos hc] at h;cases h;exact ⟨i,j,rfl,rfl,hc,rfl⟩
     ·rw [if_neg hc] at h;cases h
   | _=>cases h
 | _=>cases h
theorem JY {P:Int->Int->Prop}{C:Int->Int->Bool}{gV:Int->Int->V}(hP:∀i j,C i j=true->P i j)(hr:∀i j c H,Rep K c H (gV i j) (g i j)):Bn K (rI P gV) (i2C C g):=λ{Oo c t σ H x y dx dy r t' Q} f rx ry eq k=>by
 obtain ⟨i,j,rfl,rfl,hc,z⟩:=T2 eq
 cases z
 cases rx
 cases ry
 exact ⟨i,j,rfl,rfl,hP i j hc,k _ H c f .refl (hr i j c H)⟩
def Cl:=i2 λi j=>.int (i - j)
noncomputable def KS (_ j:Int):Bool:=decide (0 < j) && decide (j < 1073741824)
def AU:=i2C KS λi j=>.int (i / j)
def Ba:=i2C (λ_ j=>decide (0 < j)) λi j=>.int (i % j)
noncomputable def Ta (i j:Int):Bool:=decide (0<=j) && decide (j<=1000000) && decide (i.natAbs < 2 ^ 64)
def ZY:=i2C Ta λi j=>.int (i ^ j.toNat)
noncomputable def EX (i j:Int):Bool:=(decide (-(2 ^ 64) < i) && decide (i < 2 ^ 64)) || (decide (-(2 ^ 64) < j) && decide (j < 2 ^ 64))
def Mj:=i2C (λ_ j=>decide (0<=j)) λi j=>.int (i / 2 ^ j.toNat)
theorem U7:Bn K (rI0 λi j=>.int (i - j)) Cl:=Xq λi j _ _=>.int _
theorem Sk:Bn K (rI Vv λi j=>.int (i / j)) AU:=JY (λi j h=>by
 unfold KS at h;rw [uh0] at h;exact ⟨ug2 h.1,ug2 h.2⟩) λi j _ _=>.int _
theorem U2:Bn K (rI (λ_ j=>0 < j) λi j=>.int (i % j)) Ba:=JY (λi j h=>ug2 h) λi j _ _=>.int _
theorem U5:Bn K (rI (λ_ j=>0<=j) λi j=>.int (i / 2 ^ j.toNat)) Mj:=JY (λi j h=>ug2 h) λi j _ _=>.int _
theorem Px {i j:Int}(h:EX i j=true):CMul i j:=by
 unfold EX at h;rw [Bool.or_eq_true,uh0,uh0] at h;rcases h with h | h
 ·exact .inl ⟨ug2 h.1,ug2 h.2⟩
 ·exact .inr ⟨ug2 h.1,ug2 h.2⟩
def ZO:D->M D
 | .int i=>ret (.int (-i))
 | _=>fail
def VD:D->D->M D
 | .int i,.int j=>ret (.int (i + j))
 | .str x,.str y=>lim (x.length + y.length) (.str (x++y))
 | .lst xs,.lst ys=>lim (xs.length + ys.length) (.lst (xs++ys))
 | _,_=>fail
def UK:R2:=λx y H Q=>∃i j,x = .str i/\y = .str j/\i.length + j.length<=sizeLine/\Q (.str (i++j)) H
def N4 (K:PySem.W.Frag):R2:=λx y H Q=>rI0 (λi j=>.int (i + j)) x y H Q\/(UK x y H Q\/R9 x y H Q)
theorem Uk:OpR X (binaryOp .Add) (N4 X.K):=op_add.or (op_add_str.or PF)
theorem US:Bn K (N4 K) VD:=λ{Oo c t σ H x y dx dy r t' Q} f rx ry eq k=>by
 cases rx with
 | int i=>
   cases ry with
   | int j=>cases eq;exact .inl ⟨i,j,rfl,rfl,k _ H c f .refl (.int _)⟩
   | _=>cases eq
 | str i=>
   cases ry with
   | str j=>
     obtain ⟨h,z⟩:=En eq
     cases z
     exact .inr (.inl ⟨i,j,rfl,rfl,ul1 h C9,k _ H c f .refl (.str _)⟩)
   | _=>cases eq
 | @lst a vs ds h1 h2 h3=>
   cases ry with
   | @lst b ws es g1 g2 g3=>
     obtain ⟨h,z⟩:=En eq
     cases z
     refine .inr (.inr ⟨a,b,vs,ws,rfl,rfl,h1,g1,?_,λp hp=>?_⟩)
     ·rw [h3.length,g3.length];exact ul1 h C9
     ·exact k _ _ c (f.laid hp) (f.stp_laid hp) (.lst Ak (f.s.free hp) ((h3.append g3).mono (Ext.laid f.s hp)))
   | _=>cases eq
 | _=>cases eq
def GM:D->D->M (List D)
 | .lst xs,.lst ys=>lim (xs.length + ys.length) (xs++ys)
 | _,_=>fail
theorem Sj:Nu K R9 GM:=λ{Oo c t σ H x y dx dy r t' Q} f rx ry eq k=>by
 cases rx with
 | @lst a vs ds h1 h2 h3=>
   cases ry with
   | @lst b ws es g1 g2 g3=>
     obtain ⟨h,z⟩:=En eq
     cases z
     refine ⟨a,b,vs,ws,rfl,rfl,h1,g1,?_,λp hp=>k p _ H c f .refl (h3.append g3) hp⟩;rw [h3.length,g3.length];exact ul1 h C9
   | _=>cases eq
 | _=>cases eq
def isC:D->D->M D
 | x,.non=>λt=>some (.bl (match x with | .non=>true | _=>false),t)
 | x,.bl b=>λt=>some (.bl (match x with | .bl c=>c == b | _=>false),t)
 | _,_=>fail
def Ph (x y:D):M D:=bnd (isC x y) λd=>match d with | .bl b=>ret (.bl (!b)) | _=>fail
def rIs (g:Bool->Bool):R2:=λx y H Q=>(y = .non\/∃b,y = .bl b)/\Q (.bl (g (decide (x=y)))) H
theorem Tr {x y:V}{v u:Value}(rx:RelV x v)(ry:RelV y u)(hy:y = .non\/∃b,y = .bl b):plainIs v u=true/\(v == u)=decide (x=y):=by
 rcases hy with rfl | ⟨b,rfl⟩
 ·cases ry
  cases x with
  | non=>cases rx;exact ⟨rfl,by simp⟩
  | bl _=>cases rx;exact ⟨rfl,by simp⟩
  | int _=>obtain ⟨t,rfl⟩:=rx;exact ⟨rfl,by simp⟩
  | str _=>obtain ⟨t,rfl⟩:=rx;exact ⟨rfl,by simp⟩
  | byt _=>obtain ⟨t,rfl⟩:=rx;exact ⟨rfl,by simp⟩
  | flt _=>obtain ⟨t,rfl⟩:=rx;exact ⟨rfl,by simp⟩
  | ref _=>cases rx;exact ⟨rfl,by simp⟩
  | ty _=>cases rx;exact ⟨rfl,by simp⟩
 ·cases ry
  cases x with
  | non=>cases rx;exact ⟨rfl,by simp⟩
  | bl c=>cases rx;exact ⟨rfl,by simp;cases c <;> cases b <;> rfl⟩
  | int _=>obtain ⟨t,rfl⟩:=rx;exact ⟨rfl,by simp⟩
  | str _=>obtain ⟨t,rfl⟩:=rx;exact ⟨rfl,by simp⟩
  | byt _=>obtain ⟨t,rfl⟩:=rx;exact ⟨rfl,by simp⟩
  | flt _=>obtain ⟨t,rfl⟩:=rx;exact ⟨rfl,by simp⟩
  | ref _=>cases rx;exact ⟨rfl,by simp⟩
  | ty _=>cases rx;exact ⟨rfl,by simp⟩
theorem PL:OpR X (compareOp .Is) (rIs id):=by
 intro pins s σ H x y v u Q I rx ry h;obtain ⟨hy,q⟩:=h;obtain ⟨h1,h2⟩:=Tr rx ry hy;exact wpAny_is_plain h1 ⟨.bl _,H,I,by rw [h2];rfl,q⟩
theorem T3 {x y:V}{dx dy:D}(rx:Rep K c H x dx)(ry:Rep K c H y dy)(eq:isC dx dy t=some z):(y = .non\/∃b,y = .bl b)/\z=(.bl (decide (x=y)),t):=by
 cases ry with
 | non=>
   refine ⟨.inl rfl,?_⟩
   cases rx <;> (cases eq;first | rfl | simp)
 | bl b=>
   refine ⟨.inr ⟨b,rfl⟩,?_⟩
   cases rx <;> (cases eq;first | rfl | simp)
   next a=>cases a <;> cases b <;> rfl
 | _=>cases eq
theorem Qa:Bn K (rIs id) isC:=λ{Oo c t σ H x y dx dy r t' Q} f rx ry eq k=>by
 obtain ⟨h,z⟩:=T3 rx ry eq
 cases z
 exact ⟨h,k _ H c f .refl (.bl _)⟩
def ixD:D->D->M D
 | .lst ds,.int i=>λt=>(atI ds i).map λd=>(d,t)
 | .tup ds,.int i=>λt=>(atI ds i).map λd=>(d,t)
 | .scr ns,.int i=>λt=>(atI ns i).map λn=>(.int n,t)
 | .str x,.int i=>λt=>if x.length<=LIM then (atI x.cps.toList i).map λn=>(.str ⟨#[n]⟩,t) else none
 | .obj k,.int i=>λt=>match t.S[k]? with
   | some (.lst ds)=>(atI ds i).map λd=>(d,t)
   | _=>none
 | _,_=>fail
theorem HZ {vs:List V}{ds:List D}{i:Int}{d:D}(r:Reps K c H vs ds)(h:atI ds i=some d):∃v,atI vs i=some v/\Rep K c H v d:=by
 unfold atI at h ⊢;obtain ⟨j,h1,h2⟩:=Option.bind_eq_some_iff.mp h;obtain ⟨v,h3,h4⟩:=r.at h2;exact ⟨v,by rw [r.length,h1];exact h3,h4⟩
theorem Tq {α β:Type}(g:α->β)(xs:List α)(i:Int):atI (xs.map g) i=(atI xs i).map g:=by
 unfold atI;rw [uh9]
 cases ixN xs.length i with
 | none=>rfl
 | some j=>simp
theorem Wq {dx dy r:D}{t':T}(eq:ixD dx dy t=some (r,t')):∃i,dy = .int i/\((∃ds,dx = .lst ds)\/(∃ds,dx = .tup ds)\/(∃ns,dx = .scr ns)\/(∃z,dx = .str z)\/∃k,dx = .obj k):=by
 unfold ixD at eq
 split at eq
 ·exact ⟨_,rfl,.inl ⟨_,rfl⟩⟩
 ·exact ⟨_,rfl,.inr (.inl ⟨_,rfl⟩)⟩
 ·exact ⟨_,rfl,.inr (.inr (.inl ⟨_,rfl⟩))⟩
 ·exact ⟨_,rfl,.inr (.inr (.inr (.inl ⟨_,rfl⟩)))⟩
 ·exact ⟨_,rfl,.inr (.inr (.inr (.inr ⟨_,rfl⟩)))⟩
 ·cases eq
theorem Xr:Bn K (rIx K) ixD:=λ{Oo c t σ H x y dx dy r t' Q} f rx ry eq k=>by
 obtain ⟨i,rfl,hd⟩:=Wq eq
 cases ry
 rcases hd with ⟨ds,rfl⟩ | ⟨ds,rfl⟩ | ⟨ns,rfl⟩ | ⟨z,rfl⟩ | ⟨kk,rfl⟩
 ·cases rx with
  | @lst a vs _ h1 h2 h3=>
    obtain ⟨d,e1,e2⟩:=uc2.mp eq
    cases e2
    obtain ⟨v,e3,e4⟩:=HZ h3 e1;exact .inl ⟨a,vs,i,v,rfl,rfl,SqL.of h1,e3,k _ H c f .refl e4⟩
 ·cases rx with
  | @tup a vs _ h1 h2 h3=>
    obtain ⟨d,e1,e2⟩:=uc2.mp eq
    cases e2
    obtain ⟨v,e3,e4⟩:=HZ h3 e1;exact .inr (.inl ⟨a,vs,i,v,rfl,rfl,SqT.of h1,e3,k _ H c f .refl e4⟩)
 ·cases rx with
  | @scr a _ h1=>
    obtain ⟨n,e1,e2⟩:=uc2.mp eq
    cases e2
    exact .inl ⟨a,_,i,.int n,rfl,rfl,h1.sq,by rw [Tq,e1];rfl,k _ H c f .refl (.int n)⟩
 ·cases rx
  unfold ixD at eq;dsimp only at eq
  split at eq
  ·next hl=>
   obtain ⟨n,e1,e2⟩:=uc2.mp eq
   cases e2
   exact .inr (.inr ⟨z,i,n,rfl,rfl,ul1 hl C9,e1,k _ H c f .refl (.str _)⟩)
  ·cases eq
 ·cases rx with
  | @obj a _ h1=>
    unfold ixD at eq;dsimp only at eq
    cases es:t.S[kk]? with
    | none=>rw [es] at eq;cases eq
    | some o=>
      rw [es] at eq
      cases o with
      | dct _ | ins _ _=>cases eq
      | lst ds=>
        obtain ⟨d,e1,e2⟩:=uc2.mp eq
        cases e2
        obtain ⟨vs,g1,g2⟩:=f.s.obs kk a _ h1 es;obtain ⟨v,e3,e4⟩:=HZ g2 e1;exact .inl ⟨a,vs,i,v,rfl,rfl,SqL.of g1,e3,k _ H c f .refl e4⟩
end
variable {f:M D}{id:String}{R:List V->Hp->VK->Prop}{p:Pos}
section
variable {X:Cx}{e a b:Expr}{es:List Expr}{pos:Pos}
inductive RO (K:PySem.W.Frag)(f:M (Option Int))(σ:L2.St)(H:Hp)(Q:Option Int->Hp->Prop):Prop where
 | mk (Oo:Addr->Prop) (c:Cf) (t:T) (fi:FInv K Oo c t σ H) (r:Option Int) (t':T) (e:f t=some (r,t')) (k:∀H' c',FInv K Oo c' t' σ H'->Stp Oo c H c' H'->Q r H'):RO K f σ H Q
theorem Oz {oe:Option Expr}{t t':TO}(h:PO X oe t)(i:∀σ H Q,t' σ H Q->t σ H Q):PO X oe t':=λpins s σ H Q I q=>h pins s σ H Q I (i σ H Q q)
def fNo:M (Option Int):=ret none
def asI:D->M (Option Int)
 | .int i=>ret (some i)
 | _=>fail
def Ht (f:M D):M (Option Int):=bnd f asI
theorem TR:PO X none (RO X.K fNo):=Oz UD λσ H Q z9=>by
 obtain ⟨Oo,c,t,fi,r,t',eq,k⟩:=z9
 cases eq
 exact k H c fi .refl
theorem TU (h:PE X e (RE X.K f)):PO X (some e) (RO X.K (Ht f)):=Oz (UE h) λσ H Q z9=>by
 obtain ⟨Oo,c,t,fi,r,t',eq,k⟩:=z9;obtain ⟨d,t1,e1,eq⟩:=Af eq;refine ⟨Oo,c,t,fi,d,t1,e1,λv H1 c1 f1 s1 rv=>?_⟩
 cases rv with
 | int i=>cases eq;exact ⟨i,rfl,k H1 c1 f1 s1⟩
 | _=>cases eq
def QA (K:PySem.W.Frag)(R:V->Option Int->Option Int->Hp->VK->Prop)(h:D->Option Int->Option Int->M D):Prop:=∀{Oo:Addr->Prop} {c:Cf} {t:T} {σ:L2.St} {H:Hp} {x:V} {dx r:D} {lo hi:Option Int} {t':T} {Q:VK},FInv K Oo c t σ H->Rep K c H x dx->h dx lo hi t=some (r,t')->
 (∀v H' c',FInv K Oo c' t' σ H'->Stp Oo c H c' H'->Rep K c' H' v r->Q v H')->R x lo hi H Q
def fSl (f:M D)(l u:M (Option Int))(h:D->Option Int->Option Int->M D):M D:=bnd f λx=>bnd l λlo=>bnd u λhi=>h x lo hi
theorem QX {R:V->Option Int->Option Int->Hp->VK->Prop}{h:D->Option Int->Option Int->M D}{l u:M (Option Int)}{lo hi:Option Expr}{p2:Pos}(hr:SlR X R)(s:QA X.K R h)(he:PE X e (RE X.K f))(hl:PO X lo (RO X.K l))(hu:PO X hi (RO X.K u)):PE X (.Subscript e (.Slice lo hi none p2) pos) (RE X.K (fSl f l u h)):=
 AD (RZ hr he hl hu) λσ H Q z9=>by
  obtain ⟨Oo,c,t,fi,r,t',eq,k⟩:=z9;obtain ⟨d,t1,e1,eq⟩:=Af eq;obtain ⟨ol,t2,e2,eq⟩:=Af eq;obtain ⟨oh,t3,e3,eq⟩:=Af eq;exact ⟨Oo,c,t,fi,d,t1,e1,λv H1 c1 f1 s1 rv=>⟨Oo,c1,t1,f1,ol,t2,e2,λH2 c2 f2 s2=>⟨Oo,c2,t2,f2,oh,t3,e3,λH3 c3 f3 s3=>
   s f3 (rv.mono (s2.trans s3).ext) eq λv H' c' f' s' rv'=>k v H' c' f' (((s1.trans s2).trans s3).trans s') rv'⟩⟩⟩
def Da {α:Type}(xs:List α)(lo hi:Option Int):List α:=(xs.drop (HT.sIx xs.length 0 lo)).take (HT.sIx xs.length xs.length hi - HT.sIx xs.length 0 lo)
def slD:D->Option Int->Option Int->M D
 | .lst ds,lo,hi=>ret (.lst (Da ds lo hi))
 | .scr ns,lo,hi=>ret (.lst ((Da ns lo hi).map .int))
 | _,_,_=>fail
theorem Se {K:PySem.W.Frag}{vs:List V}{ds:List D}(r:Reps K c H vs ds)(lo hi:Option Int):Reps K c H (Ie vs lo hi) (Da ds lo hi):=by
 unfold Ie Da;rw [r.length];exact (r.drop _).take _
theorem QO {α β:Type}(g:α->β)(xs:List α)(lo hi:Option Int):Da (xs.map g) lo hi=(Da xs lo hi).map g:=by
 unfold Da;rw [uh9,List.map_take,List.map_drop]
theorem OM (ns:List Int)(lo hi:Option Int):Ie (ns.map V.int) lo hi=(Da ns lo hi).map V.int:=QO V.int ns lo hi
def Sb (K:PySem.W.Frag):V->Option Int->Option Int->Hp->VK->Prop:=Xl K
theorem sl2:SlR X (Sb X.K):=Vb
theorem Xs {K:PySem.W.Frag}:QA K (Sb K) slD:=λ{Oo c t σ H x dx r lo hi t' Q} f rx eq k=>by
 cases rx with
 | @lst p vs ds h1 h2 h3=>
   cases eq
   exact ⟨p,vs,rfl,SqL.of h1,λq hq=>k _ _ c (f.laid hq) (f.stp_laid hq) (.lst Ak (f.s.free hq) ((Se h3 lo hi).mono (Ext.laid f.s hq)))⟩
 | @scr p ns h1=>
   cases eq
   refine ⟨p,_,rfl,h1.sq,λq hq=>k _ _ c (f.laid hq) (f.stp_laid hq) (.lst Ak (f.s.free hq) ?_)⟩;rw [OM];exact Reps.ints _
 | _=>cases eq
theorem ZC {h:List D->M D}{f:M (List D)}{x:Str}(hc:Cm X (.builtin id) R)(s:E7 X.K R h)(hg:Gl X x)(hm:X.mg x=none)(hv:bootBuiltins x=some (.builtin id))(ha:PA X (e :: es) (RA X.K f))(hn:x≠"__name__":=by decide)(hdb:(x == ("__debug__" : Str))=false:=by decide)
 (he:starEach (e :: es) X.env=(false,eval e X.env) :: starEach es X.env:=by rfl) (hpl:(backTo pos (starEach es X.env)).any (·.1)=false:=by rfl):PE X (.Call (.Name x p) (e :: es) [] pos) (RE X.K (fB f h)):=
 AD (RM hc hg hm hv ha hn hdb he hpl) λ_ _ _ q=>RE.callB s q
theorem ZD {h:List D->M D}{f:M (List D)}{x:Str}(hc:Cm X (.type id) R)(s:E7 X.K R h)(hg:Gl X x)(hm:X.mg x=none)(hv:bootBuiltins x=some (.type id))(ha:PA X (e :: es) (RA X.K f))(hn:x≠"__name__":=by decide)(hdb:(x == ("__debug__" : Str))=false:=by decide)
 (he:starEach (e :: es) X.env=(false,eval e X.env) :: starEach es X.env:=by rfl) (hpl:(backTo pos (starEach es X.env)).any (·.1)=false:=by rfl):PE X (.Call (.Name x p) (e :: es) [] pos) (RE X.K (fB f h)):=
 AD (G8 hc hg hm hv ha hn hdb he hpl) λ_ _ _ q=>RE.callB s q
theorem ZE {h:List D->M (List D)}{f:M (List D)}{x:Str}(hc:Cm X (.type id) R)(s:IB X.K R h)(hg:Gl X x)(hm:X.mg x=none)(hv:bootBuiltins x=some (.type id))(ha:PA X (e :: es) (RA X.K f))(hn:x≠"__name__":=by decide)(hdb:(x == ("__debug__" : Str))=false:=by decide)
 (he:starEach (e :: es) X.env=(false,eval e X.env) :: starEach es X.env:=by rfl) (hpl:(backTo pos (starEach es X.env)).any (·.1)=false:=by rfl):PE X (.Call (.Name x p) (e :: es) [] pos) (RF X.K (fBF f h)):=
 AD (G8 hc hg hm hv ha hn hdb he hpl) λ_ _ _ q=>RF.callB s q
theorem Yd {op:Operator}{R:R2}{g:M D}{h:D->D->M (List D)}(ho:OpR X (binaryOp op) R)(s:Nu X.K R h)(ha:PE X a (RE X.K f))(hb:PE X b (RE X.K g)):PE X (.BinOp a op b pos) (RF X.K (bnd f λx=>bnd g λy=>h x y)):=
 AD (NY ho ha hb) λ_ _ _ q=>RF.two s q
end
section
variable {K:PySem.W.Frag}
theorem EA {xs:List V}{d:D}(r:Reps K c H xs [d]):∃v,xs=[v]/\Rep K c H v d:=by
 cases r with
 | cons r rs=>cases rs;exact ⟨_,rfl,r⟩
theorem N7 {xs:List V}{d e:D}(r:Reps K c H xs [d,e]):∃v u,xs=[v,u]/\Rep K c H v d/\Rep K c H u e:=by
 cases r with
 | cons r rs=>
   obtain ⟨u,rfl,q⟩:=EA rs;exact ⟨_,u,rfl,r,q⟩
def AN:List D->M D
 | [.lst ds]=>ret (.int ds.length)
 | [.tup ds]=>ret (.int ds.length)
 | [.scr ns]=>ret (.int ns.length)
 | [.str x]=>lim x.length (.int x.length)
 | [.obj k]=>λt=>match t.S[k]? with
   | some (.lst ds)=>some (.int ds.length,t)
   | _=>none
 | _=>fail
theorem UX:E7 K (λxs H Q=>∃x n,xs=[x]/\Vy K x H n/\Q (.int n) H) AN:=λ{Oo c t σ H xs ds r t' Q} f rx eq k=>by
 match ds,rx,eq with
 | [],_,eq=>cases eq
 | d0 :: _ :: _,_,eq=>cases d0 <;> cases eq
 | [d],rx,eq=>
   obtain ⟨v,rfl,rv⟩:=EA rx
   cases rv with
   | @lst a vs ds h1 h2 h3=>cases eq;exact ⟨_,ds.length,rfl,.inl ⟨vs,SqL.of h1,h3.length.symm⟩,k _ H c f .refl (.int _)⟩
   | @tup a vs ds h1 h2 h3=>cases eq;exact ⟨_,ds.length,rfl,.inr ⟨vs,SqT.of h1,h3.length.symm⟩,k _ H c f .refl (.int _)⟩
   | @scr a ns h1=>cases eq;exact ⟨_,ns.length,rfl,.inl ⟨_,h1.sq,by simp⟩,k _ H c f .refl (.int _)⟩
   | str x=>
     obtain ⟨hl,z⟩:=En eq
     cases z
     exact ⟨_,x.length,rfl,⟨ul1 hl C9,rfl⟩,k _ H c f .refl (.int _)⟩
   | @obj a kk h1=>
     unfold AN at eq;dsimp only at eq
     cases es:t.S[kk]? with
     | none=>rw [es] at eq;cases eq
     | some o=>
       rw [es] at eq
       cases o with
       | dct _ | ins _ _=>cases eq
       | lst ds=>
         cases eq
         obtain ⟨vs,g1,g2⟩:=f.s.obs kk a _ h1 es;exact ⟨_,ds.length,rfl,.inl ⟨vs,SqL.of g1,g2.length.symm⟩,k _ H c f .refl (.int _)⟩
   | _=>cases eq
noncomputable def tyD:D->Option String
 | .non=>some "NoneType"
 | .bl _=>some "bool"
 | .int _=>some "int"
 | .str _=>some "str"
 | .lst _=>some "list"
 | .tup _=>some "tuple"
 | .dic=>some "dict"
 | _=>none
noncomputable def Fk (n m:String):Option Bool:=match m with
 | "int"=>some (n == "int" || n == "bool")
 | "bool"=>some (n == "bool")
 | "str"=>some (n == "str")
 | "list"=>some (n == "list")
 | "tuple"=>some (n == "tuple")
 | "dict"=>some (n == "dict")
 | _=>none
def CI:List D->M D
 | [d,.ty m]=>λt=>match tyD d with
   | some n=>(Fk n m).map λb=>(.bl b,t)
   | none=>none
 | _=>fail
theorem T6 {d:D}{n m:String}{b:Bool}(h1:tyD d=some n)(h2:Fk n m=some b):PySem.W.kitOne K (.type n) (.type m)=some b:=by
 have hm:m = "int"\/m = "bool"\/m = "str"\/m = "list"\/m = "tuple"\/m = "dict":=by
  unfold Fk at h2
  split at h2 <;> simp_all
 have hn:n = "NoneType"\/n = "bool"\/n = "int"\/n = "str"\/n = "list"\/n = "tuple"\/n = "dict":=by
  cases d <;> simp [tyD] at h1 <;> simp [<-h1]
 rcases hm with rfl | rfl | rfl | rfl | rfl | rfl <;> rcases hn with rfl | rfl | rfl | rfl | rfl | rfl | rfl <;> (cases h2;rfl)
def Xg (K:PySem.W.Frag):List V->Hp->VK->Prop:=λxs H Q=>∃x n t b,xs=[x,.ty n]/\TyOf K H x t/\PySem.W.kitOne K t (.type n)=some b/\Q (.bl b) H
theorem QL:Cm X (.builtin "isinstance") (Xg X.K):=by
 intro pins s σ H xs us Q I r h;obtain ⟨x,n,t,b,rfl,ty,e,q⟩:=h;obtain ⟨u,w',rfl,rx,rt⟩:=Oj r
 cases rt
 exact Pj I rx ty e λtk=>⟨.bl b,H,I.tok tk,rfl,q⟩
theorem UW:E7 K (Xg K) CI:=λ{Oo c t σ H xs ds r t' Q} f rx eq k=>by
 unfold CI at eq
 split at eq
 ·next d m=>
  obtain ⟨v,u,rfl,rv,ru⟩:=N7 rx
  cases ru
  cases et:tyD d with
  | none=>rw [et] at eq;cases eq
  | some n=>
    rw [et] at eq;obtain ⟨b,e1,e2⟩:=uc2.mp eq
    cases e2
    refine ⟨v,m,.type n,b,rfl,?_,T6 et e1,k _ H c f .refl (.bl b)⟩
    cases rv <;> first | (cases et;first | exact .non | exact .bl _ | exact .int _ | exact .str _ | exact .lst ‹_› | exact .tup ‹_› | exact .dK ‹_›) | cases et
 ·cases eq
def af:List D->M D
 | [.lst ds]=>ret (.tup ds)
 | [.tup ds]=>ret (.tup ds)
 | [.obj k]=>λt=>match t.S[k]? with
   | some (.lst ds)=>some (.tup ds,t)
   | _=>none
 | _=>fail
def Dh:List D->M (List D)
 | [.lst ds]=>ret ds
 | [.tup ds]=>ret ds
 | [.scr ns]=>ret (ns.map .int)
 | [.obj k]=>λt=>match t.S[k]? with
   | some (.lst ds)=>some (ds,t)
   | _=>none
 | _=>fail
theorem UY:IB K (λxs H Q=>∃p ys,xs=[.ref p]/\(SqL K H p ys\/SqT K H p ys)/\∀l,H l=none->Q (.ref l) (upd H l (.lst ys))) Dh:=λ{Oo c t σ H xs ds r t' Q} f rx eq k=>by
 match ds,rx,eq with
 | [],_,eq=>cases eq
 | d0 :: _ :: _,_,eq=>cases d0 <;> cases eq
 | [d],rx,eq=>
   obtain ⟨v,rfl,rv⟩:=EA rx
   cases rv with
   | @lst a vs ds h1 h2 h3=>cases eq;exact ⟨a,vs,rfl,.inl (SqL.of h1),λq hq=>k q vs H c f .refl h3 hq⟩
   | @tup a vs ds h1 h2 h3=>cases eq;exact ⟨a,vs,rfl,.inr (SqT.of h1),λq hq=>k q vs H c f .refl h3 hq⟩
   | @scr a ns h1=>cases eq;exact ⟨a,_,rfl,.inl h1.sq,λq hq=>k q _ H c f .refl (Reps.ints ns) hq⟩
   | @obj a kk h1=>
     unfold Dh at eq;dsimp only at eq
     cases es:t.S[kk]? with
     | none=>rw [es] at eq;cases eq
     | some o=>
       rw [es] at eq
       cases o with
       | dct _ | ins _ _=>cases eq
       | lst ds=>
         cases eq
         obtain ⟨vs,g1,g2⟩:=f.s.obs kk a _ h1 es;exact ⟨a,vs,rfl,.inl (SqL.of g1),λq hq=>k q vs H c f .refl g2 hq⟩
   | _=>cases eq
def JN:List D->M D
 | [.int i]=>ret (.int i)
 | [.bl b]=>ret (.int (if b then 1 else 0))
 | _=>fail
theorem UV:E7 K (λxs H Q=>(∃i,xs=[.int i]/\Q (.int i) H)\/∃k,xs=[.bl k]/\Q (.int (if k then 1 else 0)) H) JN:=λ{Oo c t σ H xs ds r t' Q} f rx eq k=>by
 match ds,rx,eq with
 | [],_,eq=>cases eq
 | d0 :: _ :: _,_,eq=>cases d0 <;> cases eq
 | [d],rx,eq=>
   obtain ⟨v,rfl,rv⟩:=EA rx
   cases rv with
   | int i=>cases eq;exact .inl ⟨i,rfl,k _ H c f .refl (.int _)⟩
   | bl b=>cases eq;exact .inr ⟨b,rfl,k _ H c f .refl (.int _)⟩
   | _=>cases eq
def Zx:List D->M D
 | [.int i]=>ret (.int (if i < 0 then -i else i))
 | _=>fail
def JQ:List D->M D
 | [.int i,.int j]=>ret (.int (if j < i then j else i))
 | _=>fail
def JP:List D->M D
 | [.int i,.int j]=>ret (.int (if j > i then j else i))
 | _=>fail
theorem U1:E7 K (λxs H Q=>∃i j,xs=[.int i,.int j]/\Q (.int (if j < i then j else i)) H) JQ:=λ{Oo c t σ H xs ds r t' Q} f rx eq k=>by
 unfold JQ at eq
 split at eq
 ·next i j=>
  obtain ⟨v,u,rfl,rv,ru⟩:=N7 rx
  cases rv;cases ru;cases eq
  exact ⟨i,j,rfl,k _ H c f .refl (.int _)⟩
 ·cases eq
theorem U0:E7 K (λxs H Q=>∃i j,xs=[.int i,.int j]/\Q (.int (if j > i then j else i)) H) JP:=λ{Oo c t σ H xs ds r t' Q} f rx eq k=>by
 unfold JP at eq
 split at eq
 ·next i j=>
  obtain ⟨v,u,rfl,rv,ru⟩:=N7 rx
  cases rv;cases ru;cases eq
  exact ⟨i,j,rfl,k _ H c f .refl (.int _)⟩
 ·cases eq
def Iq:List D->M D
 | [.str x]=>λt=>if x.length=1 then some (.int (x.cps.getD 0 0:Nat),t) else none
 | _=>fail
theorem U4:E7 K (λxs H Q=>∃x,xs=[.str x]/\x.length=1/\Q (.int (x.cps.getD 0 0:Nat)) H) Iq:=λ{Oo c t σ H xs ds r t' Q} f rx eq k=>by
 match ds,rx,eq with
 | [],_,eq=>cases eq
 | d0 :: _ :: _,_,eq=>cases d0 <;> cases eq
 | [d],rx,eq=>
   obtain ⟨v,rfl,rv⟩:=EA rx
   cases rv with
   | str x=>
     unfold Iq at eq;dsimp only at eq
     split at eq
     ·next h=>cases eq;exact ⟨x,rfl,h,k _ H c f .refl (.int _)⟩
     ·cases eq
   | _=>cases eq
end
end F2
namespace L2
open PySem PySem.Spec PyProof.Rows
open AutoSeq1 (wpAny_loadPart')
end L2
namespace L2
open PySem PySem.Spec PyProof.Rows
open AutoSeq1 (wpAny_loadPart')
theorem MtM.or {X:Cx}{id:String}{r r':V->List V->Hp->VK->Prop}(h:MtM X id r)(h':MtM X id r'):MtM X id (λx xs H Q=>r x xs H Q\/r' x xs H Q):=by
 intro pins s σ H x xs v us Q I rx rv q;rcases q with q | q
 ·exact h pins s σ H x xs v us Q I rx rv q
 ·exact h' pins s σ H x xs v us Q I rx rv q
section
variable {X:Cx}{a b c d:Expr}{ta tb tc td:TE}{pos:Pos}
end
end L2
namespace F2
open PySem L2 PySem.Spec
section
variable {K:PySem.W.Frag}
def AG (x y:D):M D:=VD x y
def Tb (K:PySem.W.Frag):R2:=N4 K
theorem M3 {X:Cx}:OpR X (binaryOp .Add) (Tb X.K):=Uk
theorem Mi:Bn K (Tb K) AG:=US
def Ry:D->D->M D
 | .int i,.int j=>λt=>if EX i j=true then some (.int (i * j),t) else none
 | _,_=>fail
def N5 (K:PySem.W.Frag):R2:=rI CMul (λi j=>.int (i * j))
theorem op_mul3 {X:Cx}:OpR X (binaryOp .Mult) (N5 X.K):=WO
theorem U3:Bn K (N5 K) Ry:=λ{Oo c t σ H x y dx dy r t' Q} f rx ry eq k=>by
 cases rx with
 | int i=>
   cases ry with
   | int j=>
     unfold Ry at eq;dsimp only at eq
     split at eq
     ·next h=>cases eq;exact ⟨i,j,rfl,rfl,Px h,k _ H c f .refl (.int _)⟩
     ·cases eq
   | _=>cases eq
 | _=>cases eq
end
variable {K:PySem.W.Frag}
section
variable {X:Cx}{e a b:Expr}{pos:Pos}
def Bu (xs:List D):List D->Option (List D)
 | [d]=>if xs.length < LIM then some (xs++[d]) else none
 | _=>none
def EJ (xs:List D):List D->Option (List D)
 | [.lst ys]=>if xs.length + ys.length<=LIM then some (xs++ys) else none
 | _=>none
def ownM (i:Nat)(h:List D->List D->Option (List D))(g:M (List D)):M Out:=λt=>match t.env[i]? with
 | some (some (.own _))=>bnd g (λds t1=>match t1.env[i]? with
   | some (some (.own xs))=>(h xs ds).map λys=>(.next,{ t1 with env:=t1.env.set i (some (.own ys)) })
   | _=>none) t
 | _=>none
def Nv (K:PySem.W.Frag)(R:V->List V->Hp->VK->Prop)(h:List D->List D->Option (List D)):Prop:=∀{c:Cf} {S:List Ob} {H:Hp} {a:Addr} {vs us:List V} {xs ds ys:List D} {Q:VK},SInv K c S H->H a=some (.lst vs)->Reps K c H vs xs->Reps K c H us ds->h xs ds=some ys->
 (∀ws,Reps K c H ws ys->Q .non (upd H a (.lst ws)))->R (.ref a) us H Q
theorem Ng:Nv K M8 Bu:=λ{c S H a vs us xs ds ys Q} s h r rs e k=>by
 unfold Bu at e
 split at e
 ·next d=>
  split at e
  ·next hl=>
   cases e
   obtain ⟨v,rfl,rv⟩:=EA rs;exact ⟨a,vs,v,rfl,rfl,h,by rw [r.length];exact ue1 hl C9,k _ (r.append (.cons rv .nil))⟩
  ·cases e
 ·cases e
def Tc (K:PySem.W.Frag):V->List V->Hp->VK->Prop:=M9
theorem MZ {X:Cx}:MtM X "list.extend" (Tc X.K):=Pw
theorem Nh:Nv K (Tc K) EJ:=λ{c S H a vs us xs ds ys Q} s h r rs e k=>by
 unfold EJ at e
 split at e
 ·split at e
  ·next hl=>
   cases e
   obtain ⟨v,rfl,rv⟩:=EA rs
   cases rv with
   | lst h1 h2 h3=>exact ⟨a,_,vs,_,rfl,rfl,h,h1,by rw [r.length,h3.length];exact ul1 hl C9,k _ (r.append h3)⟩
  ·cases e
 ·cases e
theorem RS.ownM {μ:Cf->Hp->D->(V->Hp->Prop)->Prop}{K:PySem.W.Frag}{i:Nat}{h:List D->List D->Option (List D)}{g:M (List D)}{R:V->List V->Hp->VK->Prop}(s:Nv K R h){E:Ends}{σ:L2.St}{H:Hp}(q:RSg K μ (F2.ownM i h g) E σ H):Tj (tBM K "list" R (XF i) (RA K g)) E σ H:=by
 obtain ⟨Oo,c,t,fi,o,t',eq,k⟩:=q;unfold F2.ownM at eq
 split at eq
 ·next xs0 e0=>
  obtain ⟨ds,t1,e1,eq⟩:=Af eq;obtain ⟨a,vs0,h1,h2,h3,h4,h5⟩:=fi.own i xs0 e0;refine ⟨.ref a,h1,.inl ⟨rfl,vs0,SqL.of h4⟩,Oo,c,t,fi,ds,t1,e1,λus H1 c1 f1 s1 rus=>?_⟩
  split at eq
  ·next xs ex=>
   obtain ⟨ys,ey,ez⟩:=uc2.mp eq
   cases ez
   obtain ⟨a',vs,g1,g2,g3,g4,g5⟩:=f1.own i xs ex;rw [h1] at g1;injection g1 with g1;injection g1 with g1;injection g1 with g1;subst g1
   refine s f1.s g4 g5 rus ey λws rws=>?_;obtain ⟨f2,s2⟩:=f1.wrOwn ex h1 rws;exact k σ _ c1 f2 (s1.trans s2)
  ·cases eq
 ·cases eq
theorem O0 {μ:Cf->Hp->D->(V->Hp->Prop)->Prop}(i:Nat){x:Str}{es:List Expr}{g:M (List D)}{px apos cpos:Pos}(ha:PA X (e :: es) (RA X.K g))(hN:X.N[i]?=some x:=by rfl)(hv:Vis X.env.scope x:=by walk_at "h")(hd:(x == ("__debug__" : Str))=false:=by decide)
 (hcd:(x == ("__classdict__" : Str))=false:=by decide)
 (hbase:attributeBase (.Name x px) "append" X.env (eval (.Name x px) X.env)=eval (.Name x px) X.env:=by rfl)
 (hfew:((backTo cpos (starEach (e :: es) X.env)).all (λx=>!x.1) && (backToKw cpos (keywordEach [] X.env)).all (λx=>x.1.isSome) && decide ((e :: es).length + ([]:List Keyword).length + (if ([]:List Keyword).isEmpty then 0 else 1) < 30))=true:=by rfl)
 (hline:(apos.endLine == cpos.line)=true:=by rfl) (hs:starEach (e :: es) X.env=(false,eval e X.env) :: starEach es X.env:=by rfl) (hplain:(backTo cpos (starEach es X.env)).any (·.1)=false:=by rfl) :
 PS X (.Expr (.Call (.Attribute (.Name x px) "append" apos) (e :: es) [] cpos) pos) (RSg X.K μ (ownM i Bu g)):=
 A9 (JT (Jf ub6 PySem.F.slot_list_append PySem.F.type_list_append Ky (Cd hN hv hd hcd) ha hbase hfew hline hs hplain)) λ_ _ _ q=>RS.ownM Ng q
theorem O1 {μ:Cf->Hp->D->(V->Hp->Prop)->Prop}(i:Nat){x:Str}{es:List Expr}{g:M (List D)}{px apos cpos:Pos}(ha:PA X (e :: es) (RA X.K g))(hN:X.N[i]?=some x:=by rfl)(hv:Vis X.env.scope x:=by walk_at "h")(hd:(x == ("__debug__" : Str))=false:=by decide)
 (hcd:(x == ("__classdict__" : Str))=false:=by decide)
 (hbase:attributeBase (.Name x px) "extend" X.env (eval (.Name x px) X.env)=eval (.Name x px) X.env:=by rfl)
 (hfew:((backTo cpos (starEach (e :: es) X.env)).all (λx=>!x.1) && (backToKw cpos (keywordEach [] X.env)).all (λx=>x.1.isSome) && decide ((e :: es).length + ([]:List Keyword).length + (if ([]:List Keyword).isEmpty then 0 else 1) < 30))=true:=by rfl)
 (hline:(apos.endLine == cpos.line)=true:=by rfl) (hs:starEach (e :: es) X.env=(false,eval e X.env) :: starEach es X.env:=by rfl) (hplain:(backTo cpos (starEach es X.env)).any (·.1)=false:=by rfl) :
 PS X (.Expr (.Call (.Attribute (.Name x px) "extend" apos) (e :: es) [] cpos) pos) (RSg X.K μ (ownM i EJ g)):=
 A9 (JT (Jf ub6 PySem.F.slot_list_extend PySem.F.type_list_extend MZ (Cd hN hv hd hcd) ha hbase hfew hline hs hplain)) λ_ _ _ q=>RS.ownM Nh q
def objM (h:List D->List D->Option (List D))(f:M D)(g:M (List D)):M D:=bnd f λo=>match o with
 | .obj k=>λt=>match t.S[k]? with
   | some (.lst _)=>bnd g (λds t1=>match t1.S[k]? with
     | some (.lst xs)=>(h xs ds).map λys=>(.non,{ t1 with S:=t1.S.set k (.lst ys) })
     | _=>none) t
   | _=>none
 | _=>fail
theorem RE.objM {K:PySem.W.Frag}{h:List D->List D->Option (List D)}{f:M D}{g:M (List D)}{R:V->List V->Hp->VK->Prop}(s:Nv K R h){σ:L2.St}{H:Hp}{Q:VK}(q:RE K (F2.objM h f g) σ H Q):tBM K "list" R (RE K f) (RA K g) σ H Q:=by
 obtain ⟨Oo,c,t,fi,r,t',eq,k⟩:=q;obtain ⟨o,t0,e0,eq⟩:=Af eq;refine ⟨Oo,c,t,fi,o,t0,e0,λx H0 c0 f0 s0 rx=>?_⟩
 cases rx with
 | @obj a kk hk=>
   dsimp only at eq
   split at eq
   ·next xs0 ex0=>
    obtain ⟨ds,t1,e1,eq⟩:=Af eq;obtain ⟨vs0,g0,g0'⟩:=f0.s.obs kk a _ hk ex0;refine ⟨.inl ⟨rfl,vs0,SqL.of g0⟩,Oo,c0,t0,f0,ds,t1,e1,λus H1 c1 f1 s1 rus=>?_⟩
    split at eq
    ·next xs ex=>
     obtain ⟨ys,ey,ez⟩:=uc2.mp eq
     cases ez
     have hk1:=s1.ext.io _ _ hk;obtain ⟨vs,g1,g2⟩:=f1.s.obs kk a _ hk1 ex;refine s f1.s g1 g2 rus ey λws rws=>?_;obtain ⟨f2,s2⟩:=f1.wrObj (o:=.lst ys) (u:=.lst ws) hk1 λc' H' ext hu=>⟨ws,hu,rws.mono ext⟩;exact k _ _ c1 f2 ((s0.trans s1).trans s2) .non
    ·cases eq
   ·cases eq
 | _=>cases eq
theorem OP {o:Expr}{es:List Expr}{f:M D}{g:M (List D)}{apos cpos:Pos}(ho:PE X o (RE X.K f))(ha:PA X (e :: es) (RA X.K g))
 (hbase:attributeBase o "append" X.env (eval o X.env)=eval o X.env:=by rfl)
 (hfew:((backTo cpos (starEach (e :: es) X.env)).all (λx=>!x.1) && (backToKw cpos (keywordEach [] X.env)).all (λx=>x.1.isSome) && decide ((e :: es).length + ([]:List Keyword).length + (if ([]:List Keyword).isEmpty then 0 else 1) < 30))=true:=by rfl)
 (hline:(apos.endLine == cpos.line)=true:=by rfl) (hs:starEach (e :: es) X.env=(false,eval e X.env) :: starEach es X.env:=by rfl) (hplain:(backTo cpos (starEach es X.env)).any (·.1)=false:=by rfl) :
 PE X (.Call (.Attribute o "append" apos) (e :: es) [] cpos) (RE X.K (objM Bu f g)):=
 AD (Jf ub6 PySem.F.slot_list_append PySem.F.type_list_append Ky ho ha hbase hfew hline hs hplain) λ_ _ _ q=>RE.objM Ng q
def Xw (o i d:D):M Unit:=match o,i with
 | .obj k,.int j=>λt=>match t.S[k]? with
   | some (.lst xs)=>(ixN xs.length j).map λn=>((),{ t with S:=t.S.set k (.lst (xs.set n d)) })
   | _=>none
 | _,_=>fail
def stD (f g:M D)(d:D):M Unit:=bnd f λo=>bnd g λi=>Xw o i d
end
section
variable {X:Cx}{e a b tg iter elt:Expr}{ifs:List Expr}{pos:Pos}{scope:Scope}{N':List Str}{n:Nat}{fr:List Nat}{f:M (List D)}{st:D->M Unit}{tst:M Bool}{el:M D}
def FR:M Bool:=ret true
theorem TJ:PIf X [] (RT X.K FR):=λpins s σ H Q I z9=>by
 obtain ⟨Oo,c,t,fi,r,t',eq,k⟩:=z9;exact Uz pins s σ H Q I (by cases eq;exact k H c fi .refl)
theorem TK {g:M Bool}(h:PT X e (RT X.K g)):PIf X [e] (RT X.K g):=UA h
theorem FT (O:CmpOk X scope N' (FJ n fr))(hc:X.calm=true)(hi:PI X tg iter (RI X.K f))
 (hg:∀cl C s2 H2 fp,PG (Cy X N' scope cl C s2 H2 fp) tg (RG X.K st)) (ht:∀cl C s2 H2 fp,PIf (Cy X N' scope cl C s2 H2 fp) ifs (RT X.K tst)) (he:∀cl C s2 H2 fp,PE (Cy X N' scope cl C s2 H2 fp) elt (RE X.K el))
 (hs:∀x,foldedSetIterable iter X.env x=pure x:=by intro _;rfl):PE X (.ListComp elt [⟨tg,iter,ifs,0⟩] scope pos) (RF X.K (Cz n fr f st tst el)):=
 AD (M5 O hc hi hg ht he hs) λ_ _ _ q=>RF.comp q
theorem Fd (tgs:List Str)(frn:List (Nat×Str))(hk:scope.kind = .function)(hcell:(scope.names.all λy=>y.2 != .cell)=true)(hloc:(scope.names.all λy=>y.2 != .local || scope.names.lookup y.1 == some .local)=true)
 (hfree:(scope.names.all λy=>y.2 != .free || X.env.kindOf y.1 == some .cell || X.env.kindOf y.1 == some .free)=true)
 (hf:(frn.all λp=>X.N[p.1]? == some p.2 && scope.names.lookup p.2 == some .free)=true):CmpOk X scope (tgs++frn.map (·.2)) (FJ tgs.length (frn.map (·.1))):=by
 rw [uh2] at hcell hloc hfree hf;refine ⟨hk,λy hy=>by simpa using hcell y hy,λy hy hl=>?_,λy hy hl=>?_,λσ _=>by simp [FJ],λσ j x v h1 h2=>?_⟩
 ·have:=hloc y hy;simpa [hl] using this
 ·have:=hfree y hy;simpa [hl] using this
 ·unfold FJ at h2
  by_cases hj:j < tgs.length
  ·rw [ub0 (by simpa using hj),ub5] at h2
   split at h2 <;> simp at h2
  ·rw [ua5 (by simpa using hj),uc9,uf3,uf3] at h2;rw [ua5 (by simpa using hj),uf3] at h1
   cases e:frn[j - tgs.length]? with
   | none=>rw [e] at h1;cases h1
   | some p=>
     rw [e] at h1 h2;simp only [ui6,uf9] at h1 h2;have hp:=hf p (ud4 e);rw [uh0] at hp;refine ⟨p.1,by rw [<-h1];simpa using hp.1,?_,by rw [<-h1];simpa using hp.2⟩
     cases e2:σ[p.1]? with
     | none=>rw [e2] at h2;cases h2
     | some o=>rw [e2] at h2;simpa using h2
end
mutual
noncomputable def C7:D->Bool
 | .tup xs=>L7 xs
 | .lst xs=>L7 xs
 | .obj _=>false
 | .scr _=>false
 | .exc _ _=>false
 | _=>true
noncomputable def L7:List D->Bool
 | []=>true
 | d :: r=>C7 d && L7 r
end
def c0:Cf:=⟨[],λ_=>False⟩
theorem Lm (a:Addr):¬c0.A a:=λh=>h.elim (λz=>nomatch z) λz=>z
mutual
theorem FY {K:PySem.W.Frag}{c:Cf}{H:Hp}{v:V}{d:D}(r:Rep K c H v d)(p:C7 d=true):Rep K c0 H v d:=by
 cases r with
 | non=>exact .non
 | bl b=>exact .bl b
 | int i=>exact .int i
 | str x=>exact .str x
 | ty n=>exact .ty n
 | tup h n r=>exact .tup h (Lm _) (HC r (by simpa [C7] using p))
 | lst h n r=>exact .lst h (Lm _) (HC r (by simpa [C7] using p))
 | scr h=>simp [C7] at p
 | dic h n=>exact .dic h (Lm _)
 | obj h=>simp [C7] at p
 | exc _ _ _ _ _=>simp [C7] at p
theorem HC {K:PySem.W.Frag}{c:Cf}{H:Hp}{vs:List V}{ds:List D}(r:Reps K c H vs ds)(p:L7 ds=true):Reps K c0 H vs ds:=by
 cases r with
 | nil=>exact .nil
 | cons h t=>
   simp only [L7,uh0] at p;exact .cons (FY h p.1) (HC t p.2)
end
noncomputable def Fw (S:List Ob):D->D
 | .obj k=>match S[k]? with
   | some (.lst ds)=>.lst ds
   | _=>.obj k
 | d=>d
noncomputable def Ri:D->Bool
 | .obj _=>true
 | _=>false
def eqS (g:Bool->Bool)(x y:D):M D:=λt=>
 if (Ri x || Ri y)=true then (if (C7 (Fw t.S x) && C7 (Fw t.S y))=true then (eqN EQD (Fw t.S x) (Fw t.S y)).map λb=>(.bl (g b),t) else none)
 else (eqN EQD x y).map λb=>(.bl (g b),t)
theorem Mb {c:Cf}{S:List Ob}{H:Hp}{v:V}{d:D}(s:SInv K c S H)(r:Rep K c H v d)(p:C7 (Fw S d)=true):Rep K c0 H v (Fw S d):=by
 cases r with
 | @obj a k hk=>
   unfold Fw at p ⊢;dsimp only at p ⊢
   split
   ·next ds e=>
    rw [e] at p;obtain ⟨vs,h1,h2⟩:=s.obs k a _ hk e;exact .lst h1 (Lm _) (HC h2 (by simpa [C7] using p))
   ·next h=>
    split at p
    ·next ds e=>exact absurd e (h ds)
    ·simp [C7] at p
 | non=>exact .non
 | bl b=>exact .bl b
 | int b=>exact .int b
 | str b=>exact .str b
 | ty b=>exact .ty b
 | tup h n q=>exact FY (.tup h n q) p
 | lst h n q=>exact FY (.lst h n q) p
 | scr h=>exact FY (c:=c) (.scr h) p
 | dic h n=>exact FY (.dic h n) p
 | exc a b n f q=>exact FY (.exc a b n f q) p
theorem HF {g:Bool->Bool}:Bn K (Sa K g) (eqS g):=λ{Oo c t σ H x y dx dy r t' Q} f rx ry eq k=>by
 unfold eqS at eq
 split at eq
 ·split at eq
  ·next hp=>
   rw [uh0] at hp;obtain ⟨b,e1,e2⟩:=uc2.mp eq
   cases e2
   exact ⟨c0,_,_,b,Mb f.s rx hp.1,Mb f.s ry hp.2,e1,k _ H c f .refl (.bl (g b))⟩
  ·cases eq
 ·obtain ⟨b,e1,e2⟩:=uc2.mp eq
  cases e2
  exact ⟨c,dx,dy,b,rx,ry,e1,k _ H c f .refl (.bl (g b))⟩
theorem Pp {H:Hp}{a:Addr}{ns:List Int}{f:Fn}{S':List Ob}(hO:Nt H)(hS:SqL K H a (ns.map V.int))(e:f [.scr ns] []=some (.bl true,S')):spF K f [.ref a] H (λv _=>v = .bl true) λ_ _ _=>False:=by
 refine ⟨c0,[.scr ns],[],⟨rfl,List.Pairwise.nil,λk a o h=>by simp [c0] at h,λb z=>z.elim,λb z=>z.elim⟩,.cons (.scr ?_) .nil,.bl true,S',e,λv H' c' _ _ _ rv=>by cases rv;rfl⟩;rcases hS with (h | h) | h
 ·rcases hO a with z | ⟨o,xs,z⟩
  ·rw [z] at h;cases h
  ·rw [z] at h;cases h
 ·exact .inl ⟨h,Lm _⟩
 ·exact .inr h
end F2
namespace L2
open PySem PySem.Spec PyProof.Rows
section
variable {prog:Program}{w:World}{A:Around}{E:Value->Shared->Prop}{s:Shared}
theorem IN {it l:Addr}{items:Array Value}(hne:l≠it):∀(n i:Nat) (s:Shared) (Q:List Value->Shared->Prop),s.heap.IsListIter it l i->s.heap.IsList l items->i + n<=items.size->
 (∀h',h'.IsListIter it l (i + n)->Heap.SameBut it s.heap h'->Q ((items.toList.drop i).take n) { s with heap:=h' })->wpAny (model prog w) A (draw (.ref it) n) Q E s
 | 0,i,s,Q,hit,_,_,hQ=>um4 (by simpa using hQ s.heap hit (Heap.SameBut.refl ..))
 | n + 1,i,s,Q,hit,ht,hle,hQ=>by
   have hlt:i < items.size:=by lia
   refine um3 (wpAny_pyNext_list_item hit ht (x:=items[i]) (by simp [hlt]) λh1 hit1 hs1=>?_);refine um3 (uk8 (IN hne n (i + 1) _ _ hit1 (ht.extBut hs1.extBut hne) (by lia) λh2 hit2 hs2=>um4 ?_));have hd:items.toList.drop i=items[i] :: items.toList.drop (i + 1):=by simp [ub1,hlt]
   have:=hQ h2 (by rw [show i + (n + 1)=i + 1 + n by lia];exact hit2) (hs1.trans hs2);rw [hd,List.take_succ_cons] at this;exact this
theorem Mr {l:Addr}{items:Array Value}{targets:List (Bool×(Value->Sem Unit))}{Q:Unit->Shared->Prop}(hh:A.handled=none)(ht:s.heap.IsList l items)(hn:targets.length=items.size)(hstar:targets.findIdx? (·.1)=none)
 (h:∀h',Heap.ExtBut s.heap.objs.size s.heap h'->wpAny (model prog w) A (assignInOrder (targets.map (·.2)) items.toList) Q E { s with heap:=h' }):wpAny (model prog w) A (unpack (.ref l) targets) Q E s:=by
 have hlt:l≠s.heap.objs.size:=by obtain ⟨o,ho,_⟩:=ht;exact ul0 (uk9 ho)
 unfold unpack;rw [hn,hstar];refine um3 (uk8 ?_);unfold unpackItems;refine um3 ?_;unfold notIterableAtAll;refine um3 (wpAny_specialOf ht.typeIs PySem.F.slot_list_iter.lookup ?_);refine um4 ?_;simp only [ue7,if_false];refine um3 (uk8 (wpAny_pyIter_list ht ?_));have hp:Heap.IsList (s.heap.push { cls:=.type "list_iterator",data:=.fields #[.ref l,.int 0 0] }) l items:=by
  obtain ⟨o,ho,r⟩:=ht;exact ⟨o,ub9 _ ho,r⟩
 refine um3 (uk8 (IN hlt items.size 0 _ _ ⟨_,ud7 _ rfl,rfl,rfl⟩ hp (by lia) λh1 hit1 hs1=>?_));have hall:List.take items.size (List.drop 0 items.toList)=items.toList:=by
  rw [uj5];exact uc3 (by simp)
 rw [hall];rw [if_neg (by simp)];have ht1:Heap.IsList h1 l items:=hp.extBut hs1.extBut hlt;refine um3 (uk8 (wpAny_pyNext_list_end hh hit1 ht1 (by simp) λh2 he2=>?_));simp only [Option.isSome_none,ue7,if_false];exact um4 (h h2 λb o hb e=>he2 b o hb (hs1.extBut b o hb (ub9 _ e)))
end
section
variable {X:Cx}{pos:Pos}
def gUn (K:PySem.W.Frag)(n:Nat)(t:TGs):TG:=λv σ H Q=>∃a xs,v = .ref a/\(SqT K H a xs\/SqL K H a xs)/\xs.length=n/\t xs σ H Q
theorem Yv {es:List Expr}{k:Nat}{t:TGs}{n:Nat}(hc:X.calm=true)(h:PGs X es t)
 (hn:(assignEach es X.env).length=n:=by rfl) (hst:(assignEach es X.env).findIdx? (·.1)=none:=by rfl):PG X (.Tuple es k pos) (gUn X.K n t):=by
 intro pins s σ H v u Q I r hw;obtain ⟨a,xs,e1,hq | hq,hl,hw⟩:=hw
 ·exact W4 hc h hn hst pins s σ H v u Q I r ⟨a,xs,e1,hq,hl,hw⟩
 ·subst e1
  cases r
  obtain ⟨its,rv,ht,hz⟩:=I.list hq;rw [assign_Tuple];refine um3 (wpAny_standAt (Mr (I.ok.hd hc) ht.isList (by simp [hn,<-hl,rv.length]) hst λh' hx=>?_));have I1:Inv X pins σ H { s with heap:=h' }:=I.kept (t':=s.toks) λb o e=>hx b o (ul0 (uk9 e)) e;exact h pins _ σ H xs _ Q I1 (by simpa using rv) hw
end
section
open HT
variable {prog:Program}{w:World}{A:Around}{E:Value->Shared->Prop}{s:Shared}
end
section
variable {X:Cx}
end
noncomputable def Its (z:Str):It:=⟨λi _=>i < z.cps.size,λi H x H'=>H'=H/\∃c,z.cps[i]?=some c/\x = .str ⟨#[c]⟩,λi _=>i=z.cps.size⟩
theorem Mq {P:Program}{w:World}{K:PySem.W.Frag}{tg:Expr}{T:String}{x:Str}{t:Tok}(it:Addr)(hT:["enumerate", "zip", "dict_itemiterator", "dict_reverseitemiterator", "odict_iterator", "itertools.zip_longest", "itertools.pairwise"].contains T=false)
 (W:∀A:Around,A.handled=none->Walks P w A it [it] [it] x.cps.size (SignAt x) (λi h=>h.IsStrIter it T x t i))
 (self:∀(A:Around) (i:Nat) (s:Shared) (Q:Value->Shared->Prop) (E:Value->Shared->Prop),s.heap.IsStrIter it T x t i->Q (.ref it) s->wpAny (model P w) A (pyIter (.ref it)) Q E s) :
 Turn P w K tg (Its x) [it] it (λi h=>h.IsStrIter it T x t i) where
 mem:=by simp
 obj:=λi h st b hb=>by
  have e:b=it:=by simpa using hb
  subst e;obtain ⟨o,e,c,d⟩:=st;exact ⟨o,e,λv z=>by rw [d] at z;cases z⟩
 keep:=λi h h' st k=>by
  obtain ⟨o,e,r⟩:=st;exact ⟨o,k it (by simp) o e,r⟩
 item:=by
  intro X hP hw hK hc i pins s σ H E I hf st hg;subst hP hw hK;obtain ⟨f0,f1,f2,f3,f4,f5⟩:=hf it (by simp);refine (W X.A (I.ok.hd hc)).item i s _ _ hg st λv h' tk hv st' kk=>?_;obtain ⟨c,u,hcc,rfl⟩:=hv;have I1:Inv X pins σ H { s with heap:=h',toks:=tk }:=I.turned (λb o hb e=>kk b o (by simpa using hb) e) f0 f1 f3 f4 f5;obtain ⟨o,e,ec,ed⟩:=id st';exact ⟨_,rfl,KZ (s:={ s with heap:=h',toks:=tk }) e ec ed hT ⟨.str ⟨#[c]⟩,H,I1,⟨u,rfl⟩,⟨rfl,c,hcc,rfl⟩,st',λb hb=>(hf b hb).1⟩⟩
 done:=by
  intro X hP hw hK hc i pins s σ H E I hf st hg;subst hP hw hK;obtain ⟨f0,f1,f2,f3,f4,f5⟩:=hf it (by simp);have hg':i=x.cps.size:=hg;subst hg';exact (W X.A (I.ok.hd hc)).done s _ _ st λh' tk kk=>⟨rfl,I.turned (λb o hb e=>kk b o (by simpa using hb) e) f0 f1 f3 f4 f5⟩
 self:=λA i s Q E st h=>self A i s Q E st h
section
variable {X:Cx}{tg:Expr}{pos:Pos}
def ZJ (K:PySem.W.Frag)(tl:TE):TI:=λσ H R=>tl σ H λx H1=>(∃a,x = .ref a/\(∃xs,SqL K H1 a xs)/\R (Itl K a) H1)\/(∃a,x = .ref a/\(∃xs,SqT K H1 a xs)/\R (Itt K a) H1)\/∃z,x = .str z/\R (Its z) H1
theorem PR {l:Expr}{tl:TE}(hl:PE X l tl):PI X tg l (ZJ X.K tl):=by
 intro pins s σ H R I h;refine thn (hl pins s σ H _ I h) λv s1 z9=>?_;obtain ⟨x,H1,I1,r1,q1⟩:=z9;have fp:∀b∈[s1.heap.objs.size],FpOk X pins H1 b:=λb hb=>by
  have e:b=s1.heap.objs.size:=by simpa using hb
  subst e;exact I1.fpOk (ul9 _) (I1.hok.fresh (ul9 _))
 rcases q1 with ⟨a,rfl,⟨xs,hq⟩,q⟩ | ⟨a,rfl,⟨xs,hq⟩,q⟩ | ⟨z,rfl,q⟩
 ·cases r1
  obtain ⟨its,rv,p,hz⟩:=I1.list hq;refine wpAny_pyIter_list p.isList ?_;exact ⟨s1.heap.objs.size,[s1.heap.objs.size],_,_,H1,rfl,I1.kept (t':=s1.toks) λb o e=>ub9 _ e,Qj a _,⟨_,ud7 _ rfl,rfl,rfl⟩,fp,q⟩
 ·cases r1
  obtain ⟨its,rv,p,hz⟩:=I1.tuple hq;refine wpAny_pyIter_tuple (show s1.heap.IsTuple a its.toArray from p) ?_;exact ⟨s1.heap.objs.size,[s1.heap.objs.size],_,_,H1,rfl,I1.kept (t':=s1.toks) λb o e=>ub9 _ e,Oh a _,⟨_,ud7 _ rfl,rfl,rfl⟩,fp,q⟩
 ·obtain ⟨t,rfl⟩:=r1
  cases ha:z.cps.all (· < 128)
  ·refine wpAny_pyIter_wide ha ?_;exact ⟨s1.heap.objs.size,[s1.heap.objs.size],_,_,H1,rfl,I1.kept (t':=s1.toks) λb o e=>ub9 _ e,Mq (T:="str_iterator") (x:=z) (t:=t) _ (by decide) (λA hA=>Walks.strWide hA _ z t) (λ_ _ _ _ _ st h=>wpAny_pyIter_striter_wide st h),⟨_,ud7 _ rfl,rfl,rfl⟩,fp,q⟩
  ·refine wpAny_pyIter_ascii ha ?_;exact ⟨s1.heap.objs.size,[s1.heap.objs.size],_,_,H1,rfl,I1.kept (t':=s1.toks) λb o e=>ub9 _ e,Mq (T:="str_ascii_iterator") (x:=z) (t:=t) _ (by decide) (λA hA=>Walks.strAscii hA _ z t) (λ_ _ _ _ _ st h=>wpAny_pyIter_striter_ascii st h),⟨_,ud7 _ rfl,rfl,rfl⟩,fp,q⟩
def Tf:R2:=λx y H Q=>∃z k,x = .str z/\y = .int k/\MulOk z k/\Q (.str (Txt.mul z k)) H
theorem Uo:OpR X (binaryOp .Mult) Tf:=by
 intro pins s σ H x y v u Q I rx ry h;obtain ⟨z,k,rfl,rfl,hk,q⟩:=h;obtain ⟨t,rfl⟩:=rx;obtain ⟨t',rfl⟩:=ry;exact SB.mul hk λt2 tk=>⟨.str _,H,I.tok tk,⟨t2,rfl⟩,q⟩
def Gs (g:Int->Int->Bool)(h:List Nat->List Nat->Bool):R2:=λx y H Q=>(∃i j,x = .int i/\y = .int j/\Q (.bl (g i j)) H)\/∃i j,x = .str i/\y = .str j/\Q (.bl (h i.cps.toList j.cps.toList)) H
theorem WM:OpR X (compareOp .Lt) (Gs (λi j=>decide (i < j)) λi j=>decide (i < j)):=op_lt.or λpins s σ H x y v u Q I rx ry h=>by
 obtain ⟨i,j,rfl,rfl,q⟩:=h;obtain ⟨t,rfl⟩:=rx;obtain ⟨t',rfl⟩:=ry;exact P.lt_str ⟨.bl _,H,I,rfl,q⟩
theorem PN:OpR X (compareOp .LtE) (Gs (λi j=>decide (i<=j)) λi j=>!(decide (j < i))):=op_le.or λpins s σ H x y v u Q I rx ry h=>by
 obtain ⟨i,j,rfl,rfl,q⟩:=h;obtain ⟨t,rfl⟩:=rx;obtain ⟨t',rfl⟩:=ry;exact P.le_str ⟨.bl _,H,I,rfl,q⟩
theorem PK:OpR X (compareOp .Gt) (Gs (λi j=>decide (j < i)) λi j=>decide (j < i)):=op_gt.or λpins s σ H x y v u Q I rx ry h=>by
 obtain ⟨i,j,rfl,rfl,q⟩:=h;obtain ⟨t,rfl⟩:=rx;obtain ⟨t',rfl⟩:=ry;exact P.gt_str ⟨.bl _,H,I,rfl,q⟩
theorem WK:OpR X (compareOp .GtE) (Gs (λi j=>decide (j<=i)) λi j=>!(decide (i < j))):=op_ge.or λpins s σ H x y v u Q I rx ry h=>by
 obtain ⟨i,j,rfl,rfl,q⟩:=h;obtain ⟨t,rfl⟩:=rx;obtain ⟨t',rfl⟩:=ry;exact P.ge_str ⟨.bl _,H,I,rfl,q⟩
end
end L2
namespace F2
open PySem L2 PySem.Spec
def Dg:D->M (List D)
 | .lst ds=>ret ds
 | .scr ns=>ret (ns.map .int)
 | .tup ds=>ret ds
 | .str x=>ret (x.cps.toList.map λc=>.str ⟨#[c]⟩)
 | _=>fail
def DR (f:M D):M (List D):=bnd f Dg
def B3:D->D->M D
 | .str x,.int k=>λt=>if Cg k=true/\x.length * k.toNat<=LIM/\k<=LIM/\x.length<=LIM then some (.str (Txt.mul x k),t) else none
 | x,y=>Ry x y
def Iv:D->Option Int->Option Int->M D:=slD
def Lx (g:Int->Int->Bool)(h:List Nat->List Nat->Bool):D->D->M D
 | .int i,.int j=>ret (.bl (g i j))
 | .str x,.str y=>ret (.bl (h x.cps.toList y.cps.toList))
 | _,_=>fail
def ltA:=Lx (λi j=>decide (i < j)) (λi j=>decide (i < j))
def leA:=Lx (λi j=>decide (i<=j)) (λi j=>!(decide (j < i)))
def gtA:=Lx (λi j=>decide (j < i)) (λi j=>decide (j < i))
def geA:=Lx (λi j=>decide (j<=i)) (λi j=>!(decide (i < j)))
def unS (n:Nat)(g:List D->M Unit):D->M Unit
 | .tup ds=>if ds.length=n then g ds else fail
 | .lst ds=>if ds.length=n then g ds else fail
 | _=>fail
def ZB:M D:=fC .dic
variable {tg:Expr}{K:PySem.W.Frag}{n:Nat}{g:List D->M Unit}{es:List Expr}
section
variable {X:Cx}{e a b:Expr}{pos:Pos}{st:Stmt}
theorem ItOk.str {K:PySem.W.Frag}{c:Cf}{H:Hp}{x:Str}:ItOk K (Its x) c H (x.cps.toList.map λc=>.str ⟨#[c]⟩):=by
 refine ⟨λc' H' i ex hi=>?_,λc' H' i y H'' d ex hd hy=>?_,λc' H' ex=>?_⟩
 ·show i < x.cps.size;simpa using hi
 ·obtain ⟨rfl,n,hn,rfl⟩:=hy;refine ⟨rfl,?_⟩;have:d = .str ⟨#[n]⟩:=by
   rw [uf3] at hd;have hn':x.cps.toList[i]?=some n:=by simpa using hn
   rw [hn'] at hd;simpa using hd.symm
  rw [this];exact .str _
 ·show _=x.cps.size;simp
theorem Wa {f:M D}(h:PE X e (RE X.K f)):PI X tg e (RI X.K (DR f)):=
 Iy (PR h) λσ H R z9=>by
  obtain ⟨Oo,c,t,fi,ds,t',eq,k⟩:=z9;obtain ⟨d,t1,e1,eq⟩:=Af eq;refine ⟨Oo,c,t,fi,d,t1,e1,λv H1 c1 f1 s1 rv=>?_⟩
  cases rv with
  | @lst p vs ds' h1 h2 h3=>
    cases eq
    exact .inl ⟨p,rfl,⟨vs,SqL.of h1⟩,k _ H1 c1 f1 s1 (ItOk.lst λc' H' ex=>⟨vs,SqL.of (ex.keep _ _ h1 h2),h3.mono ex⟩)⟩
  | @scr p ns h1=>
    cases eq
    exact .inl ⟨p,rfl,⟨_,h1.sq⟩,k _ H1 c1 f1 s1 (ItOk.lst λc' H' ex=>⟨_,(h1.mono ex).sq,Reps.ints ns⟩)⟩
  | @tup p vs ds' h1 h2 h3=>
    cases eq
    exact .inr (.inl ⟨p,rfl,⟨vs,SqT.of h1⟩,k _ H1 c1 f1 s1 (ItOk.tup λc' H' ex=>⟨vs,SqT.of (ex.keep _ _ h1 h2),h3.mono ex⟩)⟩)
  | str x=>
    cases eq
    exact .inr (.inr ⟨x,rfl,k _ H1 c1 f1 s1 ItOk.str⟩)
  | _=>cases eq
theorem RG.un {v:V}{σ:L2.St}{H:Hp}{Q:L2.St->Hp->Prop}(q:RG K (unS n g) v σ H Q):gUn K n (RGs K g) v σ H Q:=by
 obtain ⟨Oo,c,t,d,fi,rv,t',eq,k⟩:=q
 cases rv with
 | @tup a vs ds h1 h2 h3=>
   unfold unS at eq
   by_cases hn:ds.length=n
   ·dsimp only at eq;rw [if_pos hn] at eq;exact ⟨a,vs,rfl,.inl (SqT.of h1),by rw [h3.length];exact hn,Oo,c,t,ds,fi,h3,t',eq,k⟩
   ·dsimp only at eq;rw [if_neg hn] at eq;cases eq
 | @lst a vs ds h1 h2 h3=>
   unfold unS at eq
   by_cases hn:ds.length=n
   ·dsimp only at eq;rw [if_pos hn] at eq;exact ⟨a,vs,rfl,.inr (SqL.of h1),by rw [h3.length];exact hn,Oo,c,t,ds,fi,h3,t',eq,k⟩
   ·dsimp only at eq;rw [if_neg hn] at eq;cases eq
 | _=>cases eq
theorem Ye {k:Nat}(hc:X.calm=true)(h:PGs X es (RGs X.K g))(hn:(assignEach es X.env).length=n:=by rfl)(hst:(assignEach es X.env).findIdx? (·.1)=none:=by rfl):PG X (.Tuple es k pos) (RG X.K (unS n g)):=
 Ld (Yv hc h hn hst) λ_ _ _ _ q=>RG.un q
theorem QZ {f:D->M Unit}(h1:PG X e (RG X.K f))(h2:PGs X es (RGs X.K g))(hs:(assignEach (e :: es) X.env).map (·.2)=assign e X.env :: (assignEach es X.env).map (·.2):=by rfl):PGs X (e :: es) (RGs X.K (AF f g)):=
 MH (R0 h1 h2 hs) λ_ _ _ _ q=>RGs.cons q
end
section
variable {K:PySem.W.Frag}
def Te (K:PySem.W.Frag):R2:=λx y H Q=>N5 K x y H Q\/Tf x y H Q
theorem Um {X:Cx}:OpR X (binaryOp .Mult) (Te X.K):=op_mul3.or Uo
theorem MB {x:Str}{k:Int}(h:Cg k=true/\x.length * k.toNat<=LIM/\k<=LIM/\x.length<=LIM):MulOk x k:=by
 obtain ⟨g1,g2⟩:=FE h.1;have hL:LIM=100000:=rfl;refine ⟨?_,λh1 _=>?_,λh1 _=>?_⟩
 ·rw [Bool.or_eq_false_iff];exact ⟨uj0 (by lia),uj0 (by lia)⟩
 ·have h2:k<=100000:=by have:=h.2.2.1;rw [hL] at this;exact this
  have h3:x.length<=100000:=by have:=h.2.2.2;rw [hL] at this;exact this
  have h4:(92233720368547:Int)<=(2 ^ 63 - 1) / k:=by
   rw [Int.le_ediv_iff_mul_le (by lia)];lia
  lia
 ·have h5:=h.2.1;rw [hL] at h5;unfold Builtin.Str.tooLong
  first | exact uj0 (by unfold sizeLine;lia) | (unfold sizeLine;exact uj0 (by lia))
theorem Sm:Bn K (Te K) B3:=λ{Oo c t σ H x y dx dy r t' Q} f rx ry eq k=>by
 unfold B3 at eq
 split at eq
 ·next z kk=>
  split at eq
  ·next h=>
   cases eq
   cases rx
   cases ry
   exact .inr ⟨z,kk,rfl,rfl,MB h,k _ H c f .refl (.str _)⟩
  ·cases eq
 ·exact .inl (U3 f rx ry eq k)
def Xk (K:PySem.W.Frag):V->Option Int->Option Int->Hp->VK->Prop:=Sb K
theorem sl3 {X:Cx}:SlR X (Xk X.K):=sl2
theorem U6:QA K (Xk K) Iv:=Xs
theorem HE {g:Int->Int->Bool}{h:List Nat->List Nat->Bool}:Bn K (Gs g h) (Lx g h):=λ{Oo c t σ H x y dx dy r t' Q} f rx ry eq k=>by
 cases rx with
 | int i=>cases ry with
   | int j=>cases eq;exact .inl ⟨i,j,rfl,rfl,k _ H c f .refl (.bl _)⟩
   | _=>cases eq
 | str i=>cases ry with
   | str j=>cases eq;exact .inr ⟨i,j,rfl,rfl,k _ H c f .refl (.bl _)⟩
   | _=>cases eq
 | _=>cases eq
theorem UZ:Bn K (Gs (λi j=>decide (i < j)) λi j=>decide (i < j)) ltA:=HE
theorem Nj:Bn K (Gs (λi j=>decide (i<=j)) λi j=>!(decide (j < i))) leA:=HE
theorem Ni:Bn K (Gs (λi j=>decide (j < i)) λi j=>decide (j < i)) gtA:=HE
theorem UT:Bn K (Gs (λi j=>decide (j<=i)) λi j=>!(decide (i < j))) geA:=HE
end
variable {fa:Addr}{fd:FuncData}
theorem Wc {P:Program}{w:World}{mg:Str->Option Value}{base:Heap}{x qual:Str}{st:Stmt}{N ps:List Str}{k m:Nat}{g:M Out}(e1:ps.length=n)(e2:N.length=m)(F:Fun K x qual st fa fd)(S:FnScope N ps (Al st))
 (hb:∀(cdv:Value) (A:Around) (outer:List Env) (s:Shared) (H:Hp) (E:XK),Room k (A.deeper (PyProof.Rows.envOfC qual (Al st) s.heap.objs.size fa cdv))->
   PSs (Db CX0 P w K mg base N qual (Al st) fa cdv A outer s H E).nox (A8 st) (RS K g)):FnOk P w K mg base CX0 (k + 1) fa fd ps (spF K (fnOf n m g)):=by
 subst e1 e2;exact Yi F S hb
theorem Xo {P:Program}{w:World}{mg:Str->Option Value}{base:Heap}{ps:List Str}{k:Nat}{f g:Fn}(e:f=g)(h:FnOk P w K mg base CX0 k fa fd ps (spF K g)):FnOk P w K mg base CX0 k fa fd ps (spF K f):=by rw [e];exact h
theorem VG:bootBuiltins "len" = some (.builtin "len"):=by decide +kernel
theorem KG:bootBuiltins "isinstance" = some (.builtin "isinstance"):=by decide +kernel
theorem VJ:bootBuiltins "ord" = some (.builtin "ord"):=by decide +kernel
theorem VI:bootBuiltins "min" = some (.builtin "min"):=by decide +kernel
theorem VH:bootBuiltins "max" = some (.builtin "max"):=by decide +kernel
theorem OD:bootBuiltins "int" = some (.type "int"):=by decide +kernel
theorem VL:bootBuiltins "str" = some (.type "str"):=by decide +kernel
theorem Ts:bootBuiltins "bool" = some (.type "bool"):=by decide +kernel
theorem ML:bootBuiltins "list" = some (.type "list"):=by decide +kernel
theorem QK:bootBuiltins "tuple" = some (.type "tuple"):=by decide +kernel
noncomputable def AV:Expr->Bool
 | .Starred _ _=>true
 | _=>false
theorem A3 {e:Expr}{env:Env}(h:AV e=false):starEach (e :: es) env=(false,eval e env) :: starEach es env:=by
 cases e <;> first | rfl | cases h
def A1 (es:List Expr):Bool:=es.all λe=>!AV e
theorem AR:∀{es:List Expr} {env:Env} {p:Pos},A1 es=true->(backTo p (starEach es env)).any (·.1)=false/\(backTo p (starEach es env)).all (λx=>!x.1)=true
 | [],env,p,_=>⟨rfl,rfl⟩
 | e :: es,env,p,h=>by
   have h':AV e=false/\A1 es=true:=by
    rw [A1,uk2,uh0] at h;exact ⟨by simpa using h.1,h.2⟩
   obtain ⟨h1,h2⟩:=AR (es:=es) (env:=env) (p:=p) h'.2;rw [A3 h'.1];refine ⟨?_,?_⟩
   ·show (false || (backTo p (starEach es env)).any (·.1))=false;rw [h1];rfl
   ·show (!false && (backTo p (starEach es env)).all (λx=>!x.1))=true;rw [h2];rfl
variable {f:M (List D)}{p:Pos}{id:String}{R:List V->Hp->VK->Prop}
section
variable {X:Cx}{e a b:Expr}{es:List Expr}{pos:Pos}
theorem QQ {f:M D}{g:M (List D)}(ha:PE X e (RE X.K f))(hr:PA X es (RA X.K g))(hs:AV e=false:=by rfl):PA X (e :: es) (RA X.K (Ab f g)):=Tx ha hr (A3 hs)
theorem QS {k:Nat}{ps:List Str}{g:Fn}{x:Str}(F:FnOk X.prog X.w X.K X.mg X.base CX0 k fa fd ps (spF X.K g))(hr:Room k X.A)(hg:Gl X x)(hm:X.mg x=some (.ref fa))(hk:PySem.W.keepIn X.K (.ref fa)=true)(hb:Binds X.K fd ps [])
 (ha:PA X (e :: es) (RA X.K f)) (hdb:(x == ("__debug__" : Str))=false:=by decide) (h1:AV e=false:=by rfl) (h2:A1 es=true:=by rfl) :
 PE X (.Call (.Name x p) (e :: es) [] pos) (RE X.K (Ai g f)):=Ty F hr hg hm hk hb ha hdb (A3 h1) (AR h2).1
theorem IR {h:List D->M D}{x:Str}(hc:Cm X (.builtin id) R)(s:E7 X.K R h)(hg:Gl X x)(hm:X.mg x=none)(hv:bootBuiltins x=some (.builtin id))(ha:PA X (e :: es) (RA X.K f))(hn:x≠"__name__":=by decide)(hdb:(x == ("__debug__" : Str))=false:=by decide)
 (h1:AV e=false:=by rfl) (h2:A1 es=true:=by rfl):PE X (.Call (.Name x p) (e :: es) [] pos) (RE X.K (fB f h)):=ZC hc s hg hm hv ha hn hdb (A3 h1) (AR h2).1
theorem Ya {h:List D->M D}{x:Str}(hc:Cm X (.type id) R)(s:E7 X.K R h)(hg:Gl X x)(hm:X.mg x=none)(hv:bootBuiltins x=some (.type id))(ha:PA X (e :: es) (RA X.K f))(hn:x≠"__name__":=by decide)(hdb:(x == ("__debug__" : Str))=false:=by decide)
 (h1:AV e=false:=by rfl) (h2:A1 es=true:=by rfl):PE X (.Call (.Name x p) (e :: es) [] pos) (RE X.K (fB f h)):=ZD hc s hg hm hv ha hn hdb (A3 h1) (AR h2).1
theorem Yc {h:List D->M (List D)}{x:Str}(hc:Cm X (.type id) R)(s:IB X.K R h)(hg:Gl X x)(hm:X.mg x=none)(hv:bootBuiltins x=some (.type id))(ha:PA X (e :: es) (RA X.K f))(hn:x≠"__name__":=by decide)(hdb:(x == ("__debug__" : Str))=false:=by decide)
 (h1:AV e=false:=by rfl) (h2:A1 es=true:=by rfl):PE X (.Call (.Name x p) (e :: es) [] pos) (RF X.K (fBF f h)):=ZE hc s hg hm hv ha hn hdb (A3 h1) (AR h2).1
theorem NG (hg:Gl X "range")(hm:X.mg "range" = none)(ha:PA X [a] (RA X.K f))(h1:AV a=false:=by rfl):PI X tg (.Call (.Name "range" p) [a] [] pos) (RI X.K (CA f)):=OX hg hm ha (A3 h1)
theorem NH (hg:Gl X "range")(hm:X.mg "range" = none)(ha:PA X [a,b] (RA X.K f))(h1:AV a=false:=by rfl)(h2:AV b=false:=by rfl):PI X tg (.Call (.Name "range" p) [a,b] [] pos) (RI X.K (FD f)):=
 OY hg hm ha (by rw [A3 h1,A3 h2];rfl) (A3 h2)
theorem OV {cpos:Pos}(h1:AV e=false)(h2:A1 es=true)(h3:es.length < 20):((backTo cpos (starEach (e :: es) X.env)).all (λx=>!x.1) && (backToKw cpos (keywordEach [] X.env)).all (λx=>x.1.isSome) && decide ((e :: es).length + ([]:List Keyword).length + (if ([]:List Keyword).isEmpty then 0 else 1) < 30))=true:=by
 rw [(AR (es:=e :: es) (env:=X.env) (p:=cpos) (by rw [A1,uk2,h1];exact h2)).2];show (true && true && decide (es.length + 1 + 0 + 0 < 30))=true;simp;lia
theorem NJ {μ:Cf->Hp->D->(V->Hp->Prop)->Prop}(i:Nat){x:Str}{g:M (List D)}{px apos cpos:Pos}(ha:PA X (e :: es) (RA X.K g))(hN:X.N[i]?=some x:=by rfl)(hv:Vis X.env.scope x:=by walk_at "h")(hd:(x == ("__debug__" : Str))=false:=by decide)
 (hcd:(x == ("__classdict__" : Str))=false:=by decide) (hline:(apos.endLine == cpos.line)=true:=by rfl) (h1:AV e=false:=by rfl) (h2:A1 es=true:=by rfl) (h3:es.length < 20:=by decide) :
 PS X (.Expr (.Call (.Attribute (.Name x px) "append" apos) (e :: es) [] cpos) pos) (RSg X.K μ (ownM i Bu g)):=O0 i ha hN hv hd hcd rfl (OV h1 h2 h3) hline (A3 h1) (AR h2).1
theorem NK {μ:Cf->Hp->D->(V->Hp->Prop)->Prop}(i:Nat){x:Str}{g:M (List D)}{px apos cpos:Pos}(ha:PA X (e :: es) (RA X.K g))(hN:X.N[i]?=some x:=by rfl)(hv:Vis X.env.scope x:=by walk_at "h")(hd:(x == ("__debug__" : Str))=false:=by decide)
 (hcd:(x == ("__classdict__" : Str))=false:=by decide) (hline:(apos.endLine == cpos.line)=true:=by rfl) (h1:AV e=false:=by rfl) (h2:A1 es=true:=by rfl) (h3:es.length < 20:=by decide) :
 PS X (.Expr (.Call (.Attribute (.Name x px) "extend" apos) (e :: es) [] cpos) pos) (RSg X.K μ (ownM i EJ g)):=O1 i ha hN hv hd hcd rfl (OV h1 h2 h3) hline (A3 h1) (AR h2).1
end
end F2
namespace HT
open PySem PySem.Spec L2 PyProof.Rows
section
variable {prog:Program}{w:World}{A:Around}{E:Value->Shared->Prop}{s:Shared}
end
end HT
namespace L2
open PySem PySem.Spec PyProof.Rows
section
variable {X:Cx}{e ek:Expr}{p2 pos:Pos}{te:TE}{tk:TO}
theorem Vals.rev {xs:List V}{us:List Value}(r:Vals xs us):Vals xs.reverse us.reverse:=by
 induction r with
 | nil=>exact .nil
 | cons r1 _ ih=>rw [ug0,ug0];exact ih.append (.cons r1 .nil)
end
section
variable {X:Cx}
end
section
variable {X:Cx}
end
section
variable {X:Cx}
end
end L2
namespace F2
open PySem L2 PySem.Spec
section
variable {X:Cx}{K:PySem.W.Frag}
theorem Reps.rev {c:Cf}{H:Hp}:∀{ds:List D} {vs:List V},Reps K c H vs ds->Reps K c H vs.reverse ds.reverse
 | [],_,r=>by cases r;exact .nil
 | _ :: _,_,r=>by
   cases r with
   | cons r1 r2=>rw [ug0,ug0];exact (Reps.rev r2).append (.cons r1 .nil)
end
end F2
namespace L2
open PySem PySem.Spec PyProof.Rows
def P2:R2:=λx y H Q=>∃a kvs k v,x = .ref a/\y = .str k/\H a=some (.dK kvs)/\DI kvs (Sum.inr k:Key)=some v/\Q v H
def Xe:V->V->V->Hp->(Hp->Prop)->Prop:=λo i v H Q=>∃a kvs k,o = .ref a/\i = .str k/\H a=some (.dK kvs)/\kvs.length < sizeLine/\Q (upd H a (.dK (DH kvs (Sum.inr k:Key) v)))
section
variable {X:Cx}
theorem Wp:IxR X P2:=by
 intro value slice pins s σ H x y v u Q I rx ry h hs;obtain ⟨a,kvs,k,z,rfl,rfl,e,l,q⟩:=h
 cases rx
 obtain ⟨_,_,vs,rel,dd⟩:=KU I.hok e;have g:DGet H a (kV (Sum.inr k:Key)) (some z):=by rw [<-l];exact DGet.k e
 have hT:=dd.typeIs;unfold subscriptTail;refine um3 ?_;rw [getitemInPython_of_ne hT.not_modules];refine um3 (wpAny_specialOf hT PySem.F.slot_dict_getitem.lookup ?_);have get:wpAny (model X.prog X.w) X.A (getItem (.ref a) u) (EP X pins σ Q) X.xe s:=by
  obtain ⟨w',hw,rw'⟩:=RelO.some_of (v:=z) (o:=valueAt vs (Sum.inr k:Key)) (by rw [<-l];exact rel.val _);exact wpAny_getItem_of (Ja (k:=(Sum.inr k:Key)) ry) dd.mapOf hw ⟨z,H,I.tok _,rw',q⟩
 have fin:wpAny (model X.prog X.w) X.A (subscripted slice false (.ref a) u) (λr s₃=>wpAny (model X.prog X.w) X.A (letTemporaryGo value (.ref a) r >>= λ_=>pure r) (EP X pins σ Q) X.xe s₃) X.xe s:=by
  rw [hs];exact wpAny_operating (um5 get (λr s₃ h₃=>um3 (wpAny_letTemporaryGo (um4 h₃))) λ_ _ x=>x)
 first
  | exact um4 (um3 fin)
  | exact um3 (um4 (um3 fin))
  | exact um3 fin
theorem U8:VA X Xe:=by
 intro pins s σ H o i v ov iv u Q I ro ri rv h;obtain ⟨a,kvs,k,rfl,rfl,e,l,q⟩:=h
 cases ro
 obtain ⟨z,hd,vs,rel,dd⟩:=KU I.hok e;have hz:vs.length<=sizeLine:=by rw [<-rel.length];exact z
 have hl:(DH kvs (Sum.inr k:Key) v).length<=sizeLine:=by have:=HR kvs (Sum.inr k:Key) v;lia
 refine wpAny_setItem_pairs (hsz:=hz) (Ja (k:=(Sum.inr k:Key)) ri) dd λh' dd' hs=>⟨_,?_,q⟩;have he:∃q,h'.get? a=some q:=let ⟨q,_,_,hq,_⟩:=dd';⟨q,hq⟩;exact MN I (by rw [e];exact True.intro) hs he (LA hl hd (rel.put _ rv) dd')
end
end L2
namespace F2
open PySem L2 PySem.Spec
noncomputable def A0 (kvs:List (Key×D))(k:Key):Option D:=(kvs.find? λkv=>decide (kv.1=k)).map (·.2)
noncomputable def Bw (kvs:List (Key×D))(k:Key)(d:D):List (Key×D):=
 if (kvs.any λkv=>decide (kv.1=k))=true then kvs.map (λkv=>if kv.1=k then (kv.1,d) else kv) else kvs++[(k,d)]
def AW:D->D->M D
 | .obj n,.str x=>λt=>match t.S[n]? with
   | some (.dct kvs)=>(A0 kvs (.inr x)).map λd=>(d,t)
   | _=>none
 | _,_=>fail
def DC:D->D->D->M Unit
 | .obj n,.str x,d=>λt=>match t.S[n]? with
   | some (.dct kvs)=>if kvs.length < LIM then some ((),{ t with S:=t.S.set n (.dct (Bw kvs (.inr x) d)) }) else none
   | _=>none
 | _,_,_=>fail
def C8 (f g:M D)(d:D):M Unit:=bnd f λo=>bnd g λi=>DC o i d
def DM:List (Str×M D)->M (List (Key×D))
 | []=>ret []
 | (k,f) :: r=>bnd f λd=>bnd (DM r) λps=>ret ((.inr k,d) :: ps)
def D1 (ps:List (Key×D)):List (Key×D):=ps.foldl (λacc kv=>Bw acc kv.1 kv.2) []
def EZ (n:Nat)(ps:List (Key×D)):M D:=λt=>match t.S[n]? with
 | some (.dct [])=>if ps.length<=15 then some (.obj n,{ t with S:=t.S.set n (.dct (D1 ps)) }) else none
 | _=>none
def IP (l:List (Str×M D)):M D:=λt=>bnd (DM l) (EZ t.S.length) { t with S:=t.S++[.dct []] }
section
variable {K:PySem.W.Frag}{c:Cf}{H:Hp}
theorem KVR.get {us:List (Key×V)}{kvs:List (Key×D)}(r:KVR K c H us kvs)(k:Key){d:D}(e:A0 kvs k=some d):∃v,DI us k=some v/\Rep K c H v d:=by
 unfold KVR at r
 induction r with
 | nil=>simp [A0] at e
 | @cons p q ps qs h t ih=>
   by_cases hk:p.1=k
   ·have hq:q.1=k:=h.1.symm.trans hk;have:A0 (q :: qs) k=some q.2:=by simp [A0,ui4,hq]
    rw [this] at e;cases e
    exact ⟨p.2,Gz hk,h.2⟩
   ·have hq:¬q.1=k:=λz=>hk (h.1.trans z);have:A0 (q :: qs) k=A0 qs k:=by simp [A0,ui4,hq]
    rw [this] at e;rw [Gy hk];exact ih e
theorem KVR.any {us:List (Key×V)}{kvs:List (Key×D)}(r:KVR K c H us kvs)(k:Key):(us.any λkv=>decide (kv.1=k))=(kvs.any λkv=>decide (kv.1=k)):=by
 unfold KVR at r
 induction r with
 | nil=>rfl
 | @cons p q ps qs h t ih=>rw [uk1,uk1,ih,h.1]
theorem KVR.put {us:List (Key×V)}{kvs:List (Key×D)}(r:KVR K c H us kvs)(k:Key){v:V}{d:D}(rv:Rep K c H v d):KVR K c H (DH us k v) (Bw kvs k d):=by
 unfold DH Bw;rw [r.any k]
 by_cases q:(kvs.any λkv=>decide (kv.1=k))=true
 ·rw [if_pos q,if_pos q];clear q;unfold KVR at r ⊢
  induction r with
  | nil=>exact .nil
  | @cons p q ps qs h t ih=>
    rw [uj9,uj9];refine .cons ?_ ih
    by_cases e:p.1=k
    ·rw [if_pos e,if_pos (h.1.symm.trans e)];exact ⟨h.1,rv⟩
    ·rw [if_neg e,if_neg (λz=>e (h.1.trans z))];exact h
 ·rw [if_neg q,if_neg q];exact Paired.snoc r ⟨rfl,rv⟩
theorem KVR.length {us:List (Key×V)}{kvs:List (Key×D)}(r:KVR K c H us kvs):us.length=kvs.length:=Paired.length r
theorem KVR.mono {c':Cf}{H':Hp}{us:List (Key×V)}{kvs:List (Key×D)}(e:Ext c H c' H')(r:KVR K c H us kvs):KVR K c' H' us kvs:=Paired.mapP r λ_ _ z=>⟨z.1,z.2.mono e⟩
theorem KVR.merge:∀{ps:List (Key×D)} {us:List (Key×V)} {acc:List (Key×D)} {ua:List (Key×V)},KVR K c H us ps->KVR K c H ua acc->KVR K c H (Fs ua us) (ps.foldl (λacc kv=>Bw acc kv.1 kv.2) acc):=by
 intro ps us acc ua r;unfold KVR at r
 induction r generalizing acc ua with
 | nil=>intro q;exact q
 | @cons p q ps qs h t ih=>
   intro r0;refine ih ?_;show KVR K c H (DH ua p.1 p.2) (Bw acc q.1 q.2);have:=KVR.put r0 p.1 h.2;rw [<-h.1];exact this
theorem P9:Bn K P2 AW:=λ{Oo c t σ H x y dx dy r t' Q} f rx ry eq k=>by
 unfold AW at eq
 split at eq
 ·next n z=>
  cases ry
  cases rx with
  | @obj a kk hk=>
    split at eq
    ·next kvs es=>
     obtain ⟨d,e1,e2⟩:=uc2.mp eq
     cases e2
     obtain ⟨us,g1,g2⟩:=f.s.obs _ a _ hk es;obtain ⟨v,e3,e4⟩:=g2.get _ e1;exact ⟨a,us,z,v,rfl,rfl,g1,e3,k _ H c f .refl e4⟩
    ·cases eq
 ·cases eq
end
section
variable {X:Cx}{pos:Pos}{e:Expr}
theorem OW {o i:Expr}{f g:M D}(ho:PE X o (RE X.K f))(hi:PE X i (RE X.K g))
 (ha:∀v,assign (.Subscript o i pos) X.env v=(do
   let ov <-holding [v] (eval o X.env)
   let iv <-holding [v,ov] (eval i X.env)
   standAt pos
   holding [v,ov,iv] (setItem ov iv v)
   release [v,ov,iv] []):=by intro _;rfl):PG X (.Subscript o i pos) (RG X.K (C8 f g)):=
 Ld (W3 ho hi U8 ha) λv σ H Q z9=>by
  obtain ⟨Oo,c,t,d,fi,rv,t',eq,k⟩:=z9;obtain ⟨d0,t1,e1,eq⟩:=Af eq;obtain ⟨di,t2,e2,eq⟩:=Af eq;refine ⟨Oo,c,t,fi,_,t1,e1,λx H1 c1 f1 s1 rx=>⟨Oo,c1,t1,f1,di,t2,e2,λy H2 c2 f2 s2 ry=>?_⟩⟩;unfold DC at eq
  split at eq
  ·next n z dd=>
   cases ry
   cases rx with
   | @obj a kk hk=>
     split at eq
     ·next kvs es=>
      split at eq
      ·next hl=>
       cases eq
       have hk2:=s2.ext.io _ _ hk;obtain ⟨us,g1,g2⟩:=f2.s.obs _ a _ hk2 es;refine ⟨a,us,z,rfl,rfl,g1,by rw [g2.length];exact Nat.lt_trans hl Vx,?_⟩;have rv2:=rv.mono (s1.trans s2).ext;obtain ⟨f3,s3⟩:=f2.wrObj (o:=.dct (Bw kvs (.inr z) d)) (u:=.dK (DH us (.inr z) v)) hk2 λc' H' ext hu=>⟨_,hu,(g2.put _ rv2).mono ext⟩;exact k σ _ c2 f3 ((s1.trans s2).trans s3)
      ·cases eq
     ·cases eq
  ·cases eq
def RP (K:PySem.W.Frag)(f:M (List (Key×D)))(σ:St)(H:Hp)(Q:List (V×V)->Hp->Prop):Prop:=
 ∃Oo c t,FInv K Oo c t σ H/\∃ps t',f t=some (ps,t')/\∀us H' c',FInv K Oo c' t' σ H'->Stp Oo c H c' H'->KVR K c' H' us ps->Q (us.map λkv=>(kV kv.1,kv.2)) H'
def PPf (X:Cx)(pos:Pos)(keys:List (Option Expr))(values:List Expr)(f:M (List (Key×D))):Prop:=
 ∃trs,PPs X pos keys values trs/\∀σ H Q,RP X.K f σ H Q->Jn trs σ H Q
theorem TV:PPf X pos [] [] (DM []):=⟨[],UF,λσ H Q z9=>by
 obtain ⟨Oo,c,t,fi,ps,t',eq,k⟩:=z9
 cases eq
 exact k [] H c fi .refl .nil⟩
theorem Q3 {k:Str}{j:Nat}{kp:Pos}{v:Expr}{ks:List (Option Expr)}{vs:List Expr}{f:M D}{r:List (Str×M D)}(hv:PE X v (RE X.K f))(hr:PPf X pos ks vs (DM r)) :
 PPf X pos (some (.Constant (.str k) j kp) :: ks) (v :: vs) (DM ((k,f) :: r)):=by
 obtain ⟨trs,h1,h2⟩:=hr;refine ⟨_,R6 PQ hv h1,λσ H Q z9=>?_⟩;obtain ⟨Oo,c,t,fi,ps,t',eq,kk⟩:=z9;obtain ⟨d,t1,e1,eq⟩:=Af eq;obtain ⟨qs,t2,e2,eq⟩:=Af eq
 cases eq
 refine ⟨Oo,c,t,fi,d,t1,e1,λy H1 c1 f1 s1 ry=>?_⟩;refine h2 σ H1 _ ⟨Oo,c1,t1,f1,qs,_,e2,λus H2 c2 f2 s2 ru=>?_⟩;exact kk ((.inr k,y) :: us) H2 c2 f2 (s1.trans s2) (.cons ⟨rfl,ry.mono s2.ext⟩ ru)
theorem Tz {keys:List (Option Expr)}{values:List Expr}{l:List (Str×M D)}(h:PPf X pos keys values (DM l))(hall:keys.all (·.isSome)=true:=by rfl)(hl:keys.length=values.length:=by rfl)(h0:keys≠[]:=by exact List.cons_ne_nil _ _)
 (h15:keys.length<=15:=by exact Nat.le_of_ble_eq_true rfl):PE X (.Dict keys values pos) (RE X.K (IP l)):=by
 obtain ⟨trs,h1,h2⟩:=h;refine AD (Uu h1 hall hl h0 h15) λσ H Q z9=>?_;obtain ⟨Oo,c,t,fi,r,t',eq,k⟩:=z9;intro p hp;obtain ⟨c1,f1,s1,e1⟩:=fi.newObj (o:=.dct []) (u:=.dK []) hp λc' H' ex hu=>⟨[],hu,.nil⟩;obtain ⟨ps,t2,e2,eq⟩:=Af eq;refine h2 σ _ _ ⟨Oo,c1,_,f1,ps,t2,e2,λus H2 c2 f2 s2 ru=>?_⟩;unfold EZ at eq
 split at eq
 ·next es=>
  split at eq
  ·next hl15=>
   cases eq
   have hk2:=s2.ext.io _ _ e1;obtain ⟨u0,g1,g2⟩:=f2.s.obs _ p _ hk2 es
   cases g2
   refine ⟨g1,us,rfl,by rw [ru.length];exact hl15,?_⟩;obtain ⟨f3,s3⟩:=f2.wrObj (o:=.dct (D1 ps)) (u:=.dK (Fs [] us)) hk2 λc' H' ext hu=>⟨_,hu,(KVR.merge ru .nil).mono ext⟩;exact k _ _ c2 f3 (s1.trans (s2.trans s3)) (.obj hk2)
  ·cases eq
 ·cases eq
end
end F2
namespace L2
open PySem PySem.Spec PyProof.Rows
section
variable {X:Cx}
end
end L2
namespace F2
open PySem L2 PySem.Spec
section
variable {X:Cx}{pos:Pos}{e:Expr}{es:List Expr}
end
end F2
namespace L2
open PySem PySem.Spec PyProof.Rows
section
variable {prog:Program}{w:World}{A:Around}{I:Addr}{fp wr:List Addr}{G:Array GenState->Array GenState->Prop}{n:Nat}{P:Nat->Value->Prop}{St:Nat->Shared->Prop}
end
section
variable {X:Cx}
end
end L2
namespace F2
open PySem L2 PySem.Spec PyProof.Rows
section
variable {X:Cx}{pos:Pos}{e:Expr}
end
end F2
namespace F2
open PySem L2 PySem.Spec
noncomputable def CZ (f:M Bool)(b:M Out):Nat->M Out
 | 0=>λ_=>none
 | n + 1=>λt=>match f t with
   | none=>none
   | some (false,t1)=>some (.next,t1)
   | some (true,t1)=>match b t1 with
     | some (.next,t2)=>CZ f b n t2
     | some (.cont,t2)=>CZ f b n t2
     | some (.brk,t2)=>some (.next,t2)
     | some (.ret x,t2)=>some (.ret x,t2)
     | none=>none
def Hl:Nat:=1000000
def F3 (f:M Bool)(b:M Out):M Out:=CZ f b Hl
theorem RS.while {μ:Cf->Hp->D->(V->Hp->Prop)->Prop}{K:PySem.W.Frag}{f:M Bool}{b:M Out}{E:Ends}{σ:L2.St}{H:Hp}(q:RSg K μ (F3 f b) E σ H):Qh (RT K f) (RSg K μ b) E σ H:=by
 obtain ⟨Oo,c,t,fi,o,t',eq,k⟩:=q;refine ⟨λm σ' H'=>∃c' t2,FInv K Oo c' t2 σ' H'/\Stp Oo c H c' H'/\CZ f b m t2=some (o,t'),⟨Hl,c,t,fi,.refl,eq⟩,?_⟩;rintro m σ' H' ⟨c',t2,f2,s2,e2⟩
 cases m with
 | zero=>cases e2
 | succ m=>
 rw [CZ] at e2;dsimp only at e2
 cases ef:f t2 with
 | none=>rw [ef] at e2;cases e2
 | some p=>
 obtain ⟨r,t3⟩:=p;rw [ef] at e2;refine ⟨Oo,c',t2,f2,r,t3,ef,λH3 c3 f3 s3=>?_⟩
 cases r with
 | false=>
   cases e2
   exact k σ' H3 c3 f3 (s2.trans s3)
 | true=>
   rw [if_pos rfl];dsimp only at e2;refine ⟨λσ4 H4=>∃c4 t4,FInv K Oo c4 t4 σ4 H4/\Stp Oo c H c4 H4/\CZ f b m t4=some (o,t'),λσ4 H4 h=>⟨m,ug5 m,h⟩,?_⟩
   cases eb:b t3 with
   | none=>rw [eb] at e2;cases e2
   | some p=>
   obtain ⟨ob,t4⟩:=p;rw [eb] at e2;refine ⟨Oo,c3,t3,f3,ob,t4,eb,λσ4 H4 c4 f4 s4=>?_⟩
   cases ob with
   | next=>exact ⟨c4,t4,f4,(s2.trans s3).trans s4,e2⟩
   | cont=>exact ⟨c4,t4,f4,(s2.trans s3).trans s4,e2⟩
   | brk=>
     cases e2
     exact k σ4 H4 c4 f4 ((s2.trans s3).trans s4)
   | ret x=>
     cases e2
     exact k σ4 H4 c4 f4 ((s2.trans s3).trans s4)
section
variable {X:Cx}{pos:Pos}
theorem LL {μ:Cf->Hp->D->(V->Hp->Prop)->Prop}{e:Expr}{body:List Stmt}{f:M Bool}{b:M Out}(hp:PassesOwn (model X.prog X.w) X.A X.env X.xe)(hc:PT X e (RT X.K f))(hb:PSs X body (RSg X.K μ b)):PS X (.While e body [] pos) (RSg X.K μ (F3 f b)):=
 A9 (R8 hp hc hb) λ_ _ _ q=>RS.while q
end
end F2
namespace L2
open PySem PySem.Spec PyProof.Rows
end L2
namespace F2
open PySem L2 PySem.Spec
end F2
namespace L2
open PySem PySem.Spec PyProof.Rows
section
variable {X:Cx}{tg:Expr}
end
end L2
namespace F2
open PySem L2 PySem.Spec
section
variable {X:Cx}{pos:Pos}{e:Expr}{es:List Expr}
end
noncomputable def Eu (H:Hp)(a:Addr):Hp:=λb=>if b=a then none else H b
theorem RK {H:Hp}{a:Addr}{o:HO}(h:H a=some o):upd (Eu H a) a o=H:=by
 funext b
 by_cases e:b=a
 ·subst e;rw [Ak];exact h.symm
 ·rw [Ag e];unfold Eu;rw [if_neg e]
section
variable {K:PySem.W.Frag}{Oo:Addr->Prop}{c:Cf}{t:T}{σ:L2.St}{H:Hp}
theorem FInv.out (f:FInv K Oo c t σ H){i:Nat}{ds:List D}(e:t.env[i]?=some (some (.own ds))){a:Addr}(ha:σ[i]?=some (some (.ref a))) :
 FInv K Oo ⟨c.ι,λb=>c.O b/\b≠a⟩ { t with env:=t.env.set i none } σ (Eu H a)/\Stp Oo c H ⟨c.ι,λb=>c.O b/\b≠a⟩ (Eu H a):=by
 obtain ⟨a',vs,g1,g2,g3,g4,g5⟩:=f.own i ds e;rw [ha] at g1;injection g1 with g1;injection g1 with g1;injection g1 with g1;subst g1
 have ni:a∉c.ι:=f.s.dis a g2;have ext:Ext c H ⟨c.ι,λb=>c.O b/\b≠a⟩ (Eu H a):=by
  refine ⟨λb o hb hn=>?_,λb o hb z=>?_,λk b h=>h⟩
  ·unfold Eu;rw [if_neg λz=>hn (by rw [z];exact .inr g2)];exact hb
  ·rcases z with z | z
   ·exact .inl z
   ·exact .inr z.1
 have stp:Stp Oo c H ⟨c.ι,λb=>c.O b/\b≠a⟩ (Eu H a):=⟨ext,λb hb=>by unfold Eu;rw [if_neg λz=>g3 (by rw [<-z];exact hb)]⟩;have old:∀{j:Nat} {x:Sl},(t.env.set i none)[j]?=some (some x)->j≠i/\t.env[j]?=some (some x):=λ{j x} q=>by
  by_cases h:j=i
  ·subst h;rw [uf8] at q
   split at q
   ·split at q <;> simp at q
   ·contradiction
  ·exact ⟨h,by rw [ud3 (Ne.symm h)] at q;exact q⟩
 refine ⟨⟨⟨f.s.len,f.s.nd,λk b o e1 e2=>?_,λb hb=>?_,λb hb=>f.s.dis b hb.1⟩,by simpa using f.len,λb hb=>⟨f.sub b hb,λz=>g3 (by rw [<-z];exact hb)⟩,λj d q=>?_,λj es q=>?_,λj k es fs b q1 q2 q3 q4=>?_⟩,stp⟩
 ·refine (f.s.obs k b o e1 e2).mono ext ?_;unfold Eu;rw [if_neg λz=>ni (by rw [<-z];exact ud4 e1)]
 ·obtain ⟨o,ho⟩:=f.s.trk b hb.1;exact ⟨o,by unfold Eu;rw [if_neg hb.2];exact ho⟩
 ·obtain ⟨v,h1,h2⟩:=f.val j d (old q).2;exact ⟨v,h1,h2.mono ext⟩
 ·obtain ⟨nj,q'⟩:=old q;obtain ⟨b,us,k1,k2,k3,k4,k5⟩:=f.own j es q';have nb:b≠a:=λz=>nj (f.inj j i es ds a q' e (by rw [k1,z]) ha);exact ⟨b,us,k1,⟨k2,nb⟩,k3,by unfold Eu;rw [if_neg nb];exact k4,k5.mono ext⟩
 ·exact f.inj j k es fs b (old q1).2 (old q2).2 q3 q4
end
noncomputable def F0 (i:Nat):M Out:=λt=>match t.env[i]? with
 | some (some (.own xs))=>some (.ret (.lst xs),{ t with env:=t.env.set i none })
 | _=>none
def Gu (f:M (List D)):M Out:=bnd f λds=>ret (.ret (.lst ds))
variable {g:Fn}{fa:Addr}{fd:FuncData}
section
variable {X:Cx}{pos:Pos}{e:Expr}{es:List Expr}
theorem MU {f:M (List D)}(h:PE X e (RF X.K f)):PS X (.Return (some e) pos) (RSg X.K (μF X.K) (Gu f)):=
 A9 (Ha h) λE σ H z9=>by
  obtain ⟨Oo,c,t,fi,o,t',eq,k⟩:=z9;obtain ⟨ds,t1,e1,eq⟩:=Af eq
  cases eq
  exact ⟨Oo,c,t,fi,ds,_,e1,λp us H1 c1 f1 s1 ru hp=>k σ H1 c1 f1 s1 p us hp ru⟩
theorem O7 (i:Nat){x:Str}{px:Pos}(hN:X.N[i]?=some x:=by rfl)(hv:Vis X.env.scope x:=by walk_at "h")(hd:(x == ("__debug__" : Str))=false:=by decide)
 (hcd:(x == ("__classdict__" : Str))=false:=by decide):PS X (.Return (some (.Name x px)) pos) (RSg X.K (μF X.K) (F0 i)):=
 A9 (Ha (Cd hN hv hd hcd)) λE σ H z9=>by
  obtain ⟨Oo,c,t,fi,o,t',eq,k⟩:=z9;unfold F0 at eq
  split at eq
  ·next xs ex=>
   cases eq
   obtain ⟨a,vs,h1,h2,h3,h4,h5⟩:=fi.own i xs ex;refine ⟨.ref a,h1,?_⟩;obtain ⟨f2,s2⟩:=fi.out ex h1;have:=k σ (Eu H a) _ f2 s2 a vs (by unfold Eu;rw [if_pos rfl]) (h5.mono s2.ext);rw [RK h4] at this;exact this
  ·cases eq
inductive spFF (K:PySem.W.Frag)(f:Fn)(vs:List V)(H:Hp)(Q:VK)(E:XK):Prop where
 | mk (c:Cf) (ds:List D) (S:List Ob) (si:SInv K c S H) (rp:Reps K c H vs ds) (rs:List D) (S':List Ob) (e:f ds S=some (.lst rs,S')) (k:∀p us H' c',SInv K c' S' H'->Stp c.O c H c' H'->(∀b,c'.O b↔c.O b)->Reps K c' H' us rs->H' p=none->Q (.ref p) (upd H' p (.lst us))):spFF K f vs H Q E
def DL (g:Fn)(f:M (List D)):M (List D):=bnd f λds t=>match g ds t.S with
 | some (.lst rs,S')=>some (rs,{ t with S:=S' })
 | _=>none
theorem NA {ds:List D}{t:T}{rs:List D}{t':T}(h:(match g ds t.S with | some (.lst rs,S')=>some (rs,{ t with S:=S' }) | _=>none:Option (List D×T))=some (rs,t')):∃S',g ds t.S=some (.lst rs,S')/\t' = { t with S:=S' }:=by
 split at h
 ·next rs' S' e=>cases h;exact ⟨S',e,rfl⟩
 ·cases h
theorem QY {k:Nat}{ps:List Str}{f:M (List D)}{x:Str}{p:Pos}(F:FnOk X.prog X.w X.K X.mg X.base CX0 k fa fd ps (spFF X.K g))(hr:Room k X.A)(hg:Gl X x)(hm:X.mg x=some (.ref fa))(hk:PySem.W.keepIn X.K (.ref fa)=true)(hb:Binds X.K fd ps [])
 (ha:PA X (e :: es) (RA X.K f)) (hdb:(x == ("__debug__" : Str))=false:=by decide) (h1:AV e=false:=by rfl) (h2:A1 es=true:=by rfl) :
 PE X (.Call (.Name x p) (e :: es) [] pos) (RF X.K (DL g f)):=
 AD (M4 F hr hg hm hk hb .nil HB ha hdb (A3 h1) (AR h2).1) λσ H Q z9=>by
  obtain ⟨Oo,c,t,fi,rs,t',eq,kk⟩:=z9;obtain ⟨ds,t1,e1,eq⟩:=Af eq;obtain ⟨S',e2,rfl⟩:=NA eq;refine ⟨Oo,c,t,fi,ds,t1,e1,λvs H1 c1 f1 s1 rvs=>?_⟩;show spFF X.K g (vs++[]) H1 Q E0;rw [ui1];refine ⟨c1,ds,t1.S,f1.s,rvs,rs,S',e2,λp us H' c' si st ho ru hp=>?_⟩;obtain ⟨f2,s2⟩:=f1.after si st ho;exact kk p us H' c' f2 (s1.trans s2) ru hp
end
theorem TN {P:Program}{w:World}{K:PySem.W.Frag}{mg:Str->Option Value}{base:Heap}{x qual:Str}{st:Stmt}{N ps:List Str}{k n m:Nat}{g:M Out}(e1:ps.length=n)(e2:N.length=m)(F:Fun K x qual st fa fd)(S:FnScope N ps (Al st))
 (hb:∀(cdv:Value) (A:Around) (outer:List Env) (s:Shared) (H:Hp) (E:XK),Room k (A.deeper (PyProof.Rows.envOfC qual (Al st) s.heap.objs.size fa cdv))->
   PSs (Db CX0 P w K mg base N qual (Al st) fa cdv A outer s H E).nox (A8 st) (RSg K (μF K) g)):FnOk P w K mg base CX0 (k + 1) fa fd ps (spFF K (fnOf n m g)):=by
 subst e1 e2;have hlen:∀{ds:List D} {S:List Ob} {z:D×List Ob},fnOf ps.length N.length g ds S=some z->ds.length=ps.length:=λ{ds S z} h=>by
  unfold fnOf at h
  split at h
  ·next h1=>exact h1
  ·cases h
 refine F.ok S (λvs H Q E h=>?_) (λcdv A outer s H vs Q E hr h=>?_)
 ·obtain ⟨c,ds,S,si,rs,r,S',e,_⟩:=h;rw [rs.length];exact hlen e
 obtain ⟨c,ds,S0,si,rs,r,S',e,kk⟩:=h;refine ⟨RSg K (μF K) g,hb cdv A outer s H E hr,?_⟩;have hl:=hlen e;unfold fnOf at e;rw [if_pos hl] at e
 cases eg:g ⟨env0 N.length ds,S0⟩ with
 | none=>rw [eg] at e;cases e
 | some p=>
   obtain ⟨o,t⟩:=p;rw [eg] at e;refine ⟨c.O,c,_,Ge si rs,o,t,eg,λσ' H' c' f' s'=>?_⟩;obtain ⟨si',ext'⟩:=f'.leave;have st':Stp c.O c H ⟨c'.ι,c.O⟩ H':=⟨s'.ext.trans ext',s'.oo⟩
   cases o with
   | next=>cases e
   | ret d=>
     cases e
     exact λp us hp ru=>kk p us H' _ si' st' (λ_=>Iff.rfl) (ru.mono ext') hp
   | brk=>cases e
   | cont=>cases e
theorem UQ {P:Program}{w:World}{K:PySem.W.Frag}{mg:Str->Option Value}{base:Heap}{ps:List Str}{k:Nat}{f:Fn}(e:f=g)(h:FnOk P w K mg base CX0 k fa fd ps (spFF K g)):FnOk P w K mg base CX0 k fa fd ps (spFF K f):=by rw [e];exact h
end F2
namespace L2
open PySem PySem.Spec PyProof.Rows
section
variable {X:Cx}
theorem Ur {o:Expr}{to:TE}{apos cpos:Pos}(ho:PE X o to)(hbase:attributeBase o "bit_length" X.env (eval o X.env)=eval o X.env:=by rfl)(hline:(apos.endLine == cpos.line)=true:=by rfl) :
 PE X (.Call (.Attribute o "bit_length" apos) [] [] cpos) (λσ H Q=>to σ H λv H1=>∃i,v = .int i/\Q (.int (Builtin.Int.intBits i:Nat)) H1):=by
 intro pins s σ H Q I h;refine Call_method0 hbase hline (thn (ho pins s σ H _ I h) λu s1 z9=>?_);obtain ⟨v,H1,I1,rv,i,ex,q⟩:=z9;subst ex;obtain ⟨t,rfl⟩:=rv;exact ⟨"int", "int.bit_length",PySem.F.plainAttrs_int,ua4,PySem.F.type_int_bit_length,typeIs_int _ _ _,(λ_ e=>nomatch e),
  method0_gives ua4 PySem.F.entry_int_bit_length (typeIs_int _ _ _) (PySem.F.args_int_bit_length_1 _) (PySem.AutoIntG2.int_bit_length_int_0 i t) ⟨.int (Builtin.Int.intBits i:Nat),H1,I1.tok _,⟨_,rfl⟩,q⟩⟩
end
end L2
namespace F2
open PySem L2 PySem.Spec
def IF:D->M D
 | .int i=>ret (.int (Builtin.Int.intBits i:Nat))
 | _=>fail
section
variable {X:Cx}{pos:Pos}{e:Expr}{es:List Expr}
theorem OQ {o:Expr}{f:M D}{apos cpos:Pos}(ho:PE X o (RE X.K f))(hbase:attributeBase o "bit_length" X.env (eval o X.env)=eval o X.env:=by rfl)(hline:(apos.endLine == cpos.line)=true:=by rfl) :
 PE X (.Call (.Attribute o "bit_length" apos) [] [] cpos) (RE X.K (fUn f IF)):=
 AD (Ur ho hbase hline) λσ H Q z9=>by
  obtain ⟨Oo,c,t,fi,r,t',eq,k⟩:=z9;obtain ⟨d,t1,e1,eq⟩:=Af eq;refine ⟨Oo,c,t,fi,d,t1,e1,λx H1 c1 f1 s1 rx=>?_⟩;unfold IF at eq
  split at eq
  ·next i=>
   cases eq
   cases rx
   exact ⟨i,rfl,k _ H1 c1 f1 s1 (.int _)⟩
  ·cases eq
end
section
variable {X:Cx}{b elt:Expr}{pos:Pos}
end
end F2
namespace L2
open PySem PySem.Spec PyProof.Rows
end L2
namespace F2
open PySem L2 PySem.Spec
structure ItOk2 (K:PySem.W.Frag)(J:It)(c:Cf)(H:Hp)(ds:List D):Prop where
 go:∀c' H' (i:Nat),Ext c H c' H'->i < ds.length->J.go i H'
 yld:∀c' H' (i:Nat) x H'' d,Ext c H c' H'->ds[i]?=some d->J.yld i H' x H''->∃p vs es,x = .ref p/\H' p=none/\H''=upd H' p (.tup vs)/\d = .tup es/\Reps K c' H' vs es
 stop:∀c' H',Ext c H c' H'->J.stop ds.length H'
inductive RI2 (K:PySem.W.Frag)(f:M (List D))(σ:L2.St)(H:Hp)(R:It->Hp->Prop):Prop where
 | mk (Oo:Addr->Prop) (c:Cf) (t:T) (fi:FInv K Oo c t σ H) (ds:List D) (t':T) (e:f t=some (ds,t')) (k:∀J H' c',FInv K Oo c' t' σ H'->Stp Oo c H c' H'->ItOk2 K J c' H' ds->R J H'):RI2 K f σ H R
section
variable {X:Cx}{pos:Pos}{e:Expr}
end
end F2
namespace L2
open PySem PySem.Spec PyProof.Rows
section
variable {X:Cx}
end
end L2
namespace F2
open PySem L2 PySem.Spec
section
variable {X:Cx}{pos:Pos}{e:Expr}{es:List Expr}
end
end F2
namespace L2
open PySem PySem.Spec PyProof.Rows
section
variable {X:Cx}{e ek:Expr}{p2 pos:Pos}{te:TE}{tk:TO}
end
end L2
namespace F2
open PySem L2 PySem.Spec
section
variable {X:Cx}
end
end F2
namespace L2
open PySem PySem.Spec PyProof.Rows
section
variable {X:Cx}
end
end L2
namespace F2
open PySem L2 PySem.Spec
section
variable {X:Cx}{pos:Pos}
end
end F2
namespace L2
open PySem PySem.Spec PyProof.Rows
section
variable {X:Cx}
end
end L2
namespace F2
open PySem L2 PySem.Spec
end F2
namespace L2
open PySem PySem.Spec PyProof.Rows
section
variable {X:Cx}
end
section
variable {X:Cx}
end
section
variable {X:Cx}
end
end L2
namespace F2
open PySem L2 PySem.Spec
section
variable {X:Cx}{pos:Pos}{e:Expr}{es:List Expr}
end
end F2
namespace L2
open PySem PySem.Spec PyProof.Rows
section
variable {X:Cx}
end
end L2
namespace F2
open PySem L2 PySem.Spec
def Hs:List (Int×M D)->M (List (Key×D))
 | []=>ret []
 | (k,f) :: r=>bnd f λd=>bnd (Hs r) λps=>ret ((.inl k,d) :: ps)
def EE (l:List (Int×M D)):M D:=λt=>bnd (Hs l) (EZ t.S.length) { t with S:=t.S++[.dct []] }
noncomputable def NO:List (Key×D)->Option (List Int)
 | []=>some []
 | (.inl k,_) :: r=>(NO r).map (k :: ·)
 | _=>none
section
variable {K:PySem.W.Frag}{c:Cf}{H:Hp}
theorem KVR.has {us:List (Key×V)}{kvs:List (Key×D)}(r:KVR K c H us kvs)(k:Key):(DI us k).isSome=(A0 kvs k).isSome:=by
 unfold KVR at r
 induction r with
 | nil=>rfl
 | @cons p q ps qs h t ih=>
   by_cases hk:p.1=k
   ·have hq:q.1=k:=h.1.symm.trans hk;rw [Gz hk];simp [A0,ui4,hq]
   ·have hq:¬q.1=k:=λz=>hk (h.1.trans z);have:A0 (q :: qs) k=A0 qs k:=by simp [A0,ui4,hq]
    rw [this,Gy hk];exact ih
end
section
variable {X:Cx}{pos:Pos}{e b:Expr}
theorem OS:PE X (.Dict [] [] pos) (RE X.K (EE [])):=
 AD RU λσ H Q z9=>by
  obtain ⟨Oo,c,t,fi,r,t',eq,k⟩:=z9;intro p hp;obtain ⟨c1,f1,s1,e1⟩:=fi.newObj (o:=.dct []) (u:=.dK []) hp λc' H' ex hu=>⟨[],hu,.nil⟩;have e2:EE [] t=some (.obj t.S.length,{ t with S:=t.S++[.dct []] }):=by
   simp [EE,Hs,bnd,F2.ret,EZ,D1]
  rw [e2] at eq
  cases eq
  exact k _ _ c1 f1 s1 (.obj e1)
end
end F2
namespace L2
open PySem PySem.Spec PyProof.Rows
noncomputable def tb (led:Bool)(pl:List Nat):SetTable:={ mask:=7,place:=pl.toArray,dummies:=#[],finger:=0,led:=led,moves:=0,plain:=true }
noncomputable def pls:Nat->List (List Nat)
 | 0=>[[]]
 | k + 1=>(pls k).flatMap λl=>(List.range 8).filterMap λj=>if l.all (· < j) then some (l++[j]) else none
section
variable {P:Program}{w:World}{A:Around}{E:Value->Shared->Prop}{s:Shared}
end
section
variable {P:Program}{w:World}{A:Around}{I:Addr}{fp wr:List Addr}{G:Array GenState->Array GenState->Prop}{n:Nat}{Pr:Nat->Value->Prop}{St:Nat->Shared->Prop}
end
section
variable {P:Program}{w:World}{A:Around}{E:Value->Shared->Prop}{s:Shared}
end
section
variable {prog:Program}{w:World}{A:Around}
end
section
variable {X:Cx}
end
end L2
namespace F2
open PySem L2 PySem.Spec PyProof.Rows
section
variable {X:Cx}{pos:Pos}{e:Expr}
end
end F2
namespace L2
open PySem PySem.Spec PyProof.Rows
section
variable {P:Program}{w:World}{A:Around}{E:Value->Shared->Prop}{s:Shared}
structure ZT (h:Heap)(z TI TO i1 i2 t1 t2:Addr)(n:Nat):Prop where
 zz:IsZip h z TI TO .none
 ti:IsPair h TI (.ref i1) (.ref i2)
 ot:∃a b,IsPair h TO a b
 p1:h.IsTupleIter i1 t1 n
 p2:h.IsTupleIter i2 t2 n
end
section
variable {P:Program}{w:World}{A:Around}{E:Value->Shared->Prop}{s:Shared}
end
def Itz (K:PySem.W.Frag)(a b:Addr):It:=
 ⟨λi H=>∃xs ys x y,SqT K H a xs/\SqT K H b ys/\xs[i]?=some x/\ys[i]?=some y,λi H v H'=>∃p x y,v = .ref p/\H p=none/\(∀xs,SqT K H a xs->xs[i]?=some x)/\(∀ys,SqT K H b ys->ys[i]?=some y)/\H'=upd H p (.tup [x,y]),λi H=>∃xs ys,SqT K H a xs/\SqT K H b ys/\(xs.length<=i\/ys.length<=i)⟩
end L2
namespace F2
open PySem L2 PySem.Spec
noncomputable def aR:List D->List D->List D
 | x :: xs,y :: ys=>.tup [x,y] :: aR xs ys
 | _,_=>[]
section
variable {X:Cx}{e a b tg iter elt:Expr}{ifs:List Expr}{pos:Pos}{scope:Scope}{N':List Str}{n:Nat}{fr:List Nat}{f:M (List D)}{st:D->M Unit}{tst:M Bool}{el:M D}
end
def bw:List D->M D
 | [.obj k,.ty m]=>λt=>match t.S[k]? with
   | some (.lst _)=>(Fk "list" m).map λb=>(.bl b,t)
   | _=>none
 | ds=>CI ds
section
variable {X:Cx}{elt:Expr}{pos:Pos}{e:Expr}{es:List Expr}
theorem OT {o:Expr}{f:M D}{g:M (List D)}{apos cpos:Pos}(ho:PE X o (RE X.K f))(ha:PA X (e :: es) (RA X.K g))
 (hbase:attributeBase o "extend" X.env (eval o X.env)=eval o X.env:=by rfl)
 (hfew:((backTo cpos (starEach (e :: es) X.env)).all (λx=>!x.1) && (backToKw cpos (keywordEach [] X.env)).all (λx=>x.1.isSome) && decide ((e :: es).length + ([]:List Keyword).length + (if ([]:List Keyword).isEmpty then 0 else 1) < 30))=true:=by rfl)
 (hline:(apos.endLine == cpos.line)=true:=by rfl) (hs:starEach (e :: es) X.env=(false,eval e X.env) :: starEach es X.env:=by rfl) (hplain:(backTo cpos (starEach es X.env)).any (·.1)=false:=by rfl) :
 PE X (.Call (.Attribute o "extend" apos) (e :: es) [] cpos) (RE X.K (objM EJ f g)):=
 AD (Jf ub6 PySem.F.slot_list_extend PySem.F.type_list_extend MZ ho ha hbase hfew hline hs hplain) λ_ _ _ q=>RE.objM Nh q
end
end F2
namespace L2
open PySem PySem.Spec PyProof.Rows
section
variable {X:Cx}{pins:List (Addr×Obj)}{σ:St}{H:Hp}{s:Shared}{a:Addr}{kvs:List (Key×V)}{o:Obj}
end
section
variable {X:Cx}
end
section
variable {X:Cx}
end
end L2
namespace F2
open PySem L2 PySem.Spec SeqAt
def Ov (K:PySem.W.Frag)(H:Hp)(v w:V):Prop:=∃c dv dw,Rep K c H v dv/\Rep K c H w dw/\eqN EQD dv dw=some true
def Vu (K:PySem.W.Frag)(H:Hp)(v w:V):Prop:=Ov K H v w\/∃a b us ts,v = .ref a/\w = .ref b/\H a=some (.dK us)/\H b=some (.dK ts)/\us.length=ts.length/\(∀kv∈us,∃n:Int,kv.1=Sum.inl n)/\(∀kv∈ts,∃n:Int,kv.1=Sum.inl n)/\∀kv∈us,∃z,DI ts kv.1=some z/\Ov K H kv.2 z
def bz (K:PySem.W.Frag)(b:Bool):R2:=λx y H Q=>∃p q vs ws,x = .ref p/\y = .ref q/\H p=some (.lst vs)/\H q=some (.lst ws)/\vs.length=ws.length/\(∀(j:Nat) v w,vs[j]?=some v->ws[j]?=some w->Vu K H v w)/\Q (.bl b) H
def Lj (S:List Ob)(x y:D):Bool:=C7 (Fw S x) && C7 (Fw S y) && decide (eqN EQD (Fw S x) (Fw S y)=some true)
def aZ (S:List Ob)(x y:D):Bool:=match x,y with
 | .obj m,.obj n=>match S[m]?,S[n]? with
   | some (.dct kvs),some (.dct lvs)=>kvs.length == lvs.length && (NO kvs).isSome && (NO lvs).isSome && kvs.all (λkv=>match A0 lvs kv.1 with | some e=>Lj S kv.2 e | none=>false)
   | _,_=>Lj S x y
 | _,_=>Lj S x y
end F2
namespace F2
open PySem L2 PySem.Spec
section
variable {X:Cx}{pos:Pos}
end
end F2
namespace L2
open PySem PySem.Spec PyProof.Rows
structure ZL (h:Heap)(z TI TO i1 i2 t1 t2:Addr)(n:Nat):Prop where
 zz:IsZip h z TI TO .none
 ti:IsPair h TI (.ref i1) (.ref i2)
 ot:∃a b,IsPair h TO a b
 p1:h.IsListIter i1 t1 n
 p2:h.IsListIter i2 t2 n
end L2
namespace F2
open PySem L2 PySem.Spec
section
variable {X:Cx}{a b:Expr}{pos:Pos}
end
end F2
namespace L2
open PySem PySem.Spec PyProof.Rows PySem.W
section
variable {prog:Program}{w:World}{A:Around}{h:Heap}{g:Array GenState}{d:Drawn}{t:Nat}{os:OsState}{R:Result->Shared->Prop}
variable {nm q:Str}{C N fI:Addr}{bs bm bmB:List Value}{hdct:Bool}{sn:List Str}{sub:List Value}{ab:Bool}{col:Option Bool}{dd:Option Addr}{k0 k1 k2 k3 k5:Option Value}{B newId initId:String}{mN:Str->Option Value}
abbrev excObj (C tp:Addr):Obj:={ cls:=.ref C,data:=.fields #[.ref tp,.none,.none,.none,.bool false,.none] }
abbrev DB (h:Heap)(C:Addr)(us:List Value):Heap:=(h.push { cls:=.type "tuple",data:=.seq us.toArray }).push (excObj C h.objs.size)
theorem Io (F:ExcBaseFacts B newId initId bmB)(T:OwnTail h bmB bm){us:List Value}(hC:h.get? C=some (excClassObj nm q C N bs bm hdct sn sub ab col dd k0 k1 k2 k3 k5 newId))(hn:h.Ns N mN)(hni:mN "__init__" = some (.ref fI))
 (hb:Looks (model prog w) h (bindSpecial (.ref fI) (.ref (h.objs.size + 1))) (.ref fI,[.ref (h.objs.size + 1)])) (hus:us.length<=sizeLine)
 (hq:codeAny (model prog w) (A.under (.builtin "type.__call__" ⟨.ref C :: us,[]⟩)) (.call (.ref fI) ⟨.ref (h.objs.size + 1) :: us,[]⟩) (InitBack (h.objs.size + 1) R) ⟨DB h C us,g,d,t,os⟩) :
 codeAny (model prog w) A (.call (.ref C) ⟨us,[]⟩) R ⟨h,g,d,t,os⟩:=by
 have c1:=tc_lookup;have c2:=tc_bind (.ref C);have ty:(⟨h,g,d,t,os⟩:Shared).TypeIs (.ref C) "type":=⟨_,hC,rfl⟩;refine codeAny_of_tree ?_;show wpAny _ _ (callAny (.ref C) _) _ _ _
 repeat (any_goals (first
  | assumption
  | with_reducible refine wpAny_loadPart_at hC ?_
  | wp_step))
 refine ⟨rfl,codeAny_call_builtin_at (Code.quiet_builtin _ (by decide +kernel)) entry_typeCall (wpAny_check_type_call_sub hC ?_)⟩
 repeat (first
  | with_reducible refine wpAny_loadPart_at hC ?_
  | with_reducible refine wpAny_madeBy_exc hC ?_
  | wp_step)
 refine codeAny_call_builtin_code (Code.quiet_builtin _ F.quiet) (wpAny_check_new_subT F T hC (codeAny_exc_new_subT F T hC ?_ hus))
 change wpAny _ _ _ _ _ (Shared.mk (DB h C us) g d t os)
 have kp:∀b o,h.get? b=some o->(DB h C us).get? b=some o:=λb o e=>ub9 _ (ub9 _ e);have he:(DB h C us).get? (h.objs.size + 1)=some { cls:=.ref C,data:=.fields #[.ref h.objs.size,.none,.none,.none,.bool false,.none] }:=by heap_get
 have n1:(DB h C us).Ns N mN:=hn.keeps kp;have cC:(Value.ref C :: bm).contains (.ref C)=true:=by simp
 unfold isInstance
 repeat (first
  | with_reducible refine wpAny_loadPart_at he ?_
  | (with_reducible refine wpAny_isSubtype_exc (kp _ _ hC) ?_;rw [cC])
  | wp_step)
 show wpAny _ _ (typeLookup (.ref C) _) _ _ _;refine wpAny_typeLookup_tail (kp _ _ hC) n1 (T.keeps kp) F.mroIs F.init.lookup ?_;rw [hni];refine uk8 (um3 ((hb.keeps kp).at ?_));refine um3 (wpAny_call (codeAny_mono hq λr s' z=>?_))
 cases r with
 | error e=>exact z
 | ok f=>
   cases f with
   | ret v=>
     obtain ⟨rfl,z⟩:=z;exact um4 (um4 z)
   | _=>exact z.elim
end
end L2
namespace L2
open PySem PySem.Spec PyProof.Rows PySem.W PySem.Builtin PySem.Builtin.ObjectAttr
theorem P6 (self:Value):refuseLoop self "__setattr__" [.type "ValueError",.type "Exception",.type "BaseException",.type "object"]=pure ():=by
 kernel_rfl
abbrev FC (C P:Addr):List Value:=[.ref C,.ref P,.type "ValueError",.type "Exception",.type "BaseException",.type "object"]
theorem Jh (self:Value)(C P:Addr):refuseLoop self "__setattr__" (FC C P)=pure ():=by
 rw [FC,refuseLoop_ref,refuseLoop_ref];exact P6 self
section
variable {prog:Program}{w:World}{A:Around}{s:Shared}{K:PySem.W.Frag}{x C P tp:Addr}{R:Result->Shared->Prop}{name:Str}{v:Value}{tk:Tok}{cd:ClassData}
theorem Up (X:K.In s.heap)(hx:s.heap.get? x=some (excObj C tp))(hc:clsIn K C=some cd)(hmr:cd.mro=FC C P)(ha:findIn K (.ref C) name=some none)
 (h:wpAny (model prog w) A.in1 (storeInOwnDict (.ref x) (.ref C) (.str name tk) name v false) (λfin s'=>match fin with | .done f=>R (.ok f) s' | .again c'=>c'.quiet=true/\codeAny (model prog w) A c' R s') (λe s'=>R (.error e) s') s) :
 codeAny (model prog w) A (.call (.builtin "object.__setattr__") ⟨[.ref x,.str name tk,v],[]⟩) R s:=by
 have SF:=PySem.F.store_object;have I:InstAt s.heap x (excObj C tp) C none:=⟨hx,rfl,rfl,trivial⟩;have ob:Looks (model prog w) s.heap (isInstance (.ref x) (.type "object")) true:=I.type.andThen (looks_mroIn X (by unfold mroIn;rw [hc,Option.bind_some,hmr];rfl));refine codeAny_call_builtin SF.slot.plain SF.entry (@check_slot (model prog w) _ _ s "object.__setattr__" "object" "__setattr__" (.ref x) [.str name tk,v] [] _ SF.kind SF.split ob (SF.args (.ref x) (.str name tk) v) ?_);have mr:Looks (model prog w) s.heap (mroOf (.ref C)) (FC C P):=by rw [<-hmr];exact (looks_clsIn X hc).andThen .now
 rw [osa_eq,refuse_eq];refine um3 (um3 (I.type.here (um3 (mr.here ?_))));rw [Jh];refine um4 (um3 (I.type.here (um3 ((looks_findIn X ha).here ?_))));exact um3 (um4 h)
theorem U9 {E:Value->Shared->Prop}{Q:Unit->Shared->Prop}(X:K.In s.heap)(hx:s.heap.get? x=some (excObj C tp))(hs:findIn K (.ref C) "__setattr__" = some (some (.builtin "object.__setattr__")))(hc:clsIn K C=some cd)(hmr:cd.mro=FC C P)(hd:cd.hasDict=true)(ha:findIn K (.ref C) name=some none)
 (h:∀h',(∀b o,b≠x->s.heap.get? b=some o->h'.get? b=some o)->h'.get? x=some { excObj C tp with dict:=some s.heap.objs.size }->h'.Ns1 s.heap.objs.size (λy=>if y=name then some v else none)->Q () { s with heap:=h',toks:=s.toks + 2 }) :
 wpAny (model prog w) A (setAttr (.ref x) name v) Q E s:=by
 have I:InstAt s.heap x (excObj C tp) C none:=⟨hx,rfl,rfl,trivial⟩;refine set_plain X I hs (Up (s:={ s with toks:=s.toks + 1 }) X hx hc hmr ha ?_);refine um3 (um4 (um3 (um3 (wpAny_loadPart (s:={ s with toks:=s.toks + 1 }) hx (um3 (Looks.here (s:={ s with toks:=s.toks + 1 }) (looks_clsIn X hc) ?_))))));rw [hd,if_neg (by decide)];show wpAny _ _ (alloc _ >>= λdx=>update x _ >>= λ_=>pure (some dx)) _ _ _;have hx1:(s.heap.push emptyDict).get? x=some (excObj C tp):=ub9 _ hx;have hne:s.heap.objs.size≠x:=ul2 (uk9 hx);refine um3 (wpAny_alloc (s:={ s with toks:=s.toks + 1 }) (um3 (wpAny_update hx1 (um4 ?_))));have hx2:((s.heap.push emptyDict).update x λo=>{ o with dict:=some s.heap.objs.size }).get? x=some { excObj C tp with dict:=some s.heap.objs.size }:=ud0 _ hx1 rfl;have hk:∀b o,b≠x->s.heap.get? b=some o->((s.heap.push emptyDict).update x λo=>{ o with dict:=some s.heap.objs.size }).get? b=some o:=λb o hb e=>(uc1 _ _ (Ne.symm hb)).trans (ub9 _ e);have hdx:((s.heap.push emptyDict).update x λo=>{ o with dict:=some s.heap.objs.size }).get? s.heap.objs.size=some emptyDict:=(uc1 _ _ (Ne.symm hne)).trans (ud7 _ rfl);have n1:((s.heap.push emptyDict).update x λo=>{ o with dict:=some s.heap.objs.size }).Ns1 s.heap.objs.size λ_=>none:=⟨_,#[],_,hdx,rfl,(λe he=>by simp at he),(by simp [UniqKeys]),λ_=>rfl⟩;refine um3 (um4 (um3 ?_));refine wpAny_nsSet1 n1 λh' n2 sb=>?_;obtain ⟨oD,esD,epD,hoD,hdD,hcD⟩:=n2.count (PySem.Within.cons name v (ns:=[]) (λy u=>absurd rfl u));refine um3 (wpAny_lookBehind hoD (by rw [hdD];exact pastItsLine_dict (ul1 hcD (by show 1<=_;decide))) ?_);exact um4 (h h' (λb o hb e=>by
  by_cases hb2:b=s.heap.objs.size
  ·subst hb2;exact absurd (uk9 e) (uj7 _)
  ·exact (sb.2 b hb2).trans (hk b o hb e)) ((sb.2 x (Ne.symm hne)).trans hx2) n2)
end
end L2
namespace L2
open PySem PySem.Spec PyProof.Rows PySem.W
variable {qx:Bool}
def XRec (qx:Bool)(h:Heap)(x C:Addr)(dx:Option Addr)(tb:Value):Prop:=∃(o:Obj) (vs:Array Value),h.get? x=some o/\o.cls = .ref C/\o.dict=dx/\o.data = .fields vs/\vs[1]?=some tb/\(qx=true->vs[2]?=some .none/\4 < vs.size)
theorem VS {qx:Bool}{vs:Array Value}{v:Value}(h:qx=true->vs[2]?=some .none/\4 < vs.size):qx=true->(vs.setIfInBounds 1 v)[2]?=some .none/\4 < (vs.setIfInBounds 1 v).size:=λz=>by
 rw [ua1 (by decide),ub4];exact h z
theorem XRec.to {qx:Bool}{h:Heap}{x C:Addr}{dx:Option Addr}{tb:Value}(r:XRec true h x C dx tb):XRec qx h x C dx tb:=by
 obtain ⟨o,vs,h1,h2,h3,h4,h5,h6⟩:=r;exact ⟨o,vs,h1,h2,h3,h4,h5,λ_=>h6 rfl⟩
def XTb (h:Heap)(T:Addr):Prop:=∃(o:Obj) (ts:Array Value),h.get? T=some o/\o.data = .fields ts/\ts[3]?=some .none
structure XKeep (fs ch:List Addr)(h h':Heap):Prop where
 keep:∀b o,b∉ch->b∉fs->h.get? b=some o->h'.get? b=some o
 slot:∀b o,b∉ch->h.get? b=some o->∃sl,h'.get? b=some { o with slots:=sl }
section
variable {M:Model}{A:Around}{E:Value->Shared->Prop}{s:Shared}{env:Env}{outer:List Env}{base:Heap}{L x C:Addr}{dx:Option Addr}{tb:Value}{Q:Unit->Shared->Prop}
theorem Fr {o:Obj}{vs:Array Value}(hd:o.data = .fields vs)(f:Array Value->Array Value):(o.mapFields f).data = .fields (f vs)/\(o.mapFields f).cls=o.cls/\(o.mapFields f).dict=o.dict:=by
 obtain ⟨c,d,dt,sl⟩:=o
 cases hd
 exact ⟨rfl,rfl,rfl⟩
end
end L2
namespace L2
open PySem PySem.Spec PyProof.Rows PySem.W
variable {qx:Bool}
abbrev VE:List Value:=[.type "ValueError",.type "Exception",.type "BaseException",.type "object"]
structure XCl (K:PySem.W.Frag)(C:Addr)(bm:List Value):Prop where
 ex:∃cd dd k0 k1 k2 k3 k5,K.lookup C=some { cls:=.type "type",dict:=dd,data:=.cls cd,slots:=#[k0,k1,k2,k3,some (.builtin "ValueError.__new__"),k5] }/\cd.mro = .ref C :: bm/\cd.hasDel=false/\cd.hasDict=true/\nsOkIn K cd.ns=true
 tl:tailIn K VE bm=true
noncomputable def K8 (K:PySem.W.Frag)(C:Addr)(bm:List Value):Bool:=tailIn K VE bm && match K.lookup C with
 | some ⟨.type "type",_,.cls cd,sl⟩=>(match sl.toList with
   | [_,_,_,_,some (.builtin n),_]=>n == "ValueError.__new__" && cd.mro == .ref C :: bm && !cd.hasDel && cd.hasDict && nsOkIn K cd.ns
   | _=>false)
 | _=>false
variable {K:PySem.W.Frag}{C:Addr}{bm:List Value}
theorem XCl.of_in (q:K8 K C bm=true):XCl K C bm:=by
 unfold K8 at q;rw [uh0] at q;refine ⟨?_,q.1⟩;have q:=q.2
 split at q
 ·rename_i dd cd sl ho
  split at q
  ·rename_i k0 k1 k2 k3 n k5 hs;simp only [uh0,beq_iff_eq,Bool.not_eq_true'] at q;obtain ⟨⟨⟨⟨rfl,h1⟩,h2⟩,h3⟩,h4⟩:=q;have hsl:sl=#[k0,k1,k2,k3,some (.builtin "ValueError.__new__"),k5]:=by
    cases sl
    exact congrArg Array.mk hs
   exact ⟨cd,dd,k0,k1,k2,k3,k5,by rw [ho,hsl],h1,h2,h3,h4⟩
  ·cases q
 ·cases q
theorem XCl.obj {K:PySem.W.Frag}{C:Addr}{bm:List Value}{h:Heap}(c:XCl K C bm)(X:K.In h):∃nm q N bs sn sub ab col dd k0 k1 k2 k3 k5,h.get? C=some (excClassObj nm q C N bs bm true sn sub ab col dd k0 k1 k2 k3 k5 "ValueError.__new__")/\h.Ns N (h.nsMap N):=by
 obtain ⟨⟨nm,bs,mro,ns,qn,hd,sn,sub,ab,col,del⟩,dd,k0,k1,k2,k3,k5,h1,h2,h3,h4,h5⟩:=c.ex;dsimp only at h2 h3 h4 h5;subst h2 h3 h4;exact ⟨nm,qn,ns,bs,sn,sub,ab,col,dd,k0,k1,k2,k3,k5,X _ _ h1,.of_isNs (isNs_of_in X h5)⟩
variable {h:Heap}
theorem XCl.tail (c:XCl K C bm)(X:K.In h):OwnTail h VE bm:=tail_of_in X c.tl
theorem XCl.has (c:XCl K C bm)(X:K.In h):(Value.ref C :: bm).contains (.type "BaseException")=true:=by
 rw [List.contains_cons,(c.tail X).hasType (b:=true) (by decide +kernel),Bool.or_true]
section
variable {M:Model}{A:Around}{E:Value->Shared->Prop}{env:Env}{K:PySem.W.Frag}{C:Addr}{bm:List Value}{s:Shared}
theorem Sc {t:Sem Value}{Q:Flow->Shared->Prop}(c:XCl K C bm)(hh:A.handled=none)
 (h:wpAny M A t (λv s1=>∃x dx,v = .ref x/\K.In s1.heap/\XRec qx s1.heap x C dx .none/\E v s1) E s):wpAny M A (raiseStmt env (some t) none) Q E s:=by
 unfold raiseStmt;refine um3 (um5 h (λv s1 q=>?_) λ_ _ z=>z);obtain ⟨x,dx,rfl,X,⟨o,vs,hx,hc,hd,hdt,h1,_⟩,hE⟩:=q;obtain ⟨nm,q,N,bs,sn,sub,ab,col,dd,k0,k1,k2,k3,k5,hC,_⟩:=c.obj X;have hb:=c.has X;obtain ⟨hp,g,d,tk,os⟩:=s1
 repeat (first
  | (with_reducible refine wpAny_loadPart_at hx ?_;rw [hc])
  | with_reducible refine wpAny_loadPart_at hC ?_
  | (with_reducible refine wpAny_isSubtype_exc hC ?_;rw [hb])
  | with_reducible refine um2 hx hdt h1 ?_
  | wp_step)
 exact wpAny_raiseNew_none hh hE
end
def CX1 (qx:Bool)(P:Program)(w:World):CXT:=λouter H s E e s'=>∃(x C:Addr) (dx:Option Addr) (T:Addr) (H':Hp),e = .ref x/\s'.os=s.os/\AllBare s'.gens/\Un (frs outer) [] H H' s.heap s'.heap/\HOk P w H' s'.heap/\
 H' x=some (.ext (F2.XIs qx x C dx))/\s.heap.objs.size<=x/\s.heap.objs.size<=T/\T≠x/\H' T=none/\XRec qx s'.heap x C dx (.ref T)/\XTb s'.heap T/\E (.ref x) dx H'
variable {dx:Option Addr}
theorem XRec.is {x:Addr}{tb:Value}(r:XRec qx h x C dx tb):F2.XIs qx x C dx h:=by
 obtain ⟨o,vs,h1,h2,h3,h4,_,h5⟩:=r;exact ⟨o,vs,h1,h2,h3,h4,h5⟩
theorem XIs.stay {x:Addr}{h1 h2:Heap}(r:F2.XIs qx x C dx h1)(k:∀o,h1.get? x=some o->h2.get? x=some o):F2.XIs qx x C dx h2:=by
 obtain ⟨o,vs,e,q⟩:=r;exact ⟨o,vs,k o e,q⟩
theorem GR {P:Program}{w:World}{H:Hp}{x:Addr}(r:F2.XIs qx x C dx h):ObjOk P w H h x (.ext (F2.XIs qx x C dx)):=
 ⟨r,let ⟨o,_,e,_⟩:=r;⟨o,e⟩,λ_ _ q k=>XIs.stay q k⟩
section
variable {X:Cx}{pins:List (Addr×Obj)}{σ:St}{H H':Hp}{s s':Shared}{h':Heap}{x C T:Addr}{dx:Option Addr}{ch:List Addr}
theorem SE (k:XKeep (frs X.stack) ch s.heap h')(hT:∀b∈ch,b=x\/b=T):Un (frs X.stack) (x :: T :: []) H H s.heap h':=by
 have nch:∀b:Addr,b∉(x :: T :: [])->b∉ch:=λb hb z=>hb (by rcases hT b z with rfl | rfl <;> simp);refine ⟨λb o e n hb hx=>k.keep b o (nch b hx) hb e,λb o e n hb hx=>k.slot b o (nch b hx) e,λb o e n _=>n,λb o e hx=>?_,λ_ _ e=>e,λ_ _ _ e=>e,λb ps e=>⟨#[],by rw [e];simp⟩⟩;obtain ⟨sl,q⟩:=k.slot b o (nch b hx) e;exact ⟨_,q⟩
theorem Inv.left (I:Inv X pins σ H s)(hx:H x=some (.ext (F2.XIs qx x C dx)))(hT:H T=none)(nx:X.s₀.heap.objs.size<=x)(nT:X.s₀.heap.objs.size<=T)(k:XKeep (frs X.stack) ch s.heap h')(hc:∀b∈ch,b=x\/b=T)(r:F2.XIs qx x C dx h')
 (oT:∀y c,X.env.cells.lookup y=some c->c≠T) (lT:T≠X.env.locals) (pT:∀p∈X.pn++pins,p.1≠T):Inv X pins σ H { s with heap:=h' }:=by
 have nfr:∀b u,H b=some u->b∉frs X.stack:=λb u e z=>by rw [I.stkFree b z] at e;cases e
 refine I.call (g':=s.gens) (t':=s.toks) (d':=s.drawn) (ch:=[x,T]) (SE k hc) (λb u e=>?_) I.bare λb hb=>?_
 ·by_cases hb:b=x
  ·subst hb;rw [hx] at e;cases e;exact GR r
  ·refine (I.hok b u e).stay (λc v hcc q=>k.keep c v ?_ ?_ q) (λ_ q=>q) λ_ _ q=>q
   ·intro z;rcases hcc with rfl | hcc
    ·rcases hc c z with q | q
     ·exact hb q
     ·rw [q,hT] at e;cases e
    ·rcases hc c z with q | q
     ·rw [q,hx] at hcc;cases hcc
     ·rw [q,hT] at hcc;cases hcc
   ·rcases hcc with rfl | hcc
    ·exact nfr _ _ e
    ·exact nfr _ _ hcc
 ·have q:b=x\/b=T:=by simpa using hb
  rcases q with rfl | rfl
  ·exact ⟨.inr nx,(λz=>by rw [z,I.free] at hx;cases hx),(λy c e z=>by subst z;rw [I.freeC y c e] at hx;cases hx),λp hp z=>by rw [<-z,(I.pin p hp).2.1] at hx;cases hx⟩
  ·exact ⟨.inr nT,lT,oT,pT⟩
theorem Inv.raised (I:Inv X pins σ H s){E:XK}{e:Value}(q:CX1 qx X.prog X.w X.stack H s E e s'):∃(x C:Addr) (dx:Option Addr) (T:Addr) (H':Hp),e = .ref x/\Inv X pins σ H' s'/\H' x=some (.ext (F2.XIs qx x C dx))/\s.heap.objs.size<=x/\s.heap.objs.size<=T/\T≠x/\H' T=none/\XRec qx s'.heap x C dx (.ref T)/\XTb s'.heap T/\E (.ref x) dx H':=by
 obtain ⟨x,C,dx,T,H',he,os,bare,un,hok,hx,nx,nT,ne,hT,r,tb,q⟩:=q;obtain ⟨hh,g,d,t,os'⟩:=s';obtain rfl:os'=s.os:=os;exact ⟨x,C,dx,T,H',he,I.call (h':=hh) (g':=g) (d':=d) (t':=t) (ch:=[]) un hok bare (λb z=>absurd z (by simp)),hx,nx,nT,ne,hT,r,tb,q⟩
theorem Inv.newT (I:Inv X pins σ H s)(h:s.heap.objs.size<=T):T≠X.env.locals/\(∀y c,X.env.cells.lookup y=some c->c≠T)/\∀p∈X.pn++pins,p.1≠T:=by
 have far:∀b o,s.heap.get? b=some o->b≠T:=λb o e z=>absurd (ue1 (uk9 e) h) (by rw [z];exact uj7 _);refine ⟨λz=>absurd I.lt (by rw [<-z];exact Nat.not_lt.mpr h),λy c e=>?_,λp hp=>far _ _ (I.pin p hp).1⟩;obtain ⟨v,o,ho,_⟩:=I.cell y c e;exact far c o ho
end
section
variable {P:Program}{w:World}{K:PySem.W.Frag}{mg:Str->Option Value}{base:Heap}{N:List Str}{qual:Str}{scope:Scope}{f:Addr}{cd:Value}{A:Around}{outer:List Env}{s₀:Shared}{H₀:Hp}{E:XK}
end
end L2
namespace L2
open PySem PySem.Spec PyProof.Rows PySem.W
noncomputable def exO (x C tp:Addr):HO:=.ext λh=>h.get? x=some (excObj C tp)
noncomputable def EI (x C tp dx:Addr):HO:=.ext λh=>h.get? x=some { excObj C tp with dict:=some dx }
theorem LB {P:Program}{w:World}{H:Hp}{h:Heap}{x C tp:Addr}(e:h.get? x=some (excObj C tp)):ObjOk P w H h x (exO x C tp):=⟨e,⟨_,e⟩,λ_ _ p k=>k _ p⟩
theorem Tw {P:Program}{w:World}{H:Hp}{h:Heap}{x C tp dx:Addr}(e:h.get? x=some { excObj C tp with dict:=some dx }):ObjOk P w H h x (EI x C tp dx):=⟨e,⟨_,e⟩,λ_ _ p k=>k _ p⟩
structure XAt (K:PySem.W.Frag)(C P:Addr)(f:Str):Prop where
 cl:XCl K C (.ref P :: VE)
 set:findIn K (.ref C) "__setattr__" = some (some (.builtin "object.__setattr__"))
 no:findIn K (.ref C) f=some none
theorem XCl.cls {K:PySem.W.Frag}{C:Addr}{bm:List Value}(c:XCl K C bm):∃cd,clsIn K C=some cd/\cd.mro = .ref C :: bm/\cd.hasDict=true:=by
 obtain ⟨cd,dd,k0,k1,k2,k3,k5,h1,h2,_,h4,_⟩:=c.ex;exact ⟨cd,by unfold clsIn;rw [h1],h2,h4⟩
def sXF (K:PySem.W.Frag)(P:Addr)(ta tv:TE)(f:Str):TS:=λD σ H=>tv σ H λy H1=>ta σ H1 λx H2=>∃a C tp,x = .ref a/\H2 a=some (exO a C tp)/\XAt K C P f/\
 ∀dx,H2 dx=none->dx≠a->D.nx σ (upd (upd H2 dx (.xd [(f,y)])) a (EI a C tp dx))
theorem N3 {X:Cx}{P:Addr}{o value:Expr}{ta tv:TE}{f:Str}{pos' pos:Pos}(ha:PE X o ta)(hv:PE X value tv)(hs:swapsWith value (some (.Attribute o f pos')) pos.line X.env=pure false):PS X (.Assign [.Attribute o f pos'] value pos) (sXF X.K P ta tv f):=by
 intro pins s σ H D I h;refine plainObj_wpAny_Assign_Attribute (thn (hv pins s σ H _ I h) λu s1 ⟨y,H1,I1,ry,q⟩=>thn (ha pins s1 σ H1 _ I1 q) λov s2 z9=>?_) hs;obtain ⟨x,H2,I2,rx,a,C,tp,ex,ea,c,q2⟩:=z9;subst ex;obtain rfl:ov=Value.ref a:=rx;obtain ⟨cd,c1,c2,c3⟩:=c.cl.cls;have hx:s2.heap.get? a=some (excObj C tp):=(I2.hok a _ ea).1;refine U9 I2.kIn hx c.set c1 c2 c3 c.no λh' k e n=>?_;have fr:=I2.hok.fresh (ul9 s2.heap.objs.size);have ne:s2.heap.objs.size≠a:=(λz=>by rw [z,ea] at fr;cases fr)
 have nn:∀b u,H2 b=some u->b≠s2.heap.objs.size:=λb u z=>AE z fr;have na:∀b u,s2.heap.get? b=some u->H2 b=none->b≠a:=λb u _ z w'=>by rw [w',ea] at z;cases z
 refine ⟨σ,_,I2.un (h':=h') (t':=s2.toks + 2) ⟨λb u e1 e2 _ _=>k b u (na b u e1 e2) e1,λb u e1 e2 _ _=>⟨u.slots,k b u (na b u e1 e2) e1⟩,λb u e1 e2 _=>?_,λb u e1 _=>?_,λb xs e1=>?_,λb o' u e1=>?_,λb ps e1=>⟨#[],?_⟩⟩ λb u e1=>?_,q2 s2.heap.objs.size fr ne⟩
 ·rw [Ag (na b u e1 e2),Ag (ul0 (uk9 e1))];exact e2
 ·by_cases hb:b=a
  ·subst hb;exact ⟨_,e⟩
  ·exact ⟨_,k b u hb e1⟩
 ·rw [Ag (λz=>by rw [z,ea] at e1;cases e1),Ag (nn _ _ e1)];exact e1
 ·rw [Ag (λz=>by rw [z,ea] at e1;cases e1),Ag (nn _ _ e1)];exact e1
 ·rw [Ag (λz=>by rw [z,ea] at e1;cases e1),Ag (nn _ _ e1),e1];simp
 ·by_cases hb:b=a
  ·subst hb;rw [Ak] at e1;cases e1;exact Tw e
  ·rw [Ag hb] at e1
   by_cases hb2:b=s2.heap.objs.size
   ·subst hb2;rw [Ak] at e1;cases e1
    refine ⟨_,n,λg=>?_⟩
    by_cases hg:g=f
    ·subst hg;simp only [List.lookup,uh5,if_true];exact ry
    ·have hgb:(g == f)=false:=beq_eq_false_iff_ne.mpr hg;simp only [List.lookup,hgb,if_neg hg];trivial
   ·rw [Ag hb2] at e1;refine (I2.hok b u e1).stay (λz v hz q=>k z v ?_ q) (λz q=>?_) λz xs q=>?_
    ·rcases hz with rfl | hz
     ·exact hb
     ·intro w';rw [w',ea] at hz;cases hz
    ·rw [Ag (λz=>by rw [z,ea] at q;cases q),Ag (nn _ _ q)];exact q
    ·rw [Ag (λz=>by rw [z,ea] at q;cases q),Ag (nn _ _ q)];exact q
variable {qx:Bool}
theorem Go {K:PySem.W.Frag}{h:Heap}{N:Addr}{m:Str->Option Value}{n:Str}{v:Value}(X:K.In h)(G:h.Ns N m)(e:nsIn K N n=some (some v)):m n=some v:=by
 obtain ⟨o,es,ep,ho,hd,_,hf⟩:=G;unfold nsIn at e
 split at e
 ·next c d es' n' sl q=>
  have z:=X _ _ q;rw [ho] at z
  cases z
  cases hd
  split at e
  ·next en he=>
   rw [<-hf];unfold nsFind findBy;rw [<-ue4,he];simpa using e
  ·split at e <;> cases e
 ·cases e
structure XMk (K:PySem.W.Frag)(C P f:Addr):Prop where
 cl:XCl K C (.ref P :: VE)
 init:∃cd,clsIn K C=some cd/\nsIn K cd.ns "__init__" = some (some (.ref f))
 fn:isFn K (.ref f)=true
 kp:keepIn K (.ref C)=true
def spI (K:PySem.W.Frag)(P:Addr)(a:Str):Sp:=λvs H Q _=>∃x C tp v,vs=[.ref x,v]/\H x=some (exO x C tp)/\XAt K C P a/\∀dx,H dx=none->dx≠x->Q .non (upd (upd H dx (.xd [(a,v)])) x (EI x C tp dx))
section
variable {X:Cx}{k:Nat}{f C P:Addr}{fd:FuncData}{pins:List (Addr×Obj)}{σ:St}{H:Hp}{s:Shared}{Q:Value->Shared->Prop}{us:List Value}{vs:List V}{a:Str}{ps:List Str}{v:V}{u:Value}
theorem P7 (M:XMk X.K C P f)(ha:XAt X.K C P a)(F:FnOk X.prog X.w X.K X.mg X.base CX0 k f fd ps (spI X.K P a))(hr:Room (k + 1) X.A)(hb:Binds X.K fd ps [])(I:Inv X pins σ H s)(r:RelV v u)
 (h:∀s' x dx,Inv X pins σ (upd (upd H dx (.xd [(a,v)])) x (.ext (F2.XIs qx x C (some dx)))) s'->H x=none->H dx=none->dx≠x->s.heap.objs.size<=x->XRec true s'.heap x C (some dx) .none->Q (.ref x) s'):wpAny (model X.prog X.w) X.A (call (.ref C) [u]) Q X.xe s:=by
 obtain ⟨nm,q,N,bs,sn,sub,ab,col,dd,k0,k1,k2,k3,k5,hC,hN⟩:=M.cl.obj I.kIn;have hni:s.heap.nsMap N "__init__" = some (.ref f):=by
  obtain ⟨cd,c1,c2⟩:=M.init;refine Go I.kIn hN ?_;unfold clsIn at c1
  split at c1
  ·next l=>
   cases c1
   have z:=I.kIn _ _ l;rw [hC] at z
   cases z
   exact c2
  ·cases c1
 have I1:Inv X pins σ (upd H (s.heap.objs.size + 1) (exO (s.heap.objs.size + 1) C s.heap.objs.size)) { s with heap:=DB s.heap C [u] }:=by
  refine I.laid (t':=s.toks) (λb o e=>ub9 _ (ub9 _ e)) (um1 _) (LB ?_);show ((s.heap.push _).push _).get? _=_
  heap_get
 have hx0:=I.hok.fresh (um1 s.heap.objs.size);have r2:Vals [V.ref (s.heap.objs.size + 1),v] [Value.ref (s.heap.objs.size + 1),u]:=.cons rfl (.cons r .nil);have hsp:spI X.K P a [V.ref (s.heap.objs.size + 1),v] (upd H (s.heap.objs.size + 1) (exO (s.heap.objs.size + 1) C s.heap.objs.size))
  (λw' H'=>w' = .non/\∃dx,H dx=none/\dx≠s.heap.objs.size + 1/\H'=upd (upd H dx (.xd [(a,v)])) (s.heap.objs.size + 1) (EI (s.heap.objs.size + 1) C s.heap.objs.size dx)) E0:=by
  refine ⟨_,C,s.heap.objs.size,v,rfl,Ak,ha,λdx h1 h2=>⟨rfl,dx,by rw [Ag h2] at h1;exact h1,h2,?_⟩⟩
  funext b
  by_cases e1:b=s.heap.objs.size + 1
  ·subst e1;rw [Ak,Ak]
  ·by_cases e2:b=dx
   ·subst e2;rw [Ag e1,Ag e1,Ak,Ak]
   ·rw [Ag e1,Ag e1,Ag e2,Ag e2,Ag e1]
 have hl:([Value.ref (s.heap.objs.size + 1),u]++[]).length=ps.length:=by
  have e:=F.len _ _ _ _ hsp;simpa using e
 obtain ⟨hh,g,d,t,os⟩:=s;refine wpAny_call (Io ua6 (M.cl.tail I.kIn) hC hN hni ((bind_fn I.kIn _ (beq_iff_eq.mp M.fn))) (by show 1<=sizeLine;decide) ?_);refine codeAny_mono (F.run _ X.stack _ _ ⟨[Value.ref (hh.objs.size + 1),u],[]⟩ [Value.ref (hh.objs.size + 1),u] _ _ E0 (hr.make C [u] []) (I1.env0.make C [u] []) (by have:=hb _ [Value.ref (hh.objs.size + 1),u] I1.kIn hl;simpa using this) r2 hsp) λr s' hq'=>?_
 cases r with
 | error e=>exact hq'.elim
 | ok fl=>
   cases fl with
   | ret w'=>
     obtain ⟨v',H',I3,rv,rfl,dx,d1,d2,rfl⟩:=I1.after hq';refine ⟨rv,?_⟩;have hx:=(I3.hok (hh.objs.size + 1) _ Ak).1;have hx:s'.heap.get? (hh.objs.size + 1)=some { excObj C hh.objs.size with dict:=some dx }:=hx;have xr:XRec true s'.heap (hh.objs.size + 1) C (some dx) .none:=⟨_,_,hx,rfl,rfl,rfl,rfl,λ_=>⟨rfl,by show 4 < 6;decide⟩⟩;have I4:=I3.write (x:=hh.objs.size + 1) (e:=hh.objs.size + 1) (o:=.ext (F2.XIs qx (hh.objs.size + 1) C (some dx))) (h':=s'.heap) (t':=s'.toks) (by rw [Ak];trivial) (.inl rfl) (λ_ _ _ z=>z) ⟨_,hx⟩ (GR xr.to.is);rw [Kb] at I4;exact h s' (hh.objs.size + 1) dx I4 hx0 d1 d2 (um1 _) xr
   | next=>exact False.elim hq'
   | brk=>exact False.elim hq'
   | cont=>exact False.elim hq'
end
end L2
namespace L2
open PySem PySem.Spec PyProof.Rows PySem.W
variable {qx:Bool}
section
variable {M:Model}{A:Around}{E:Value->Shared->Prop}{K:PySem.W.Frag}{s:Shared}{x C C':Addr}{bm bm':List Value}{dx:Option Addr}{tb:Value}
theorem Ip {Q:Bool->Shared->Prop}(c:XCl K C bm)(c':XCl K C' bm')(X:K.In s.heap)(hx:XRec qx s.heap x C dx tb)(h:Q ((Value.ref C :: bm).contains (.ref C')) s):wpAny M A (excMatches (.ref x) (.ref C')) Q E s:=by
 obtain ⟨nm,q,N,bs,sn,sub,ab,col,dd,k0,k1,k2,k3,k5,hC,_⟩:=c.obj X;obtain ⟨nm',q',N',bs',sn',sub',ab',col',dd',k0',k1',k2',k3',k5',hC',_⟩:=c'.obj X;have hb:=c'.has X;obtain ⟨o,vs,ho,hc,hd,hdt,h1⟩:=hx;obtain ⟨hp,g,d,tk,os⟩:=s;have ty:(⟨hp,g,d,tk,os⟩:Shared).TypeIs (.ref C') "type":=⟨_,hC',rfl⟩;have nt:=tc_notTuple
 cases hbb:(Value.ref C :: bm).contains (.ref C') <;> (
  rw [hbb] at h;unfold excMatches
  repeat (first
   | (with_reducible refine wpAny_loadPart_at ho ?_;rw [hc])
   | with_reducible refine wpAny_loadPart_at hC' ?_
   | (with_reducible refine wpAny_isSubtype_exc hC' ?_;rw [hb])
   | (with_reducible refine wpAny_isSubtype_exc hC ?_;rw [hbb])
   | wp_step)
  exact h)
end
end L2
namespace L2
open PySem PySem.Spec PyProof.Rows PySem.W
variable {qx:Bool}
def QE (h:Heap)(T:Addr)(fl:Value):Prop:=∃(o:Obj) (ts:Array Value),h.get? T=some o/\o.data = .fields ts/\ts[3]?=some fl
section
variable {M:Model}{A:Around}{E:Value->Shared->Prop}{s:Shared}{env:Env}{outer:List Env}{base:Heap}{L x C:Addr}{dx:Option Addr}{tb:Value}{Q:Unit->Shared->Prop}
theorem Kq {hadNext:Bool}{hd:Value}(hfr:A.frames=some (env :: outer))(hl:s.heap.FunFrames base (env :: outer))(hf:env.frame=some L)(hx:XRec qx s.heap x C dx tb)
 (h:∀h' T,s.heap.objs.size<=T->T≠x->XRec qx h' x C dx (.ref T)->QE h' T (rawInt L)->XKeep (frs (env :: outer)) [x] s.heap h'->Q () { s with heap:=h' }) :
 wpAny M A (do let fo <-frameOf env;let at' <-entryPlaceOf L hadNext;let en <-EntryCells.newEntry hd fo .none (rawInt L) .none at';setField (.ref x) 1 en) Q E s:=by
 obtain ⟨ox,vs,gx,cx,dxe,dtx,tbx,xc⟩:=hx;have v1:1 < vs.size:=(ua7.mp tbx).1;have nfr:x∉frs (env :: outer):=λz=>by
  obtain ⟨_,o2,g2,n2⟩:=hl.mem z;rw [gx] at g2;cases g2
  exact n2 vs dtx
 refine um3 (wpAny_frameOf_fun hfr hl hf λh1 so=>?_);refine um3 (wpAny_entryPlaceOf λat' ip=>?_);unfold EntryCells.newEntry newFields;refine um3 (wpAny_newObj_type ?_ (ip.sizeOk5 _ _ _ _ _));generalize hne:(Obj.mk (Value.type "traceback") none (Data.fields ([hd,Value.ref L,Value.none,rawInt L,Value.none]++if at'.isEmpty=true then List.replicate 6 Value.none else at').toArray) #[])=nob;have dn:nob.data = .fields ([hd,Value.ref L,Value.none,rawInt L,Value.none]++if at'.isEmpty=true then List.replicate 6 Value.none else at').toArray:=by rw [<-hne]
 have gx1:h1.get? x=some ox:=(so.2.1 x nfr).trans gx;have gx2:(h1.push nob).get? x=some ox:=ub9 _ gx1;have nex:h1.objs.size≠x:=ul2 (uk9 gx1);refine wpAny_setField gx2 dtx v1 ?_;obtain ⟨m1,m2,m3⟩:=Fr dtx (·.setIfInBounds 1 (Value.ref h1.objs.size));have gx3:=ud0 (Obj.mapFields (·.setIfInBounds 1 (Value.ref h1.objs.size))) gx2 (Obj.isFreed_of_fields m1);have gT2:(h1.push nob).get? h1.objs.size=some nob:=ud7 h1 (Obj.isFreed_of_fields dn);have gT3:=(uc1 (h1.push nob) (Obj.mapFields (·.setIfInBounds 1 (Value.ref h1.objs.size))) (Ne.symm nex)).trans gT2;have vx:(vs.setIfInBounds 1 (Value.ref h1.objs.size))[1]?=some (.ref h1.objs.size):=by simp [v1]
 have old:∀b o,b≠x->h1.get? b=some o->((h1.push nob).update x (Obj.mapFields (·.setIfInBounds 1 (Value.ref h1.objs.size)))).get? b=some o:=λb o hb e=>by
  rw [uc1 _ _ (Ne.symm hb)];exact ub9 _ e
 refine h _ h1.objs.size (Nat.le_of_eq so.1.symm) nex ⟨_,_,gx3,m2.trans cx,m3.trans dxe,m1,vx,VS xc⟩ ⟨_,_,gT3,dn,?_⟩ ⟨λb o hb hbf e=>old b o (λz=>hb (by simp [z])) ((so.2.1 b hbf).trans e),λb o hb e=>?_⟩
 ·rw [List.getElem?_toArray];rfl
 ·obtain ⟨sl,e1⟩:=so.2.2 b o e;exact ⟨sl,old b _ (λz=>hb (by simp [z])) e1⟩
end
structure XOn (qx:Bool)(X:Cx)(pins:List (Addr×Obj))(H:Hp)(s:Shared)(x C:Addr)(dx:Option Addr)(T:Option Addr)(fl:Value):Prop where
 hx:H x=some (.ext (F2.XIs qx x C dx))
 nx:X.s₀.heap.objs.size<=x
 rc:XRec qx s.heap x C dx (match T with | some a=>.ref a | none=>.none)
 tb:∀a,T=some a->a≠x/\H a=none/\X.s₀.heap.objs.size<=a/\(a≠X.env.locals/\(∀y c,X.env.cells.lookup y=some c->c≠a)/\∀p∈X.pn++pins,p.1≠a)/\QE s.heap a fl
 fo:fl = .none\/fl=rawInt X.env.locals
section
variable {M:Model}{A:Around}{Er:Value->Shared->Prop}{X:Cx}{pins:List (Addr×Obj)}{σ:St}{H:Hp}{s:Shared}{x C:Addr}{dx T:Option Addr}{fl:Value}{Q:Unit->Shared->Prop}
theorem D3 (fr:Option Addr)(I:Inv X pins σ H s){a:Addr}(o:XOn qx X pins H s x C dx (some a) fl)(hfr:fr=none\/fr=some X.env.locals)
 (k:∀h',Inv X pins σ H { s with heap:=h' }->XOn qx X pins H { s with heap:=h' } x C dx (some a) (fr.elim Value.none λf=>rawInt f)->Q () { s with heap:=h' }):wpAny M A (setFlight (.ref x) fr) Q Er s:=by
 obtain ⟨ox,vs,gx,cx,dxe,dtx,tbx,xc⟩:=id o.rc;obtain ⟨ne,hT,nT,oT,ot,ts,gT,dT,t3⟩:=o.tb a rfl;unfold setFlight;refine um3 (um2 gx dtx tbx ?_);rw [if_pos (show (Value.ref a != Value.none)=true from rfl)];refine wpAny_setField gT dT (ua7.mp t3).1 ?_;obtain ⟨m1,m2,m3⟩:=Fr dT (·.setIfInBounds 3 (fr.elim Value.none λf=>rawInt f));have gT2:=ud0 (Obj.mapFields (·.setIfInBounds 3 (fr.elim Value.none λf=>rawInt f))) gT (Obj.isFreed_of_fields m1);have oth:∀b,b≠a->(s.heap.update a (Obj.mapFields (·.setIfInBounds 3 (fr.elim Value.none λf=>rawInt f)))).get? b=s.heap.get? b:=λb z=>uc1 _ _ (Ne.symm z);have rc':XRec qx (s.heap.update a (Obj.mapFields (·.setIfInBounds 3 (fr.elim Value.none λf=>rawInt f)))) x C dx (.ref a):=⟨ox,vs,(oth x (Ne.symm ne)).trans gx,cx,dxe,dtx,tbx,xc⟩;refine k _ (I.left o.hx hT o.nx nT (ch:=[a]) ⟨λb u hb _ e=>(oth b (by simpa using hb)).trans e,λb u hb e=>⟨u.slots,(oth b (by simpa using hb)).trans e⟩⟩ (λb hb=>.inr (by simpa using hb)) rc'.is oT.2.1 oT.1 oT.2.2) ⟨o.hx,o.nx,rc',λa' e=>?_,?_⟩
 ·cases e
  exact ⟨ne,hT,nT,oT,_,_,gT2,m1,by rw [Array.getElem?_setIfInBounds_self,if_pos (ua7.mp t3).1]⟩
 ·rcases hfr with rfl | rfl
  ·exact .inl rfl
  ·exact .inr rfl
theorem Ft (hA:A.frames=some X.stack)(I:Inv X pins σ H s)(hs:X.stack=X.env :: X.outer)(hf:X.env.frame=some X.env.locals)(o:XOn qx X pins H s x C dx T fl)
 (k:∀h' a,Inv X pins σ H { s with heap:=h' }->XOn qx X pins H { s with heap:=h' } x C dx (some a) (rawInt X.env.locals)->Q () { s with heap:=h' }):wpAny M A (noteFrame (.ref x) X.env) Q Er s:=by
 obtain ⟨ox,vs,gx,cx,dxe,dtx,tbx,xc⟩:=id o.rc;have fin:∀(s1:Shared) (hh:∃h1,s1 = { s with heap:=h1 }) (ch:List Addr) (h':Heap) (a:Addr),Inv X pins σ H s1->s1.heap.objs.size<=a->a≠x->XRec qx h' x C dx (.ref a)->QE h' a (rawInt X.env.locals)->XKeep (frs (X.env :: X.outer)) [x] s1.heap h'->Q () { s1 with heap:=h' }:=by
  rintro s1 ⟨h1,rfl⟩ ch h' a I1 l1 l2 l3 l4 l5;obtain ⟨o1,o2,o3⟩:=I1.newT l1;have J:=I1.left o.hx (I1.hok.fresh l1) o.nx (ul1 I1.sz l1) (ch:=[x]) (hs ▸ l5) (λb hb=>.inl (by simpa using hb)) l3.is o2 o1 o3;exact k h' a J ⟨o.hx,o.nx,l3,λa' e=>by cases e;exact ⟨l2,I1.hok.fresh l1,ul1 I1.sz l1,⟨o1,o2,o3⟩,l4⟩,.inr rfl⟩
 unfold noteFrame;simp only [hf];refine um3 (um2 gx dtx tbx ?_)
 cases T with
 | none=>
   rw [if_neg (by decide)];exact Kq (hA.trans (congrArg some hs)) (hs ▸ I.stack) hf o.rc λh' a l1 l2 l3 l4 l5=>fin s ⟨s.heap,rfl⟩ [] h' a I l1 l2 l3 l4 l5
 | some T₀=>
   obtain ⟨ne,hT,nT,oT,ot,ts,gT,dT,t3⟩:=o.tb T₀ rfl;rw [if_pos (show (Value.ref T₀ != Value.none)=true from rfl)];refine um3 (um2 gT dT t3 ?_);rcases o.fo with rfl | rfl
   ·rw [if_neg (show ¬((Value.none == rawInt X.env.locals)=true) from by simp [rawInt])];refine um3 (wpAny_setField gT dT (ua7.mp t3).1 ?_);have oth:∀b,b≠T₀->(s.heap.update T₀ (Obj.mapFields (·.setIfInBounds 3 Value.none))).get? b=s.heap.get? b:=λb z=>uc1 _ _ (Ne.symm z);have rc':XRec qx (s.heap.update T₀ (Obj.mapFields (·.setIfInBounds 3 Value.none))) x C dx (.ref T₀):=⟨ox,vs,(oth x (Ne.symm ne)).trans gx,cx,dxe,dtx,tbx,xc⟩;have J:=I.left o.hx hT o.nx nT (ch:=[T₀]) ⟨λb u hb _ e=>(oth b (by simpa using hb)).trans e,λb u hb e=>⟨u.slots,(oth b (by simpa using hb)).trans e⟩⟩ (λb hb=>.inr (by simpa using hb)) rc'.is oT.2.1 oT.1 oT.2.2;exact Kq (s:={ s with heap:=s.heap.update T₀ (Obj.mapFields (·.setIfInBounds 3 Value.none)) }) (hA.trans (congrArg some hs)) (hs ▸ J.stack) hf rc' λh' a l1 l2 l3 l4 l5=>fin _ ⟨_,rfl⟩ [] h' a J l1 l2 l3 l4 l5
   ·rw [if_pos (show (rawInt X.env.locals == rawInt X.env.locals)=true from by first | (simp;done) | exact uh5 _)];exact um4 (k s.heap T₀ I ⟨o.hx,o.nx,o.rc,o.tb,.inr rfl⟩)
end
def XE (qx:Bool)(X:Cx)(E:St->XK):Value->Shared->Prop:=λe s=>∃pins σ H x C dx T fl,e = .ref x/\Inv X pins σ H s/\XOn qx X pins H s x C dx T fl/\E σ (.ref x) dx H
def B4 (CX:CXT)(X:Cx)(E:St->XK):Prop:=∀(pins:List (Addr×Obj)) (σ:St) (H:Hp) (s:Shared) (e:Value) (s':Shared),Inv X pins σ H s->CX X.stack H s (E σ) e s'->X.xe e s'
section
variable {M:Model}{X:Cx}{E:St->XK}
theorem XE.own (hs:X.stack=X.env :: X.outer)(hf:X.env.frame=some X.env.locals):PassesOwn M X.A X.env (XE qx X E):=by
 rintro e s ⟨pins,σ,H,x,C,dx,T,fl,rfl,I,o,q⟩;refine Ft I.ok.frames I hs hf o λh' a I' o'=>?_;obtain ⟨ox,vs,gx,cx,dxe,dtx,tbx,xc⟩:=id o'.rc;unfold cameBackBy;refine um3 (um2 gx dtx tbx ?_);rw [if_neg (show ¬((Value.ref a == Value.none)=true) from by intro z;cases z)]
 rw [hf];exact D3 _ I' o' (.inr rfl) λh'' I'' o''=>⟨pins,σ,H,x,C,dx,some a,_,rfl,I'',o'',q⟩
theorem XE.pass:B4 (CX1 qx X.prog X.w) (X.wish (XE qx X E)) E:=by
 intro pins σ H s e s' I q;obtain ⟨x,C,dx,T,H',rfl,J,hx,nx,nT,ne,hT,r,tb,q⟩:=I.unwish.raised q;exact ⟨pins,σ,H',x,C,dx,some T,.none,rfl,J,⟨hx,ul1 I.sz nx,r,λa e=>by cases e;exact ⟨ne,hT,ul1 I.sz nT,I.unwish.newT nT,tb⟩,.inl rfl⟩,q⟩
end
section
variable {P:Program}{w:World}{K:PySem.W.Frag}{mg:Str->Option Value}{base:Heap}
abbrev cxX (qx:Bool)(P:Program)(w:World)(K:PySem.W.Frag)(mg:Str->Option Value)(base:Heap)(N:List Str)(qual:Str)(scope:Scope)(f:Addr)(cd:Value)(A:Around)(outer:List Env)(s:Shared)(H:Hp)(E:XK):Cx:=
 (Db (CX1 qx P w) P w K mg base N qual scope f cd A outer s H E).wish (XE qx (Db (CX1 qx P w) P w K mg base N qual scope f cd A outer s H E) λ_=>E)
theorem XE.leaves {N:List Str}{qual:Str}{scope:Scope}{f:Addr}{cd:Value}{A:Around}{outer:List Env}{s₀:Shared}{H₀:Hp}{E:XK}{e:Value}{s:Shared}
 (h:XE qx (Db (CX1 qx P w) P w K mg base N qual scope f cd A outer s₀ H₀ E) (λ_=>E) e s):(Db (CX1 qx P w) P w K mg base N qual scope f cd A outer s₀ H₀ E).xe e s:=by
 obtain ⟨pins,σ,H,x,C,dx,T,fl,rfl,I,o,q⟩:=h;refine um3 (Ft I.ok.frames I rfl rfl o λh' a I' o'=>?_);refine D3 none I' o' (.inl rfl) λh'' I'' o''=>?_;obtain ⟨ne,hT,nT,oT,tb⟩:=o''.tb a rfl;exact ⟨x,C,dx,a,H,rfl,I''.os,I''.bare,I''.base,I''.hok,o''.hx,o''.nx,nT,ne,hT,o''.rc,tb,q⟩
theorem Fun.okX {x qual:Str}{st:Stmt}{f:Addr}{fd:FuncData}{N ps:List Str}{k:Nat}{sp:Sp}(F:Fun K x qual st f fd)(S:FnScope N ps (Al st))(len:∀vs H Q E,sp vs H Q E->vs.length=ps.length)
 (hbody:∀(cdv:Value) (A:Around) (outer:List Env) (s:Shared) (H:Hp) (vs:List V) (Q:VK) (E:XK),Room k (A.deeper (envOfC qual (Al st) s.heap.objs.size f cdv))->sp vs H Q E->
   ∃t,PSs (cxX qx P w K mg base N qual (Al st) f cdv A outer s H E) (A8 st) t/\t { nx:=λ_ H'=>Q .non H',rt:=Q } (Cp N vs) H):FnOk P w K mg base (CX1 qx P w) (k + 1) f fd ps sp:=by
 obtain ⟨oc,od,kV,doc,pm,an,cdv,ct,osl,rfl,lk,hcd⟩:=F.ex;refine S6 lk hcd S len λA outer s H vs Q E hr hsp=>?_;obtain ⟨t,h,q⟩:=hbody cdv A outer s H vs Q E hr hsp;exact ⟨t,λpins s1 σ H1 D I hw=>um5 (h pins s1 σ H1 D (I.wish _) hw) (λ_ _ q=>q.unwish) λ_ _ z=>z.leaves,q⟩
theorem FnOk.calm {k:Nat}{f:Addr}{fd:FuncData}{ps:List Str}{sp sp':Sp}(F:FnOk P w K mg base (CX1 qx P w) k f fd ps sp)(h:∀vs H Q E,sp' vs H Q E->sp vs H Q E0):FnOk P w K mg base CX0 k f fd ps sp':=by
 refine ⟨λvs H Q E q=>F.len vs H Q E0 (h _ _ _ _ q),λA outer s H args us vs Q E hr he hb hv hs=>codeAny_mono (F.run A outer s H args us vs Q E0 hr he hb hv (h _ _ _ _ hs)) λr s' q=>?_⟩
 cases r with
 | error e=>obtain ⟨_,_,_,_,_,_,_,_,_,_,_,_,_,_,_,_,_,z⟩:=q;exact z.elim
 | ok fl=>cases fl <;> exact q
end
section
variable {X:Cx}{CX:CXT}{k:Nat}{f:Addr}{fd:FuncData}{ps:List Str}{sp:Sp}{E:St->XK}{x:Str}{p pos:Pos}{e:Expr}{es:List Expr}{t:TA}
def Qf (sp:Sp)(E:St->XK)(t:TA):TE:=λσ H Q=>t σ H λvs H1=>sp vs H1 Q (E σ)
theorem RN (F:FnOk X.prog X.w X.K X.mg X.base CX k f fd ps sp)(hr:Room k X.A)(hg:Gl X x)(hm:X.mg x=some (.ref f))(hk:PySem.W.keepIn X.K (.ref f)=true)(hb:Binds X.K fd ps [])(hx:B4 CX X E)
 (ha:PA X (e :: es) t) (hdb:(x == ("__debug__" : Str))=false:=by decide) (he:starEach (e :: es) X.env=(false,eval e X.env) :: starEach es X.env:=by rfl) (hpl:(backTo pos (starEach es X.env)).any (·.1)=false:=by rfl) :
 PE X (.Call (.Name x p) (e :: es) [] pos) (Qf sp E t):=by
 intro pins s σ H Q I h;refine wpAny_Call_Name_kw (B5 I hg hm ?_ hdb);refine ue5 (h₀:=X.base) I.ok.mod.kin hk (thn (ha pos pins s σ H _ I h) λus s1 z9=>?_) he hpl;obtain ⟨vs,H1,I1,r,q⟩:=z9;refine ⟨I1.kIn,?_⟩;have hl:(us++[]).length=ps.length:=by rw [ui1,<-r.length];exact F.len _ _ _ _ q
 refine wpAny_call (codeAny_mono (F.run X.A X.stack s1 H1 ⟨us,[]⟩ us vs Q (E σ) hr I1.env0 (by have:=hb s1 us I1.kIn hl;rwa [ui1] at this) r q) λr s' hq=>?_)
 cases r with
 | error e=>exact hx pins σ H1 s1 e s' I1 hq
 | ok fl=>
   cases fl with
   | ret u=>exact I1.after hq
   | next=>exact False.elim hq
   | brk=>exact False.elim hq
   | cont=>exact False.elim hq
end
end L2
namespace L2
open PySem PySem.Spec PyProof.Rows PySem.W
variable {qx:Bool}
def PM (qx:Bool)(X:Cx)(e:Expr)(C:Addr)(t:St->Hp->(Addr->Option Addr->Hp->Prop)->Prop):Prop:=
 ∀(pins:List (Addr×Obj)) (s:Shared) (σ:St) (H:Hp) (Q:Addr->Option Addr->Hp->Prop),Inv X pins σ H s->t σ H Q->
  wpAny (model X.prog X.w) X.A (eval e X.env) (λv s1=>∃x dx H1,v = .ref x/\Inv X pins σ H1 s1/\H1 x=some (.ext (F2.XIs qx x C dx))/\X.s₀.heap.objs.size<=x/\XRec true s1.heap x C dx .none/\Q x dx H1) X.xe s
def E6 (qx:Bool)(X:Cx)(E:St->XK):Prop:=∀(pins:List (Addr×Obj)) (σ:St) (H:Hp) (s:Shared) (x C:Addr) (dx:Option Addr),Inv X pins σ H s->XOn qx X pins H s x C dx none .none->E σ (.ref x) dx H->X.xe (.ref x) s
theorem XE.raises {X:Cx}{E:St->XK}:E6 qx (X.wish (XE qx X E)) E:=λpins σ H s x C dx I o q=>⟨pins,σ,H,x,C,dx,none,.none,rfl,I.unwish,⟨o.hx,o.nx,o.rc,o.tb,o.fo⟩,q⟩
theorem Ir {X:Cx}{e:Expr}{C:Addr}{bm:List Value}{t:St->Hp->(Addr->Option Addr->Hp->Prop)->Prop}{E:St->XK}{pos:Pos}(hc:X.calm=true)(c:XCl X.K C bm)(hx:E6 qx X E)(h:PM qx X e C t)
 (ho:evalOpt (some e) X.env=some (eval e X.env):=by rfl):PS X (.Raise (some e) none pos) (λ_ σ H=>t σ H λx dx H1=>E σ (.ref x) dx H1):=by
 intro pins s σ H D I q;rw [arm_exec_Raise,ho];refine um3 (wpAny_standAt ?_);refine Sc (qx:=true) c (I.ok.hd hc) ?_;refine um3 (um5 (h pins s σ H _ I q) (λv s1 z9=>?_) λ_ _ z=>z);obtain ⟨x,dx,H1,e1,I1,hx1,nx,r,q1⟩:=z9;subst e1;refine um3 (wpAny_standAt (um4 ⟨x,dx,rfl,I1.kIn,r,hx pins σ H1 s1 x C dx I1 ⟨hx1,nx,r.to,(λa e=>by cases e),.inl rfl⟩ q1⟩))
theorem NV {K:PySem.W.Frag}{h:Heap}{N:Addr}{m:Str->Option Value}{n:Str}(X:K.In h)(G:h.Ns N m)(e:nsIn K N n=some none):m n=none:=by
 obtain ⟨o,es,ep,ho,hd,_,hf⟩:=G;unfold nsIn at e
 split at e
 ·next c d es' n' sl q=>
  have z:=X _ _ q;rw [ho] at z
  cases z
  cases hd
  split at e
  ·cases e
  ·next he=>rw [<-hf];unfold nsFind findBy;rw [<-ue4,he];rfl
 ·cases e
section
variable {prog:Program}{w:World}{A:Around}{E:Value->Shared->Prop}{h:Heap}{g:Array GenState}{d:Drawn}{t:Nat}{os:OsState}{Q:Value->Shared->Prop}
variable {nm q:Str}{C N:Addr}{bs bm bmB:List Value}{hdct:Bool}{sn:List Str}{sub:List Value}{ab:Bool}{col:Option Bool}{dd:Option Addr}{k0 k1 k2 k3 k5:Option Value}{B newId initId:String}{mN:Str->Option Value}
theorem Pt (F:ExcBaseFacts B newId initId bmB)(T:OwnTail h bmB bm){us:List Value}(hC:h.get? C=some (excClassObj nm q C N bs bm hdct sn sub ab col dd k0 k1 k2 k3 k5 newId))(hn:h.Ns N mN)(hni:mN "__init__" = none)(hus:us.length<=sizeLine)
 (hq:∀h' tp,(∀b o,h.get? b=some o->h'.get? b=some o)->h'.get? (h.objs.size + 1)=some (excObj C tp)->Q (.ref (h.objs.size + 1)) ⟨h',g,d,t,os⟩) :
 wpAny (model prog w) A (call (.ref C) us) Q E ⟨h,g,d,t,os⟩:=by
 have c1:=tc_lookup;have c2:=tc_bind (.ref C);have ty:(⟨h,g,d,t,os⟩:Shared).TypeIs (.ref C) "type":=⟨_,hC,rfl⟩;refine wpAny_call (codeAny_of_tree ?_);show wpAny _ _ (callAny (.ref C) _) _ _ _
 repeat (any_goals (first
  | assumption
  | with_reducible refine wpAny_loadPart_at hC ?_
  | wp_step))
 refine ⟨rfl,codeAny_call_builtin_at (Code.quiet_builtin _ (by decide +kernel)) entry_typeCall (wpAny_check_type_call_sub hC ?_)⟩
 repeat (first
  | with_reducible refine wpAny_loadPart_at hC ?_
  | with_reducible refine wpAny_madeBy_exc hC ?_
  | wp_step)
 refine codeAny_call_builtin_code (Code.quiet_builtin _ F.quiet) (wpAny_check_new_subT F T hC (codeAny_exc_new_subT F T hC ?_ hus))
 change wpAny _ _ _ _ _ (Shared.mk (DB h C us) g d t os)
 have kp:∀b o,h.get? b=some o->(DB h C us).get? b=some o:=λb o e=>ub9 _ (ub9 _ e);have he:(DB h C us).get? (h.objs.size + 1)=some { cls:=.ref C,data:=.fields #[.ref h.objs.size,.none,.none,.none,.bool false,.none] }:=by heap_get
 have n1:(DB h C us).Ns N mN:=hn.keeps kp;have cC:(Value.ref C :: bm).contains (.ref C)=true:=by simp
 unfold isInstance
 repeat (first
  | with_reducible refine wpAny_loadPart_at he ?_
  | (with_reducible refine wpAny_isSubtype_exc (kp _ _ hC) ?_;rw [cC])
  | wp_step)
 show wpAny _ _ (typeLookup (.ref C) _) _ _ _;refine wpAny_typeLookup_tail (kp _ _ hC) n1 (T.keeps kp) F.mroIs F.init.lookup ?_;rw [hni];refine uk8 (um3 (wpAny_of_eq (F.init.bind _) (um3 (wpAny_call (codeAny_call_builtin F.init.plain F.initEntry (wpAny_check_init_subT F (T.keeps kp) (kp _ _ hC) he rfl ?_))))))
 wp_walk
 refine hq _ ((DB h C us).objs.size) (λb o hb=>?_) ?_
 ·rw [uc1 _ _ (ul2 (Nat.lt_succ_of_lt (uk9 hb)))];exact ub9 _ (kp b o hb)
 ·rw [ud0 _ (ub9 _ he) rfl];rfl
end
section
variable {X:Cx}{k:Nat}{f C P:Addr}{fd:FuncData}{a:Str}{ps:List Str}{n:Str}{p pos:Pos}{e:Expr}{es:List Expr}
theorem W5 {t:TA}(M:XMk X.K C P f)(ha:XAt X.K C P a)(F:FnOk X.prog X.w X.K X.mg X.base CX0 k f fd ps (spI X.K P a))(hr:Room (k + 1) X.A)(hb:Binds X.K fd ps [])(hg:Gl X n)(hm:X.mg n=some (.ref C))(hA:PA X [e] t)
 (hdb:(n == ("__debug__" : Str))=false:=by decide) (h1:starEach [e] X.env=[(false,eval e X.env)]:=by rfl) :
 PM qx X (.Call (.Name n p) [e] [] pos) C (λσ H Q=>t σ H λvs H1=>∃v,vs=[v]/\∀x dx,H1 x=none->H1 dx=none->dx≠x->Q x (some dx) (upd (upd H1 dx (.xd [(a,v)])) x (.ext (F2.XIs qx x C (some dx))))):=by
 intro pins s σ H Q I h;refine wpAny_Call_Name_kw (B5 I hg hm ?_ hdb);refine ue5 (h₀:=X.base) I.ok.mod.kin M.kp (thn (hA pos pins s σ H _ I h) λus s1 z9=>?_) h1 rfl;obtain ⟨vs,H1,I1,r,v,ev,q⟩:=z9;refine ⟨I1.kIn,?_⟩;subst ev
 cases r with
 | cons r0 rs=>
   cases rs
   exact P7 M ha F hr hb I1 r0 λs' x dx I' hx hdx ne nx rc=>⟨x,some dx,_,rfl,I',Ak,ul1 I1.sz nx,rc,q x dx hx hdx ne⟩
theorem UB {t:TA}{bm:List Value}{cd:ClassData}(c:XCl X.K C bm)(hk:keepIn X.K (.ref C)=true)(hcd:clsIn X.K C=some cd)(hni:nsIn X.K cd.ns "__init__" = some none)(hg:Gl X n)(hm:X.mg n=some (.ref C))(ha:PA X (e :: es) t)
 (hdb:(n == ("__debug__" : Str))=false:=by decide) (h1:starEach (e :: es) X.env=(false,eval e X.env) :: starEach es X.env:=by rfl) (hpl:(backTo pos (starEach es X.env)).any (·.1)=false:=by rfl) :
 PM qx X (.Call (.Name n p) (e :: es) [] pos) C (λσ H Q=>t σ H λvs H1=>vs.length<=1000/\∀x,H1 x=none->Q x none (upd H1 x (.ext (F2.XIs qx x C none)))):=by
 intro pins s σ H Q I h;refine wpAny_Call_Name_kw (B5 I hg hm ?_ hdb);refine ue5 (h₀:=X.base) I.ok.mod.kin hk (thn (ha pos pins s σ H _ I h) λus s1 z9=>?_) h1 hpl;obtain ⟨vs,H1,I1,r,hl,q⟩:=z9;refine ⟨I1.kIn,?_⟩;obtain ⟨nm,q',N,bs,sn,sub,ab,col,dd,k0,k1,k2,k3,k5,hC,hN⟩:=c.obj I1.kIn;have hni':s1.heap.nsMap N "__init__" = none:=by
  unfold clsIn at hcd
  split at hcd
  ·next l=>
   cases hcd
   have z:=I1.kIn _ _ l;rw [hC] at z
   cases z
   exact NV I1.kIn hN hni
  ·cases hcd
 obtain ⟨hh,g,d,tk,os⟩:=s1;refine Pt ua6 (c.tail I1.kIn) hC hN hni' (by show us.length<=sizeLine;rw [<-r.length];exact ul1 hl (by decide)) λh' tp kp ht=>?_;have xr:XRec true h' (hh.objs.size + 1) C none .none:=⟨_,_,ht,rfl,rfl,rfl,rfl,λ_=>⟨rfl,by show 4 < 6;decide⟩⟩;exact ⟨_,none,_,rfl,I1.laid (h':=h') (t':=tk) kp (um1 _) (GR xr.to.is),Ak,ul1 I1.sz (um1 _),xr,q _ (I1.hok.fresh (um1 _))⟩
end
end L2
namespace L2
open PySem PySem.Spec PyProof.Rows PySem.W
variable {qx:Bool}
abbrev Cx.mark (X:Cx)(x:Addr):Cx:={ X with A:=X.A.mark (some (.ref x)),calm:=false,xe:=λ_ _=>False }
section
variable {X:Cx}{pins:List (Addr×Obj)}{σ:St}{H:Hp}{s:Shared}{D:Ends}
theorem Inv.mark (I:Inv X pins σ H s)(x:Addr):Inv (X.mark x) pins σ H s:=
 ⟨⟨I.ok.mod,I.ok.kind,I.ok.glob,I.ok.blt,I.ok.above,I.ok.inj,I.ok.has,I.ok.cab,(λz=>by cases z),I.ok.frames,I.ok.stk,I.ok.exf,I.ok.bs,I.ok.bsz,I.ok.noex,I.ok.exfs,I.ok.funs,I.ok.frf⟩,I.os,I.bare,I.base,I.loc,I.cell,I.free,I.freeC,I.pin,I.hok,I.len⟩
theorem Inv.unmark {x:Addr}(J:X.Ok)(I:Inv (X.mark x) pins σ H s):Inv X pins σ H s:=⟨J,I.os,I.bare,I.base,I.loc,I.cell,I.free,I.freeC,I.pin,I.hok,I.len⟩
theorem Inv.repin {pn' pins':List (Addr×Obj)}{xe:Value->Shared->Prop}(I:Inv X pins σ H s)(h:∀p∈pn'++pins',p∈X.pn++pins):Inv { X with pn:=pn',xe:=xe } pins' σ H s:=
 ⟨⟨I.ok.mod,I.ok.kind,I.ok.glob,I.ok.blt,I.ok.above,I.ok.inj,I.ok.has,I.ok.cab,I.ok.hd,I.ok.frames,I.ok.stk,I.ok.exf,I.ok.bs,I.ok.bsz,I.ok.noex,I.ok.exfs,I.ok.funs,I.ok.frf⟩,I.os,I.bare,I.base,I.loc,I.cell,I.free,I.freeC,λp hp=>I.pin p (h p hp),I.hok,I.len⟩
theorem SP.unmark {x:Addr}(J:X.Ok){f:Flow}(h:SP (X.mark x) pins D f s):SP X pins D f s:=by
 cases f with
 | next=>obtain ⟨σ',H',I,q⟩:=h;exact ⟨σ',H',I.unmark J,q⟩
 | brk=>obtain ⟨σ',H',I,q⟩:=h;exact ⟨σ',H',I.unmark J,q⟩
 | cont=>obtain ⟨σ',H',I,q⟩:=h;exact ⟨σ',H',I.unmark J,q⟩
 | ret u=>obtain ⟨v,σ',H',I,r,q⟩:=h;exact ⟨v,σ',H',I.unmark J,r,q⟩
theorem Gx {M:Model}{A:Around}{E:Value->Shared->Prop}{i:Nat}{n:Str}{pos:Pos}{Q:Unit->Shared->Prop}(I:Inv X pins σ H s)(hN:X.N.Nodup)(hi:X.N[i]?=some n)(hk:X.env.scope.names.lookup n=some .local)
 (h:∀s',Inv X pins (σ.set i none) H s'->Q () s'):wpAny M A (do bindName X.env n .none;unbindBehindTheSuite X.env n pos) Q E s:=by
 refine um3 (wpAny_bindName (Fy (v:=.non) I hN hi (.inl hk) rfl (λs1 I1=>?_) (.inr hk)));unfold unbindBehindTheSuite;have hiσ:i < σ.length:=by rw [I.len];exact (ua9.mp hi).1
 obtain ⟨m,hn,hl⟩:=id I1.loc;have hcls:(X.env.scope.kind == .class || (X.env.scope.kind == .module && X.env.locals != X.env.globals))=false:=by rw [I.ok.kind];rfl
 obtain ⟨u0,_,lk⟩:=hl i n .non hi (by rw [ub8 hiσ]) (.inl hk);have hv:m n=some u0:=by
  rcases lk with ⟨_,e⟩ | ⟨k,_⟩
  ·exact e
  ·have k:X.env.scope.names.lookup n=some .cell\/X.env.scope.names.lookup n=some .free:=k;rw [hk] at k;rcases k with k | k <;> cases k
 refine wpAny_onRaise (wpAny_unbindName_local hk hn hv hcls λh' u hn' hs=>?_);have cne:=I1.cne;have tracked:HOk X.prog X.w H h':=λb ob e=>by
  refine (I1.hok b ob e).stay (λc w' hc q=>(hs.2 c ?_).trans q) (λ_ q=>q) λ_ _ q=>q;rintro rfl;rcases hc with rfl | hc
  ·rw [I1.free] at e;cases e
  ·rw [I1.free] at hc;cases hc
 have far:∀b o,X.s₀.heap.get? b=some o->b≠X.env.locals:=λb o e=>ul0 (ue1 (uk9 e) I1.ok.above);refine h _ ⟨I1.ok,I1.os,I1.bare,⟨λb o e n hb hx=>?_,λb o e n hb hx=>?_,I1.base.free,λb o e hx=>?_,I1.base.tups,I1.base.frzs,I1.base.tbls⟩,⟨_,hn',λj y v' e1 e2 e3=>?_⟩,λy c e=>?_,I1.free,I1.freeC,λp hp=>?_,tracked,by simpa using I.len⟩
 ·exact (hs.2 b (far b o e)).trans (I1.base.keep b o e n hb hx)
 ·obtain ⟨sl,e1⟩:=I1.base.slot b o e n hb hx;exact ⟨sl,(hs.2 b (far b o e)).trans e1⟩
 ·obtain ⟨o',e1⟩:=I1.base.there b o e hx;exact ⟨o',(hs.2 b (far b o e)).trans e1⟩
 ·by_cases hj:j=i
  ·subst hj;rw [ub8 hiσ] at e2
   cases e2
  ·rw [ud3 (Ne.symm hj)] at e2;obtain ⟨u',r',q⟩:=hl j y v' e1 (by rw [ud3 (Ne.symm hj)];exact e2) e3;refine ⟨u',r',?_⟩;rcases q with ⟨k,e⟩ | ⟨k,c,e,z⟩
   ·refine .inl ⟨k,?_⟩;have:y≠n:=λe=>hj (Gn hN e1 (e ▸ hi));simp [this,e]
   ·exact .inr ⟨k,c,e,z.sameBut hs (cne y c e)⟩
 ·obtain ⟨w',z⟩:=I1.cell y c e;exact ⟨w',z.sameBut hs (cne y c e)⟩
 ·obtain ⟨e,n,ne,nf,d⟩:=I1.pin p hp;exact ⟨(hs.2 p.1 ne).trans e,n,ne,nf,d⟩
end
def PH (qx:Bool)(X:Cx)(hs:List ExceptHandler)(th:Addr->Addr->Option Addr->TS):Prop:=∀(pins:List (Addr×Obj)) (s:Shared) (σ:St) (H:Hp) (x C:Addr) (dx:Option Addr) (T:Addr) (D:Ends),Inv X pins σ H s->XOn qx X pins H s x C dx (some T) .none->th x C dx D σ H->
 wpAny (model X.prog X.w) X.A (handleBy (.ref x) X.env hs) (SP X pins D) X.xe s
noncomputable def Ends.unset (D:Ends)(i:Nat):Ends:={ nx:=λσ H=>D.nx (σ.set i none) H,rt:=D.rt,bk:=λσ H=>D.bk (σ.set i none) H,ct:=λσ H=>D.ct (σ.set i none) H }
section
variable {X:Cx}{n v:Str}{C':Addr}{bm':List Value}{p pos:Pos}{b₀:Stmt}{suite:List Stmt}{rest:List ExceptHandler}{ts:Addr->TS}{tr:Addr->Addr->Option Addr->TS}{i:Nat}
def Z4 (K:PySem.W.Frag)(C':Addr)(i:Nat)(ts:Addr->TS)(tr:Addr->Addr->Option Addr->TS):Addr->Addr->Option Addr->TS:=λx C dx D σ H=>∃bm,XCl K C bm/\
 if (Value.ref C :: bm).contains (.ref C')=true then ts x (D.unset i) (σ.set i (some (.ref x))) H else tr x C dx D σ H
theorem Yw (hg:Gl X n)(hm:X.mg n=some (.ref C'))(c':XCl X.K C' bm')(hN:X.N.Nodup)(hi:X.N[i]?=some v)(hl:X.env.scope.names.lookup v=some .local)(hb:∀x,PSs (X.mark x) (b₀ :: suite) (ts x))(hr:PH qx X rest tr)
 (hdb:(n == ("__debug__" : Str))=false:=by decide):PH qx X (.ExceptHandler (some (.Name n p)) (some v) (b₀ :: suite) pos :: rest) (Z4 X.K C' i ts tr):=by
 intro pins s σ H x C dx T D I o ⟨bm,c,q⟩;have Im:=I.mark x;refine wpAny_handleBy_cons (codeAny_handlers_test (B5 Im hg hm ?_ hdb)) (by intro z;cases z)
 refine Ip c c' I.kIn o.rc ?_
 cases hc:(Value.ref C :: bm).contains (.ref C') with
 | false=>
   rw [hc,if_neg (by decide)] at q;exact hr pins s σ H x C dx T D I o q
 | true=>
   rw [hc,if_pos rfl] at q;refine codeAny_handlers_suite_as ?_;refine D3 none I o (.inl rfl) λh1 I1 o1=>?_;refine Fy (v:=.ref x) I1 hN hi (.inl hl) rfl (λs2 I2=>?_) (.inr hl);refine um5 (hb x pins s2 _ H _ (I2.mark x) q) (λf s3 z=>?_) λ_ _ z=>z.elim;show wpAny _ _ _ _ _ _;have J:=I.ok
   cases f with
   | next=>obtain ⟨σ',H',I',q'⟩:=z;exact Gx (I'.unmark J) hN hi hl λs4 I4=>⟨_,H',I4,q'⟩
   | brk=>obtain ⟨σ',H',I',q'⟩:=z;exact Gx (I'.unmark J) hN hi hl λs4 I4=>⟨_,H',I4,q'⟩
   | cont=>obtain ⟨σ',H',I',q'⟩:=z;exact Gx (I'.unmark J) hN hi hl λs4 I4=>⟨_,H',I4,q'⟩
   | ret u=>obtain ⟨w,σ',H',I',r,q'⟩:=z;exact Gx (I'.unmark J) hN hi hl λs4 I4=>⟨w,_,H',I4,r,q'⟩
def Z5 (K:PySem.W.Frag)(C':Addr)(ts:TS)(tr:Addr->Addr->Option Addr->TS):Addr->Addr->Option Addr->TS:=λx C dx D σ H=>∃bm,XCl K C bm/\
 if (Value.ref C :: bm).contains (.ref C')=true then ts D σ H else tr x C dx D σ H
theorem Yx {ts:TS}(hg:Gl X n)(hm:X.mg n=some (.ref C'))(c':XCl X.K C' bm')(hb:∀x,PSs (X.mark x) (b₀ :: suite) ts)(hr:PH qx X rest tr)
 (hdb:(n == ("__debug__" : Str))=false:=by decide):PH qx X (.ExceptHandler (some (.Name n p)) none (b₀ :: suite) pos :: rest) (Z5 X.K C' ts tr):=by
 intro pins s σ H x C dx T D I o ⟨bm,c,q⟩;have Im:=I.mark x;refine wpAny_handleBy_cons (codeAny_handlers_test (B5 Im hg hm ?_ hdb)) (by intro z;cases z)
 refine Ip c c' I.kIn o.rc ?_
 cases hc:(Value.ref C :: bm).contains (.ref C') with
 | false=>
   rw [hc,if_neg (by decide)] at q;exact hr pins s σ H x C dx T D I o q
 | true=>
   rw [hc,if_pos rfl] at q;refine codeAny_handlers_suite ?_;refine D3 none I o (.inl rfl) λh1 I1 o1=>?_;exact um5 (hb x pins _ _ H _ (I1.mark x) q) (λf s3 z=>z.unmark I.ok) λ_ _ z=>z.elim
theorem W8 {body:List Stmt}{h₀:ExceptHandler}{hs:List ExceptHandler}{tb:(St->XK)->TS}{th:Addr->Addr->Option Addr->TS}(h1:X.stack=X.env :: X.outer)(h2:X.env.frame=some X.env.locals)
 (hb:∀(pn:List (Addr×Obj)) (E:St->XK),PSs { X with pn:=pn,xe:=XE qx { X with pn:=pn } E } body (tb E)) (hh:PH qx X (h₀ :: hs) th) :
 PS X (.Try body (h₀ :: hs) [] [] pos) (λD σ H=>tb (λσ' v dx H'=>∀x C,v = .ref x->H' x=some (.ext (F2.XIs qx x C dx))->(∃h,F2.XIs qx x C dx h)->th x C dx D σ' H') D σ H):=by
 intro pins s σ H D I q;refine wpAny_Try_except ?_;refine um5 (hb (X.pn++pins) _ [] s σ H D (I.repin λp hp=>by simpa using hp) q) (λf s1 z=>?_) λe s1 z=>?_
 ·have back:∀{σ':St} {H':Hp},Inv { X with pn:=X.pn++pins,xe:=XE qx { X with pn:=X.pn++pins } (λσ' v dx H'=>∀x C,v = .ref x->H' x=some (.ext (F2.XIs qx x C dx))->(∃h,F2.XIs qx x C dx h)->th x C dx D σ' H') } [] σ' H' s1->Inv X pins σ' H' s1:=λJ=>J.repin (X:={ X with pn:=X.pn++pins,xe:=_ }) (pn':=X.pn) (pins':=pins) (xe:=X.xe) λp hp=>by simpa using hp
  cases f with
  | next=>obtain ⟨σ',H',J,q'⟩:=z;exact wpAny_execs_nil ⟨σ',H',back J,q'⟩
  | brk=>obtain ⟨σ',H',J,q'⟩:=z;exact ⟨σ',H',back J,q'⟩
  | cont=>obtain ⟨σ',H',J,q'⟩:=z;exact ⟨σ',H',back J,q'⟩
  | ret u=>obtain ⟨w,σ',H',J,r,q'⟩:=z;exact ⟨w,σ',H',back J,r,q'⟩
 ·obtain ⟨pins',σ',H',x,C,dx,T,fl,rfl,J,o,q'⟩:=z;have J1:Inv X pins σ' H' s1:=J.repin (X:={ X with pn:=X.pn++pins }) (pn':=X.pn) (pins':=pins) (xe:=X.xe) λp hp=>by
   simp only [uh7] at hp ⊢;exact .inl hp
  have o1:XOn qx X pins H' s1 x C dx T fl:=⟨o.hx,o.nx,o.rc,λa e=>by
   obtain ⟨z1,z2,z3,⟨y1,y2,y3⟩,z5⟩:=o.tb a e;exact ⟨z1,z2,z3,⟨y1,y2,λp hp=>y3 p (by simp only [uh7] at hp ⊢;exact .inl hp)⟩,z5⟩,o.fo⟩
  refine Ft J1.ok.frames J1 h1 h2 o1 λh' a I' o'=>D3 none I' o' (.inl rfl) λh'' I'' o''=>?_;exact hh pins _ σ' H' x C dx a D I'' o'' (q' x C rfl o.hx ⟨_,o.rc.is⟩)
end
end L2
namespace F2
open PySem L2 PySem.Spec
variable {qx:Bool}
noncomputable def Bb:D->Bool
 | .exc _ _=>true
 | _=>false
def exE (E:XK)(v:V)(H:Hp):Prop:=∀x dx,v = .ref x->E (.ref x) dx H
section
variable (K:PySem.W.Frag)
inductive RX (E:L2.St->XK)(f:M D)(σ:L2.St)(H:Hp)(Q:VK):Prop where
 | mk (Oo:Addr->Prop) (c:Cf) (t:T) (fi:FInv K Oo c t σ H) (r:D) (t':T) (e:f t=some (r,t')) (k:∀v H' c',FInv K Oo c' t' σ H'->Stp Oo c H c' H'->Rep K c' H' v r->if Bb r=true then exE (E σ) v H' else Q v H'):RX E f σ H Q
def μX (E:XK):Cf->Hp->D->(V->Hp->Prop)->Prop:=λc H r rt=>∀v,Rep K c H v r->if Bb r=true then exE E v H else rt v H
inductive RSX (E:L2.St->XK)(f:M Out)(D:Ends)(σ:L2.St)(H:Hp):Prop where
 | mk (Oo:Addr->Prop) (c:Cf) (t:T) (fi:FInv K Oo c t σ H) (o:Out) (t':T) (e:f t=some (o,t')) (k:∀σ' H' c',FInv K Oo c' t' σ' H'->Stp Oo c H c' H'->
 match (generalizing:=false) o with
 | .next=>D.nx σ' H'
 | .brk=>D.bk σ' H'
 | .cont=>D.ct σ' H'
 | .ret r=>∀v,Rep K c' H' v r->if Bb r=true then exE (E σ') v H' else D.rt v H'):RSX E f D σ H
inductive spX (f:Fn)(vs:List V)(H:Hp)(Q:VK)(E:XK):Prop where
 | mk (c:Cf) (ds:List D) (S:List Ob) (si:SInv K c S H) (rs:Reps K c H vs ds) (r:D) (S':List Ob) (e:f ds S=some (r,S')) (k:∀v H' c',SInv K c' S' H'->Stp c.O c H c' H'->(∀b,c'.O b↔c.O b)->Rep K c' H' v r->if Bb r=true then exE E v H' else Q v H'):spX f vs H Q E
end
def Ed (g:Fn):Fn:=λds S=>match g ds S with
 | some (r,S')=>if Bb r=true then none else some (r,S')
 | none=>none
variable {g:Fn}{r:D}
theorem PD {ds:List D}{S S':List Ob}(h:Ed g ds S=some (r,S')):g ds S=some (r,S')/\Bb r=false:=by
 unfold Ed at h
 split at h
 ·next r' S1 e=>
  by_cases hx:Bb r'=true
  ·rw [if_pos hx] at h;cases h
  ·rw [if_neg hx] at h;cases h;exact ⟨e,by simpa using hx⟩
 ·cases h
variable {fa:Addr}{fd:FuncData}
section
variable {P:Program}{w:World}{K:PySem.W.Frag}{mg:Str->Option Value}{base:Heap}
theorem SV {k:Nat}{ps:List Str}(F:FnOk P w K mg base (CX1 qx P w) k fa fd ps (spX K g)):FnOk P w K mg base CX0 k fa fd ps (spF K (Ed g)):=
 F.calm λvs H Q E z9=>by
  obtain ⟨c,ds,S,si,rs,r,S',e,kk⟩:=z9;obtain ⟨e1,e2⟩:=PD e;exact ⟨c,ds,S,si,rs,r,S',e1,λv H' c' a1 a2 a3 a4=>by rw [if_neg (by rw [e2];decide)];exact kk v H' c' a1 a2 a3 a4⟩
theorem MR {x qual:Str}{st:Stmt}{N ps:List Str}{k n m:Nat}{g:M Out}(e1:ps.length=n)(e2:N.length=m)(F:Fun K x qual st fa fd)(S:FnScope N ps (Al st))
 (hb:∀(cdv:Value) (A:Around) (outer:List Env) (s:Shared) (H:Hp) (E:XK),Room k (A.deeper (PyProof.Rows.envOfC qual (Al st) s.heap.objs.size fa cdv))->
   B4 (CX1 qx P w) (cxX qx P w K mg base N qual (Al st) fa cdv A outer s H E) (λ_=>E)->E6 qx (cxX qx P w K mg base N qual (Al st) fa cdv A outer s H E) (λ_=>E)->
   PassesOwn (model P w) (cxX qx P w K mg base N qual (Al st) fa cdv A outer s H E).A (cxX qx P w K mg base N qual (Al st) fa cdv A outer s H E).env (cxX qx P w K mg base N qual (Al st) fa cdv A outer s H E).xe->
   PSs (cxX qx P w K mg base N qual (Al st) fa cdv A outer s H E) (A8 st) (RSg K (μX K E) g)):FnOk P w K mg base (CX1 qx P w) (k + 1) fa fd ps (spX K (fnOf n m g)):=by
 subst e1 e2;have hlen:∀{ds:List D} {S:List Ob} {z:D×List Ob},fnOf ps.length N.length g ds S=some z->ds.length=ps.length:=λ{ds S z} h=>by
  unfold fnOf at h
  split at h
  ·next h1=>exact h1
  ·cases h
 refine F.okX S (λvs H Q E h=>?_) (λcdv A outer s H vs Q E hr h=>?_)
 ·obtain ⟨c,ds,S,si,rs,r,S',e,_⟩:=h;rw [rs.length];exact hlen e
 obtain ⟨c,ds,S0,si,rs,r,S',e,kk⟩:=h;refine ⟨RSg K (μX K E) g,hb cdv A outer s H E hr XE.pass XE.raises (XE.own rfl rfl),?_⟩;have hl:=hlen e;unfold fnOf at e;rw [if_pos hl] at e
 cases eg:g ⟨env0 N.length ds,S0⟩ with
 | none=>rw [eg] at e;cases e
 | some p=>
   obtain ⟨o,t⟩:=p;rw [eg] at e;refine ⟨c.O,c,_,Ge si rs,o,t,eg,λσ' H' c' f' s'=>?_⟩;obtain ⟨si',ext'⟩:=f'.leave;have st':Stp c.O c H ⟨c'.ι,c.O⟩ H':=⟨s'.ext.trans ext',s'.oo⟩
   cases o with
   | next=>cases e;exact kk .non H' _ si' st' (λ_=>Iff.rfl) .non
   | ret d=>cases e;exact λv rv=>kk v H' _ si' st' (λ_=>Iff.rfl) (rv.mono ext')
   | brk=>cases e
   | cont=>cases e
theorem Nb {ps:List Str}{k:Nat}{f:Fn}(e:f=g)(h:FnOk P w K mg base (CX1 qx P w) k fa fd ps (spX K g)):FnOk P w K mg base (CX1 qx P w) k fa fd ps (spX K f):=by rw [e];exact h
end
variable {f:M D}
section
variable {X:Cx}{e a b:Expr}{es:List Expr}{pos:Pos}{E:L2.St->XK}{st:Stmt}
theorem HD {E:XK}{f:M Out}(h:PS X st (RSX X.K (λ_=>E) f)):PS X st (RSg X.K (μX X.K E) f):=A9 h λD σ H z9=>by
 obtain ⟨Oo,c,t,fi,o,t',eq,k⟩:=z9;refine ⟨Oo,c,t,fi,o,t',eq,λσ' H' c' f' s'=>?_⟩;have q:=k σ' H' c' f' s'
 cases o <;> exact q
theorem MY {k:Nat}{ps:List Str}{f:M (List D)}{x:Str}{p:Pos}(F:FnOk X.prog X.w X.K X.mg X.base (CX1 qx X.prog X.w) k fa fd ps (spX X.K g))(hr:Room k X.A)(hg:Gl X x)(hm:X.mg x=some (.ref fa))(hk:PySem.W.keepIn X.K (.ref fa)=true)(hb:Binds X.K fd ps [])
 (hx:B4 (CX1 qx X.prog X.w) X E) (ha:PA X (e :: es) (RA X.K f)) (hdb:(x == ("__debug__" : Str))=false:=by decide) (h1:AV e=false:=by rfl) (h2:A1 es=true:=by rfl) :
 PE X (.Call (.Name x p) (e :: es) [] pos) (RX X.K E (Ai g f)):=
 AD (RN F hr hg hm hk hb hx ha hdb (A3 h1) (AR h2).1) λσ H Q z9=>by
  obtain ⟨Oo,c,t,fi,r,t',eq,kk⟩:=z9;obtain ⟨ds,t1,e1,eq⟩:=Af eq;obtain ⟨S',e2,rfl⟩:=FB eq;refine ⟨Oo,c,t,fi,ds,t1,e1,λvs H1 c1 f1 s1 rvs=>?_⟩;refine ⟨c1,ds,t1.S,f1.s,rvs,r,S',e2,λv H' c' si st ho rv=>?_⟩;obtain ⟨f2,s2⟩:=f1.after si st ho;exact kk v H' c' f2 (s1.trans s2) rv
def nxD (f:M D):M D:=bnd f λd=>if Bb d=true then fail else ret d
theorem L3 {t t':T}(h:nxD f t=some (r,t')):f t=some (r,t')/\Bb r=false:=by
 obtain ⟨d,t1,e1,h⟩:=Af h
 by_cases hx:Bb d=true
 ·rw [if_pos hx] at h;cases h
 ·rw [if_neg hx] at h;cases h;exact ⟨e1,by simpa using hx⟩
theorem Pd {A B:Prop}(h:Bb r=false)(q:if Bb r=true then A else B):B:=by rw [if_neg (by rw [h];decide)] at q;exact q
def Jy (g:M D)(h:D->M D):M D:=bnd g λy=>if Bb y=true then ret y else nxD (h y)
theorem RX.bind {K:PySem.W.Frag}{g:M D}{h:D->M D}{σ:L2.St}{H:Hp}{Q:VK}{Oo:Addr->Prop}{c:Cf}{t t':T}(fi:FInv K Oo c t σ H)(eq:Jy g h t=some (r,t'))
 (k:∀v H' c',FInv K Oo c' t' σ H'->Stp Oo c H c' H'->Rep K c' H' v r->if Bb r=true then exE (E σ) v H' else Q v H') {R:V->Hp->Prop}
 (s:∀y dy t1 H1 c1,FInv K Oo c1 t1 σ H1->Stp Oo c H c1 H1->Rep K c1 H1 y dy->h dy t1=some (r,t')->(∀v H' c',FInv K Oo c' t' σ H'->Stp Oo c1 H1 c' H'->Rep K c' H' v r->Q v H')->R y H1):RX K E g σ H R:=by
 obtain ⟨dy,t1,e1,eq⟩:=Af eq;refine ⟨Oo,c,t,fi,dy,t1,e1,λy H1 c1 f1 s1 ry=>?_⟩
 by_cases hx:Bb dy=true
 ·rw [if_pos hx] at eq ⊢
  cases eq
  have:=k y H1 c1 f1 s1 ry;rw [if_pos hx] at this;exact this
 ·rw [if_neg hx] at eq ⊢;obtain ⟨e2,e3⟩:=L3 eq;exact s y dy t1 H1 c1 f1 s1 ry e2 λv H' c' f' s' rv=>Pd e3 (k v H' c' f' (s1.trans s') rv)
def Hr (f g:M D)(h:D->D->M D):M D:=bnd f λx=>Jy g λy=>h x y
theorem RX.two {K:PySem.W.Frag}{g:M D}{h:D->D->M D}{R:R2}(s:Bn K R h){σ:L2.St}{H:Hp}{Q:VK}(q:RX K E (Hr f g h) σ H Q):tOp R (RE K f) (RX K E g) σ H Q:=by
 obtain ⟨Oo,c,t,fi,r,t',eq,k⟩:=q;obtain ⟨dx,t1,e1,eq⟩:=Af eq;refine ⟨Oo,c,t,fi,dx,t1,e1,λx H1 c1 f1 s1 rx=>?_⟩;exact RX.bind f1 eq (λv H' c' f' s' rv=>k v H' c' f' (s1.trans s') rv) λy dy t2 H2 c2 f2 s2 ry e2 kk=>s f2 (rx.mono s2.ext) ry e2 kk
theorem Ym {op:Operator}{R:R2}{g:M D}{h:D->D->M D}(ho:OpR X (binaryOp op) R)(s:Bn X.K R h)(ha:PE X a (RE X.K f))(hb:PE X b (RX X.K E g)):PE X (.BinOp a op b pos) (RX X.K E (Hr f g h)):=
 AD (NY ho ha hb) λ_ _ _ q=>RX.two s q
def bn (f g:M D)(h:D->D->M D):M D:=Jy f λx=>bnd g λy=>h x y
def a7 (g:Fn)(f:M D):M D:=Jy f λd t=>match g [d] t.S with
 | some (r,S')=>some (r,{ t with S:=S' })
 | none=>none
theorem MW (h:PE X e (RX X.K E f)):PS X (.Return (some e) pos) (RSX X.K E (Am f)):=
 A9 (Ha h) λD σ H z9=>by
  obtain ⟨Oo,c,t,fi,o,t',eq,k⟩:=z9;obtain ⟨d,t1,e1,eq⟩:=Af eq
  cases eq
  exact ⟨Oo,c,t,fi,d,_,e1,λv H1 c1 f1 s1 rv=>k σ H1 c1 f1 s1 v rv⟩
def CT (i:Nat)(f:M D):M Out:=bnd f λd=>if Bb d=true then ret (.ret d) else bnd (Ay i d) λ_=>ret .next
theorem MX {i:Nat}{x:Str}{pos':Pos}(hN:X.N.Nodup)(hi:X.N[i]?=some x)(hx:Loc X.env.scope x)(he:PE X e (RX X.K E f))(hs:swapsWith e (some (.Name x pos')) pos.line X.env=pure false:=by rfl)(hf:X.fn x=true\/X.env.scope.names.lookup x=some .local:=by walk_at "h") :
 PS X (.Assign [.Name x pos'] e pos) (RSX X.K E (CT i f)):=A9 (L6 hN hi hx he hs hf) λD σ H z9=>by
 obtain ⟨Oo,c,t,fi,o,t',eq,k⟩:=z9;obtain ⟨d,t1,e1,eq⟩:=Af eq;refine ⟨Oo,c,t,fi,d,t1,e1,λv H1 c1 f1 s1 rv=>?_⟩
 by_cases hx:Bb d=true
 ·rw [if_pos hx] at eq ⊢
  cases eq
  have:=k σ H1 c1 f1 s1 v rv;rw [if_pos hx] at this;exact this
 ·rw [if_neg hx] at eq ⊢
  cases eq
  exact k _ H1 c1 (f1.set rv) s1
def bj (f:M D):M Out:=bnd f λd=>if Bb d=true then ret (.ret d) else ret .next
def bu (f:M D)(g:D->M Unit):M Out:=bnd f λd=>if Bb d=true then ret (.ret d) else bnd (g d) λ_=>ret .next
theorem Q6 {f:M Out}(h:PS X st (RSX X.K E f)):PSs X [st] (RSX X.K E f):=FW h
end
end F2
namespace L2
open PySem PySem.Spec PyProof.Rows PySem.W PySem.Builtin PySem.Builtin.ObjectAttr
structure XGet (K:PySem.W.Frag)(C:Addr):Prop where
 ga:findIn K (.ref C) "__getattribute__" = some (some (.builtin "BaseException.__getattribute__"))
 gt:findIn K (.ref C) "__getattr__" = some none
 mb:mroIn K C (.type "BaseException")=some true
 mo:mroIn K C (.type "object")=some true
 hd:hasDictIn K C=true
section
variable {prog:Program}{w:World}{A:Around}{E:Value->Shared->Prop}{s:Shared}{K:PySem.W.Frag}{x C:Addr}{ox:Obj}{od:Option Obj}{name:Str}{tk:Tok}{Q:Value->Shared->Prop}{R:Result->Shared->Prop}
theorem OO {fill expr:Bool}(X:K.In s.heap)(I:InstAt s.heap x ox C od)(g:XGet K C)
 (h:codeAny (model prog w) A (.call (.builtin "BaseException.__getattribute__") ⟨[.ref x,.str name tk],[]⟩) (λr s'=>match r with | .ok (.ret v)=>wpAny (model prog w) A (handedOut v) Q E s' | _=>False) s) :
 wpAny (model prog w) A (getAttrBy (.ref x) (.str name tk) fill expr) Q E s:=by
 have L0:=I.type (M:=model prog w);have L1:=looks_findIn (M:=model prog w) X g.ga;have L2:=looks_findIn (M:=model prog w) X g.gt;have ne:(onTheHeap (Value.ref C) && Value.builtin "BaseException.__getattribute__" == Value.builtin "object.__getattribute__")=false:=by
  rw [show (Value.builtin "BaseException.__getattribute__" == Value.builtin "object.__getattribute__")=false from by decide +kernel];rfl
 unfold getAttrBy;refine uk8 (um3 (L0.here (um3 (L1.here ?_))));show wpAny _ _ (if (onTheHeap (Value.ref C) && Value.builtin "BaseException.__getattribute__" == Value.builtin "object.__getattribute__")=true then _ else _) _ _ _;rw [if_neg (by rw [ne];decide)];unfold getAttrByItsOwn hookBefore;rw [if_pos (show onTheHeap (Value.ref C)=true from rfl)];refine um3 (L2.here (um3 (wpAny_attempt (uk8 ?_))));unfold callGetattribute;rw [if_neg (show ¬((expr && onTheHeap (Value.builtin "BaseException.__getattribute__"))=true) from by cases expr <;> decide)];unfold boundAndCalled;refine um3 (wpAny_of_eq (PySem.F.excAttr_ValueError.ga.bind _) (wpAny_call (codeAny_mono h λr s' z=>?_)))
 cases r with
 | error e=>exact z.elim
 | ok f=>cases f <;> first | exact z | exact z.elim
theorem Q7 (X:K.In s.heap)(I:InstAt s.heap x ox C od)(g:XGet K C)
 (h:wpAny (model prog w) A.in1 («object.__getattribute__» ⟨[.ref x,.str name tk],[]⟩) (λfin s'=>match fin with | .done f=>R (.ok f) s' | .again c'=>c'.quiet=true/\codeAny (model prog w) A c' R s') (λe s'=>R (.error e) s') s) :
 codeAny (model prog w) A (.call (.builtin "BaseException.__getattribute__") ⟨[.ref x,.str name tk],[]⟩) R s:=by
 have ob:Looks (model prog w) s.heap (isInstance (.ref x) (.type "BaseException")) true:=I.type.andThen (looks_mroIn X g.mb);refine codeAny_call_builtin PySem.F.excAttr_ValueError.ga.plain PySem.F.entry_bexc_ga (@check_slot (model prog w) _ _ s "BaseException.__getattribute__" "BaseException" "__getattribute__" (.ref x) [.str name tk] [] _ (by decide +kernel) (by decide +kernel) ob (PySem.F.args_bexc_ga (.ref x) (.str name tk)) h)
theorem Q8 {v:Value}(X:K.In s.heap)(I:InstAt s.heap x ox C od)(g:XGet K C)(hf:findObj K C od name=some (.value v))(h:R (.ok (.ret v)) s) :
 codeAny (model prog w) A (.call (.builtin "BaseException.__getattribute__") ⟨[.ref x,.str name tk],[]⟩) R s:=by
 refine Q7 X I g ?_;have L0:=I.type (M:=model prog w);have L1:=looks_find (M:=model prog w) X I hf;refine um3 (um4 (um3 (um4 (um3 (L0.here (um3 (L1.here ?_)))))));exact um4 h
end
end L2
namespace L2
open PySem PySem.Spec PyProof.Rows PySem.W
end L2
namespace F2
open PySem L2 PySem.Spec PySem.W
variable {qx:Bool}
abbrev Be:List Str:=["Short", "Broken", "NoTalk"]
structure XM (K:PySem.W.Frag)(mg:Str->Option Value)(P:Addr)(ca:Str->Addr):Prop where
 pm:mg "ParleyError" = some (.ref P)
 pc:XCl K P VE
 ns:∀n∈Be,nsIn K mainGlobals n=some (some (.ref (ca n)))
 ms:∀n∈Be,mg n=some (.ref (ca n))
 cl:∀n∈Be,XCl K (ca n) (.ref P :: VE)
 inj:∀n∈Be,∀m∈Be,ca n=ca m->n=m
 np:∀n∈Be,ca n≠P
 kp:∀n∈Be,keepIn K (.ref (ca n))=true
 gt:∀n∈Be,XGet K (ca n)
 gc:∀n∈Be,findIn K (.ref (ca n)) "__class__" = some (some (.builtin "object.__class__"))
 na:∀n∈Be,findIn K (.ref (ca n)) "at" = some none
 nd:∀n∈Be,findIn K (.ref (ca n)) "side" = some none
noncomputable def Ef (n m:Str):Bool:=m == "ParleyError" || m == "ValueError" || n == m
theorem GN {a b:Addr}{r:List Value}:(Value.ref a :: r).contains (.ref b)=(a == b || r.contains (.ref b)):=by
 rw [List.contains_cons]
 congr 1
 by_cases h:a=b
 ·subst h;simp
 ·rw [beq_eq_false_iff_ne.mpr h,beq_eq_false_iff_ne.mpr (λz:Value.ref b=Value.ref a=>h (Value.ref.inj z).symm)]
theorem VB {b:Addr}:VE.contains (.ref b)=false:=rfl
section
variable {K:PySem.W.Frag}{mg:Str->Option Value}{P:Addr}{ca:Str->Addr}
theorem XM.subE (x:XM K mg P ca){n m:Str}(hn:n∈Be)(hm:m∈Be):(Value.ref (ca n) :: .ref P :: VE).contains (.ref (ca m))=Ef n m:=by
 rw [GN,GN,VB,beq_eq_false_iff_ne.mpr (Ne.symm (x.np m hm)),uk0,uk0];have h1:(m == ("ParleyError" : Str))=false/\(m == ("ValueError" : Str))=false:=by
  simp only [Be,uj8,uh3,or_false] at hm;rcases hm with rfl | rfl | rfl <;> exact ⟨by decide,by decide⟩
 unfold Ef;rw [h1.1,h1.2,uk3,uk3]
 by_cases h:n=m
 ·subst h;rw [uh5,uh5]
 ·rw [beq_eq_false_iff_ne.mpr h,beq_eq_false_iff_ne.mpr λz=>h (x.inj n hn m hm z)]
theorem XM.of (x:XM K mg P ca){n:Str}{C:Addr}(hn:n∈Be)(h:nsIn K mainGlobals n=some (some (.ref C))):C=ca n:=by
 rw [x.ns n hn] at h;injection h with h;injection h with h;injection h with h
 exact h.symm
end
theorem Vt {q1 q2:Bool}{x C C':Addr}{dx dx':Option Addr}(h:XIs q1 x C dx=XIs q2 x C' dx')(e:∃h,XIs q1 x C dx h):C=C'/\dx=dx':=by
 obtain ⟨hh,o,vs,e1,e2,e3,e4⟩:=e;have q:XIs q2 x C' dx' hh:=by rw [<-h];exact ⟨o,vs,e1,e2,e3,e4⟩
 obtain ⟨o',vs',q1,q2,q3,q4⟩:=q;rw [e1] at q1;cases q1
 rw [e2] at q2;cases q2
 exact ⟨rfl,e3.symm.trans q3⟩
section
variable {X:Cx}{e:Expr}{es:List Expr}{pos p pos2:Pos}{E:L2.St->XK}{P:Addr}{ca:Str->Addr}
def XN1 (prog:Program)(w:World)(K:PySem.W.Frag)(mg:Str->Option Value)(base:Heap)(C P:Addr):Prop:=
 ∃(f:Addr) (fd:FuncData) (ps:List Str),XMk K C P f/\XAt K C P "at"/\Binds K fd ps []/\FnOk prog w K mg base CX0 1 f fd ps (spI K P "at")
def Hc (n:Str)(f:M (List D)):M Out:=bnd f λds=>match ds with
 | [d]=>ret (.ret (.exc n [d]))
 | _=>fail
theorem O5 {f:M (List D)}(x:XM X.K X.mg P ca)(xn:XN1 X.prog X.w X.K X.mg X.base (ca "NoTalk") P)(hr:L2.Room 2 X.A)(hc:X.calm=true)(hx:E6 qx X E)(hg:Gl X "NoTalk")(ha:PA X [e] (RA X.K f))
 (h1:AV e=false:=by rfl):PS X (.Raise (some (.Call (.Name "NoTalk" p) [e] [] pos)) none pos2) (RSX X.K E (Hc "NoTalk" f)):=by
 obtain ⟨fa,fd,ps,M,A,B,F⟩:=xn;have hn:("NoTalk" : Str)∈Be:=by decide
 refine A9 (Ir hc M.cl hx (W5 M A F hr B hg (x.ms _ hn) ha (by decide) (A3 h1))) λD σ H z9=>?_;obtain ⟨Oo,c,t,fi,o,t',eq,k⟩:=z9;obtain ⟨ds,t1,e1,eq⟩:=Af eq;refine ⟨Oo,c,t,fi,ds,t1,e1,λvs H1 c1 f1 s1 rvs=>?_⟩
 match ds,rvs,eq with
 | [],_,eq=>cases eq
 | _ :: _ :: _,_,eq=>cases eq
 | [d],.cons (v:=v0) rv .nil,eq=>
   cases eq
   refine ⟨_,rfl,λy dx hy hdx ne=>?_⟩;have f2:=f1.laid (o:=.xd [("at",v0)]) hdx;have hy2:upd H1 dx (.xd [("at",v0)]) y=none:=by rw [Ag (Ne.symm ne)];exact hy
   have f3:=f2.laid (o:=.ext (XIs qx y (ca "NoTalk") (some dx))) hy2;have s3:=s1.trans ((f1.stp_laid (o:=.xd [("at",v0)]) hdx).trans (f2.stp_laid (o:=.ext (XIs qx y (ca "NoTalk") (some dx))) hy2));refine k σ _ c1 f3 s3 (.ref y) (.exc (x.ns _ hn) Ak (f2.s.free hy2) ?_ (.cons (rv.mono ((f1.stp_laid hdx).ext.trans (f2.stp_laid hy2).ext)) .nil)) y (some dx) rfl;exact ⟨by rw [Ag ne,Ak];rfl,f1.s.free hdx⟩
def XN0 (K:PySem.W.Frag)(C:Addr):Prop:=∃cd,clsIn K C=some cd/\nsIn K cd.ns "__init__" = some none
def Hb (n:Str)(f:M (List D)):M Out:=bnd f λds=>if ds.length<=1000 then ret (.ret (.exc n [])) else fail
theorem O3 {n:Str}{f:M (List D)}(x:XM X.K X.mg P ca)(hn:n∈Be)(hf:Ii n=[])(xn:XN0 X.K (ca n))(hc:X.calm=true)(hx:E6 qx X E)(hg:Gl X n)(ha:PA X (e :: es) (RA X.K f))
 (hdb:(n == ("__debug__" : Str))=false:=by decide) (h1:AV e=false:=by rfl) (h2:A1 es=true:=by rfl):PS X (.Raise (some (.Call (.Name n p) (e :: es) [] pos)) none pos2) (RSX X.K E (Hb n f)):=by
 obtain ⟨cd,hcd,hni⟩:=xn;refine A9 (Ir hc (x.cl n hn) hx (UB (x.cl n hn) (x.kp n hn) hcd hni hg (x.ms _ hn) ha hdb (A3 h1) (AR h2).1)) λD σ H z9=>?_;obtain ⟨Oo,c,t,fi,o,t',eq,k⟩:=z9;obtain ⟨ds,t1,e1,eq⟩:=Af eq;refine ⟨Oo,c,t,fi,ds,t1,e1,λvs H1 c1 f1 s1 rvs=>?_⟩
 split at eq
 ·next hl=>
  cases eq
  refine ⟨by rw [rvs.length];exact hl,λy hy=>?_⟩;have f3:=f1.laid (o:=.ext (XIs qx y (ca n) none)) hy;exact k σ _ c1 f3 (s1.trans (f1.stp_laid hy)) (.ref y) (.exc (x.ns _ hn) Ak (f1.s.free hy) (vs:=[]) rfl .nil) y none rfl
 ·cases eq
end
section
variable {X:Cx}{pos p:Pos}{P:Addr}{ca:Str->Addr}{μ:Cf->Hp->D->(V->Hp->Prop)->Prop}
inductive RH (K:PySem.W.Frag)(ca:Str->Addr)(μ:Cf->Hp->D->(V->Hp->Prop)->Prop)(h:D->M Out)(x C:Addr)(dx:Option Addr)(E:Ends)(σ:L2.St)(H:Hp):Prop where
 | mk (Oo:Addr->Prop) (c:Cf) (t:T) (n:Str) (ds:List D) (fi:FInv K Oo c t σ H) (hn:n∈Be) (hC:C=ca n) (rp:Rep K c H (.ref x) (.exc n ds)) (o:Out) (t':T) (e:h (.exc n ds) t=some (o,t')) (k:∀σ' H' c',FInv K Oo c' t' σ' H'->Stp Oo c H c' H'->
   match (generalizing:=false) o with
   | .next=>E.nx σ' H'
   | .brk=>E.bk σ' H'
   | .cont=>E.ct σ' H'
   | .ret r=>μ c' H' r E.rt):RH K ca μ h x C dx E σ H
noncomputable def unE (i:Nat)(t:T):T:={ t with env:=t.env.set i none }
theorem FInv.unset {K:PySem.W.Frag}{Oo:Addr->Prop}{c:Cf}{t:T}{σ:L2.St}{H:Hp}(f:FInv K Oo c t σ H)(i:Nat):FInv K Oo c (unE i t) (σ.set i none) H:=by
 have neq:∀{j:Nat} {x:Sl},(t.env.set i none)[j]?=some (some x)->j≠i/\t.env[j]?=some (some x):=λ{j x} q=>by
  by_cases h:j=i
  ·subst h;rw [uf8] at q
   split at q
   ·split at q
    ·injection q with q;cases q
    ·cases q
   ·next h1=>exact absurd rfl h1
  ·rw [ud3 (Ne.symm h)] at q;exact ⟨h,q⟩
 refine ⟨f.s,by simp [unE,f.len],f.sub,λj e q=>?_,λj ds q=>?_,λj k ds es a q1 q2 q3 q4=>?_⟩
 ·obtain ⟨h,q⟩:=neq q;obtain ⟨u,h1,h2⟩:=f.val j e q;exact ⟨u,by rw [ud3 (Ne.symm h)];exact h1,h2⟩
 ·obtain ⟨h,q⟩:=neq q;obtain ⟨a,vs,h1,h2⟩:=f.own j ds q;exact ⟨a,vs,by rw [ud3 (Ne.symm h)];exact h1,h2⟩
 ·obtain ⟨h,q1⟩:=neq q1;obtain ⟨h',q2⟩:=neq q2;rw [ud3 (Ne.symm h)] at q3;rw [ud3 (Ne.symm h')] at q4;exact f.inj j k ds es a q1 q2 q3 q4
def hAs (n':Str)(i:Nat)(s:M Out)(r:D->M Out):D->M Out:=λe t=>match e with
 | .exc n ds=>if Ef n n'=true then (match s { t with env:=t.env.set i (some (.val (.exc n ds))) } with
   | some (o,t2)=>some (o,unE i t2)
   | none=>none) else r (.exc n ds) t
 | _=>none
def hNo (n':Str)(s:M Out)(r:D->M Out):D->M Out:=λe t=>match e with
 | .exc n ds=>if Ef n n'=true then s t else r (.exc n ds) t
 | _=>none
noncomputable def Rb:D->M Out:=λ_ _=>none
theorem V9:PH qx X [] (RH X.K ca μ Rb):=by
 rintro _ _ _ _ _ _ _ _ _ _ _ ⟨_,_,_,_,_,_,_,_,_,_,_,e,_⟩
 cases e
theorem Yf {n' v:Str}{C':Addr}{bm':List Value}{i:Nat}{b₀:Stmt}{suite:List Stmt}{rest:List ExceptHandler}{s:M Out}{r:D->M Out}(x:XM X.K X.mg P ca)(hg:Gl X n')(hm:X.mg n'=some (.ref C'))(c':XCl X.K C' bm')(hs:∀n∈Be,(Value.ref (ca n) :: .ref P :: VE).contains (.ref C')=Ef n n')
 (hN:X.N.Nodup) (hi:X.N[i]?=some v) (hl:X.env.scope.names.lookup v=some .local) (hb:∀x,PSs (X.mark x) (b₀ :: suite) (RSg X.K μ s)) (hr:PH qx X rest (RH X.K ca μ r)) (hdb:(n' == ("__debug__" : Str))=false:=by decide) :
 PH qx X (.ExceptHandler (some (.Name n' p)) (some v) (b₀ :: suite) pos :: rest) (RH X.K ca μ (hAs n' i s r)):=by
 intro pins s0 σ H y C dx T D I o q;refine Yw hg hm c' hN hi hl hb hr hdb pins s0 σ H y C dx T D I o ?_;obtain ⟨Oo,c,t,n,ds,fi,hn,rfl,rv,o1,t',eq,k⟩:=q;refine ⟨_,x.cl n hn,?_⟩;rw [hs n hn];unfold hAs at eq;dsimp only at eq
 by_cases hb':Ef n n'=true
 ·rw [if_pos hb'] at eq ⊢
  cases e1:s { t with env:=t.env.set i (some (.val (.exc n ds))) } with
  | none=>rw [e1] at eq;cases eq
  | some z=>
    obtain ⟨o2,t2⟩:=z;rw [e1] at eq
    cases eq
    refine ⟨Oo,c,_,fi.set rv,o1,t2,e1,λσ' H' c2 f2 s2=>?_⟩;have:=k _ H' c2 (f2.unset i) s2
    cases o1 <;> exact this
 ·rw [if_neg hb'] at eq ⊢;exact ⟨Oo,c,t,n,ds,fi,hn,rfl,rv,o1,t',eq,k⟩
theorem Yg {n':Str}{C':Addr}{bm':List Value}{b₀:Stmt}{suite:List Stmt}{rest:List ExceptHandler}{s:M Out}{r:D->M Out}(x:XM X.K X.mg P ca)(hg:Gl X n')(hm:X.mg n'=some (.ref C'))(c':XCl X.K C' bm')(hs:∀n∈Be,(Value.ref (ca n) :: .ref P :: VE).contains (.ref C')=Ef n n')
 (hb:∀x,PSs (X.mark x) (b₀ :: suite) (RSg X.K μ s)) (hr:PH qx X rest (RH X.K ca μ r)) (hdb:(n' == ("__debug__" : Str))=false:=by decide) :
 PH qx X (.ExceptHandler (some (.Name n' p)) none (b₀ :: suite) pos :: rest) (RH X.K ca μ (hNo n' s r)):=by
 intro pins s0 σ H y C dx T D I o q;refine Yx hg hm c' hb hr hdb pins s0 σ H y C dx T D I o ?_;obtain ⟨Oo,c,t,n,ds,fi,hn,rfl,rv,o1,t',eq,k⟩:=q;refine ⟨_,x.cl n hn,?_⟩;rw [hs n hn];unfold hNo at eq;dsimp only at eq
 by_cases hb':Ef n n'=true
 ·rw [if_pos hb'] at eq ⊢;exact ⟨Oo,c,t,fi,o1,t',eq,λσ' H' c2 f2 s2=>by
   have:=k _ H' c2 f2 s2
   cases o1 <;> exact this⟩
 ·rw [if_neg hb'] at eq ⊢;exact ⟨Oo,c,t,n,ds,fi,hn,rfl,rv,o1,t',eq,k⟩
noncomputable def Ey (b:M Out)(h:D->M Out):M Out:=λt=>match b t with
 | some (.ret (.exc n ds),t1)=>if n∈Be then h (.exc n ds) t1 else none
 | z=>z
theorem O8 {body:List Stmt}{h₀:ExceptHandler}{hs:List ExceptHandler}{b:M Out}{h:D->M Out}(x:XM X.K X.mg P ca)(hμ:∀c H r rt,Bb r=false->(∀v,Rep X.K c H v r->rt v H)=μ c H r rt)(h1:X.stack=X.env :: X.outer)(h2:X.env.frame=some X.env.locals)
 (hb:∀(pn:List (Addr×Obj)) (E:L2.St->XK),B4 (CX1 qx X.prog X.w) { X with pn:=pn,xe:=XE qx { X with pn:=pn } E } E->PSs { X with pn:=pn,xe:=XE qx { X with pn:=pn } E } body (RSX X.K E b)) (hh:PH qx X (h₀ :: hs) (RH X.K ca μ h)):PS X (.Try body (h₀ :: hs) [] [] pos) (RSg X.K μ (Ey b h)):=
 A9 (W8 h1 h2 (λpn E=>hb pn E (XE.pass (X:={ X with pn:=pn }))) hh) λD σ H z9=>by
  obtain ⟨Oo,c,t,fi,o,t',eq,k⟩:=z9;unfold Ey at eq
  cases e1:b t with
  | none=>rw [e1] at eq;cases eq
  | some z=>
    obtain ⟨o1,t1⟩:=z;rw [e1] at eq;refine ⟨Oo,c,t,fi,o1,t1,e1,λσ1 H1 c1 f1 s1=>?_⟩
    cases o1 with
    | next=>cases eq;exact k σ1 H1 c1 f1 s1
    | brk=>cases eq;exact k σ1 H1 c1 f1 s1
    | cont=>cases eq;exact k σ1 H1 c1 f1 s1
    | ret r=>
      intro v rv
      cases hx:Bb r with
      | false=>
        rw [if_neg (by decide)];have eq':some (Out.ret r,t1)=some (o,t'):=by cases r <;> first | exact eq | cases hx
        cases eq'
        have q:=k σ1 H1 c1 f1 s1;have q:μ c1 H1 r D.rt:=q;rw [<-hμ _ _ _ _ hx] at q;exact q v rv
      | true=>
        rw [if_pos rfl];intro y dx hv y' C hy' hC hex
        cases rv with
        | @exc q0 x0 C0 dx0 n vs ds g hx0 hA fl rs=>
          cases hv
          cases hy'
          dsimp only at eq
          split at eq
          ·next hn=>
           rw [hx0] at hC;injection hC with hC;injection hC with hC
           obtain ⟨e2,e3⟩:=Vt hC.symm hex;have:=x.of hn g;exact ⟨Oo,c1,t1,n,ds,f1,hn,e2.trans this,.exc g hx0 hA fl rs,o,t',eq,λσ' H' c' f' s'=>k σ' H' c' f' (s1.trans s')⟩
          ·cases eq
        | _=>cases hx
end
end F2
namespace F2
open PySem L2 PySem.Spec PySem.W
variable {qx:Bool}
def bx (n:Str):D->M D
 | .exc m _=>if m∈Be then ret (.bl (Ef m n)) else fail
 | .non=>ret (.bl false)
 | .bl _=>ret (.bl false)
 | .int _=>ret (.bl false)
 | .str _=>ret (.bl false)
 | .lst _=>ret (.bl false)
 | .tup _=>ret (.bl false)
 | .dic=>ret (.bl false)
 | _=>fail
section
variable {X:Cx}{P:Addr}{ca:Str->Addr}{a:Expr}{f:M D}{p pos q:Pos}
def H9 (nm:Str):D->M D
 | .exc n ds=>if n∈Be then (match ((Ii n).zip ds).lookup nm with
   | some d=>ret d
   | none=>fail) else fail
 | _=>fail
theorem HV {K:PySem.W.Frag}{c:Cf}{H:Hp}{nm:Str}{d:D}:∀{ns:List Str} {vs:List V} {ds:List D},Reps K c H vs ds->(ns.zip ds).lookup nm=some d->∃v,(ns.zip vs).lookup nm=some v/\Rep K c H v d
 | [],_,_,_,e=>by cases e
 | _ :: _,_,_,.nil,e=>by cases e
 | n :: ns,_,_,.cons (v:=v0) (d:=d0) r rs,e=>by
   by_cases h:nm=n
   ·subst h;simp only [List.zip_cons_cons,List.lookup,uh5,uf9] at e ⊢;subst e;exact ⟨v0,rfl,r⟩
   ·have hb:(nm == n)=false:=beq_eq_false_iff_ne.mpr h;simp only [List.zip_cons_cons,List.lookup,hb] at e ⊢;exact HV rs e
theorem VZ {nm:Str}(x:XM X.K X.mg P ca)(hno:∀n∈Be,findIn X.K (.ref (ca n)) nm=some none)(ha:PE X a (RE X.K f))(hb:attributeBase a nm X.env (eval a X.env)=eval a X.env):PE X (.Attribute a nm pos) (RE X.K (bnd f (H9 nm))):=by
 intro pins s σ H Q I h;obtain ⟨Oo,c0,t,fi,r,t',eq,k⟩:=h;obtain ⟨d,t1,e1,eq⟩:=Af eq;refine MK hb (thn (ha pins s σ H (λv H1=>∃c1,FInv X.K Oo c1 t1 σ H1/\Stp Oo c0 H c1 H1/\Rep X.K c1 H1 v d) I ⟨Oo,c0,t,fi,d,t1,e1,λv H1 c1 f1 s1 rv=>⟨c1,f1,s1,rv⟩⟩) λu s1 z9=>?_);obtain ⟨v,H1,I1,rx,c1,f1,st1,rv⟩:=z9
 cases rv with
 | @exc q0 x0 C0 dx0 m vs ds g hx0 hA fl rs=>
   cases (show u=Value.ref x0 from rx)
   unfold H9 at eq;dsimp only at eq
   split at eq
   ·next hm=>
    have hc:=x.of hm g;subst hc
    cases el:((Ii m).zip ds).lookup nm with
    | none=>rw [el] at eq;cases eq
    | some d'=>
      rw [el] at eq
      cases eq
      obtain ⟨v',l1,r1⟩:=HV rs el
      cases dx0 with
      | none=>
        have fl:vs=[]:=fl;subst fl;simp at l1
      | some dd=>
        have hdd:H1 dd=some (.xd ((Ii m).zip vs)):=fl.1;obtain ⟨o,vs0,q1,q2,q3,q4,_⟩:=(I1.hok x0 _ hx0).1;have nc:notCls o=true:=by unfold notCls;rw [q4]
        obtain ⟨mA,nA,rA⟩:=(show ObjOk X.prog X.w H1 s1.heap dd (.xd ((Ii m).zip vs)) from I1.hok dd _ hdd);obtain ⟨od,ho,hl⟩:=GZ nA;obtain ⟨u',hu,ru⟩:=RelO.some_of (v:=v') (o:=mA nm) (by rw [<-l1];exact rA nm);have IA:InstAt s1.heap x0 o (ca m) (some od):=⟨q1,q2,nc,by rw [q3];exact ho⟩;unfold getAttr;refine um3 (wpAny_mkText ?_);refine OO (s:={ s1 with toks:=s1.toks + 1 }) I1.kIn IA (x.gt m hm) (Q8 I1.kIn IA (x.gt m hm) (findObj_own (x.gt m hm).hd (hno m hm) rfl (by rw [hl,hu])) ?_);exact handed_on (Ks ru) ⟨v',H1,I1.tok _,ru,k v' H1 c1 f1 st1 r1⟩
   ·cases eq
 | _=>cases eq
end
end F2
namespace F2
open PySem L2 PySem.Spec PySem.W
variable {qx:Bool}
def Ou (K:PySem.W.Frag)(P c:Addr):Bool:=K8 K c (.ref P :: VE) && keepIn K (.ref c) && findIn K (.ref c) "__getattribute__" == some (some (.builtin "BaseException.__getattribute__")) && findIn K (.ref c) "__getattr__" == some none && mroIn K c (.type "BaseException") == some true
 && mroIn K c (.type "object") == some true && hasDictIn K c && findIn K (.ref c) "__class__" == some (some (.builtin "object.__class__")) && findIn K (.ref c) "at" == some none && findIn K (.ref c) "side" == some none
structure XOne (K:PySem.W.Frag)(P c:Addr):Prop where
 cl:XCl K c (.ref P :: VE)
 kp:keepIn K (.ref c)=true
 gt:XGet K c
 gc:findIn K (.ref c) "__class__" = some (some (.builtin "object.__class__"))
 na:findIn K (.ref c) "at" = some none
 nd:findIn K (.ref c) "side" = some none
variable {K:PySem.W.Frag}{P:Addr}
theorem Kj {c:Addr}(h:Ou K P c=true):XOne K P c:=by
 unfold Ou at h;simp only [uh0,beq_iff_eq] at h;obtain ⟨⟨⟨⟨⟨⟨⟨⟨⟨h1,h2⟩,h3⟩,h4⟩,h5⟩,h6⟩,h7⟩,h8⟩,h9⟩,h10⟩:=h;exact ⟨.of_in h1,h2,⟨h3,h4,h5,h6,h7⟩,h8,h9,h10⟩
noncomputable def JF (c1 c2 c3:Addr):Str->Addr:=λn=>if n = "Short" then c1 else if n = "Broken" then c2 else c3
theorem Cq {Q:Str->Prop}(h1:Q "Short")(h2:Q "Broken")(h3:Q "NoTalk"):∀n∈Be,Q n:=by
 intro n hn;simp only [Be,uj8,uh3,or_false] at hn;rcases hn with rfl | rfl | rfl <;> assumption
def Ot (K:PySem.W.Frag)(P:Addr)(cs:List Addr):Bool:=K8 K P VE && cs.all (Ou K P)
theorem Zn {h:Heap}{mg:Str->Option Value}{c1 c2 c3:Addr}(X:K.In h)(G:h.Ns mainGlobals mg)(p:nsIn K mainGlobals "ParleyError" = some (some (.ref P)))(a1:nsIn K mainGlobals "Short" = some (some (.ref c1)))(a2:nsIn K mainGlobals "Broken" = some (some (.ref c2)))(a3:nsIn K mainGlobals "NoTalk" = some (some (.ref c3)))(q:Ot K P [c1,c2,c3]=true)(nd:[P,c1,c2,c3].Nodup):XM K mg P (JF c1 c2 c3):=by
 unfold Ot at q;simp only [uk2,List.all_nil,Bool.and_true,uh0] at q;obtain ⟨q0,q1,q2,q3⟩:=q;have o1:=Kj q1;have o2:=Kj q2;have o3:=Kj q3;have inj:∀n∈Be,∀m∈Be,JF c1 c2 c3 n=JF c1 c2 c3 m->n=m:=by
  simp only [ui2,uj8,uh3,or_false,not_or,List.nodup_nil,and_true] at nd;obtain ⟨⟨n1,n2,n3⟩,⟨m12,m13⟩,m23,_⟩:=nd;have h1:JF c1 c2 c3 "Short" = c1:=rfl;have h2:JF c1 c2 c3 "Broken" = c2:=rfl;have h3:JF c1 c2 c3 "NoTalk" = c3:=rfl;refine Cq ?_ ?_ ?_ <;> refine Cq ?_ ?_ ?_ <;> intro e <;> first | rfl | (exfalso;rw [h1] at e) | (exfalso;rw [h2] at e) | (exfalso;rw [h3] at e)
  all_goals (first | rw [h1] at e | rw [h2] at e | rw [h3] at e)
  all_goals (first | contradiction | (have e:=e.symm;contradiction))
 refine ⟨mg_of X G p,.of_in q0,Cq a1 a2 a3,Cq (mg_of X G a1) (mg_of X G a2) (mg_of X G a3),Cq o1.cl o2.cl o3.cl,inj,?_,
  Cq o1.kp o2.kp o3.kp,Cq o1.gt o2.gt o3.gt,Cq o1.gc o2.gc o3.gc,Cq o1.na o2.na o3.na,Cq o1.nd o2.nd o3.nd⟩
 simp only [ui2,uj8,uh3,or_false,not_or] at nd;obtain ⟨⟨n1,n2,n3⟩,_⟩:=nd;exact Cq (Ne.symm n1) (Ne.symm n2) (Ne.symm n3)
noncomputable def AZ (s:Stmt)(k:Nat):Stmt:=match s with
 | .ClassDef _ _ _ body _ _ _ _ _ _ _=>body.getD k (.Pass ⟨0,0,0,0⟩)
 | _=>.Pass ⟨0,0,0,0⟩
noncomputable def FU (K:PySem.W.Frag)(C f:Addr):Bool:=match clsIn K C with
 | some cd=>nsIn K cd.ns "__init__" == some (some (.ref f))
 | none=>false
def XF1 (K:PySem.W.Frag)(C P:Addr)(qual:Str)(st:Stmt):Prop:=∃(f:Addr) (fd:FuncData),XMk K C P f/\XAt K C P "at"/\Binds K fd ["self", "at"] []/\Fun K "__init__" qual st f fd
variable {C:Addr}
theorem X0 {f:Addr}{qual:Str}{st:Stmt}{od an:Option Addr}{sl:Array (Option Value)}{oc kV dc pm cd ct:Value}(o:XOne K P C)(i:FU K C f=true)(hf:isFn K (.ref f)=true)(hs:findIn K (.ref C) "__setattr__" = some (some (.builtin "object.__setattr__")))
 (l:K.lookup f=some ⟨oc,od,.func (PySem.W.fnOf "__init__" qual (Cr st) (A8 st) (Al st) .none kV dc pm an cd ct),sl⟩) (c:codeIn K cd qual=true) (k:keepIn K (.ref f)=true)
 (hb:∀(kV doc pm:Value) (an:Option Addr) (cdv ct:Value) (us:List Value),us.length=2->bindArgs (PySem.W.fnOf "__init__" qual (Cr st) (A8 st) (Al st) .none kV doc pm an cdv ct) ⟨us,[]⟩=pure ((["self", "at"]:List Str).zip us)):XF1 K C P qual st:=by
 refine ⟨f,_,⟨o.cl,?_,hf,o.kp⟩,⟨o.cl,hs,o.na⟩,(EF (st:=st) l c k).binds (ps:=["self", "at"]) hb,EF (st:=st) l c k⟩;unfold FU at i
 split at i
 ·next cd' e=>exact ⟨cd',e,beq_iff_eq.mp i⟩
 ·cases i
theorem Rg {prog:Program}{w:World}{mg:Str->Option Value}{base:Heap}{qual:Str}{st:Stmt}{p1 p2 p3 p4:Pos}(hbd:A8 st=[.Assign [.Attribute (.Name "self" p1) "at" p2] (.Name "at" p3) p4])(S:FnScope ["self", "at"] ["self", "at"] (Al st))
 (s1:(Al st).names.lookup ("self" : Str)=some NameKind.local) (s2:(Al st).names.lookup ("at" : Str)=some NameKind.local) (x:XF1 K C P qual st):XN1 prog w K mg base C P:=by
 obtain ⟨f,fd,M,A,B,F⟩:=x;refine ⟨f,fd,_,M,A,B,F.ok (k:=0) S (λvs H Q E h=>?_) λcdv A' outer s H vs Q E hr h=>?_⟩
 ·obtain ⟨y,C',tp,v,rfl,_⟩:=h;rfl
 ·rw [hbd];refine ⟨_,FW (N3 (P:=P) (Cd (i:=0) rfl (.inl s1) (by decide) (by decide)) (Cd (i:=1) rfl (.inl s2) (by decide) (by decide)) rfl),?_⟩;obtain ⟨y,C',tp,v,rfl,hy,ha,k⟩:=h;exact ⟨v,rfl,.ref y,rfl,y,C',tp,rfl,hy,ha,λdx h1 h2=>k dx h1 h2⟩
noncomputable def LX (K:PySem.W.Frag)(C:Addr):Bool:=match clsIn K C with
 | some cd=>nsIn K cd.ns "__init__" == some none
 | none=>false
theorem X2 (h:LX K C=true):XN0 K C:=by
 unfold LX at h
 split at h
 ·next cd e=>exact ⟨cd,e,beq_iff_eq.mp h⟩
 ·cases h
end F2
namespace F2
open PySem L2 PySem.Spec PySem.W
inductive Kd where
 | pl | fr | ex | er
abbrev okK (k:Kd)(P:Program)(w:World)(K:PySem.W.Frag)(mg:Str->Option Value)(base:Heap)(n:Nat)(fa:Addr)(fd:FuncData)(ps:List Str)(f:Fn):Prop:=match k with
 | .pl=>FnOk P w K mg base CX0 n fa fd ps (spF K f)
 | .fr=>FnOk P w K mg base CX0 n fa fd ps (spFF K f)
 | .ex=>FnOk P w K mg base (CX1 true P w) n fa fd ps (spX K f)
 | .er=>FnOk P w K mg base (CX1 false P w) n fa fd ps (spX K f)
section
variable {X:Cx}{e a b:Expr}{pos:Pos}{f g:M D}
theorem MV {E:XK}(h:PE X e (RE X.K f)):PS X (.Return (some e) pos) (RSg X.K (μX X.K E) (Am (nxD f))):=
 A9 (Ha h) λD σ H z9=>by
  obtain ⟨Oo,c,t,fi,o,t',eq,k⟩:=z9;obtain ⟨d,t1,e1,eq⟩:=Af eq
  cases eq
  obtain ⟨e2,e3⟩:=L3 e1;exact ⟨Oo,c,t,fi,d,_,e2,λv H1 c1 f1 s1 rv=>Pd e3 (k σ H1 c1 f1 s1 v rv)⟩
end
theorem WC {K:PySem.W.Frag}:∀(c:Cf) (H:Hp) (r:D) (rt:V->Hp->Prop),Bb r=false->(∀v,Rep K c H v r->rt v H)=μR K c H r rt:=λ_ _ _ _ _=>rfl
theorem WD {K:PySem.W.Frag}{E:XK}:∀(c:Cf) (H:Hp) (r:D) (rt:V->Hp->Prop),Bb r=false->(∀v,Rep K c H v r->rt v H)=μX K E c H r rt:=λc H r rt h=>by
 unfold μX;rw [h];rfl
variable {qx:Bool}
section
variable {X:Cx}{P:Addr}{ca:Str->Addr}{a:Expr}{es:List Expr}{f:M D}{p pos q:Pos}{i:Nat}{ns:List Str}
end
end F2
namespace F2
open PySem L2 PySem.Spec SeqAt
end F2
namespace L2
open PySem PySem.Spec PyProof.Rows PySem.W PySem.Builtin PySem.Builtin.ObjectAttr
variable {qx:Bool}
section
variable {prog:Program}{w:World}{A:Around}{s:Shared}{K:PySem.W.Frag}{x C P dx:Addr}{ox:Obj}{od:Option Obj}{R:Result->Shared->Prop}{name:Str}{v:Value}{tk:Tok}{cd:ClassData}
theorem RJ (X:K.In s.heap)(I:InstAt s.heap x ox C od)(hc:clsIn K C=some cd)(hmr:cd.mro=FC C P)(ha:findIn K (.ref C) name=some none)
 (h:wpAny (model prog w) A.in1 (storeInOwnDict (.ref x) (.ref C) (.str name tk) name v false) (λfin s'=>match fin with | .done f=>R (.ok f) s' | .again c'=>c'.quiet=true/\codeAny (model prog w) A c' R s') (λe s'=>R (.error e) s') s) :
 codeAny (model prog w) A (.call (.builtin "object.__setattr__") ⟨[.ref x,.str name tk,v],[]⟩) R s:=by
 have SF:=PySem.F.store_object;have ob:Looks (model prog w) s.heap (isInstance (.ref x) (.type "object")) true:=I.type.andThen (looks_mroIn X (by unfold mroIn;rw [hc,Option.bind_some,hmr];rfl));refine codeAny_call_builtin SF.slot.plain SF.entry (@check_slot (model prog w) _ _ s "object.__setattr__" "object" "__setattr__" (.ref x) [.str name tk,v] [] _ SF.kind SF.split ob (SF.args (.ref x) (.str name tk) v) ?_);have mr:Looks (model prog w) s.heap (mroOf (.ref C)) (FC C P):=by rw [<-hmr];exact (looks_clsIn X hc).andThen .now
 rw [osa_eq,refuse_eq];refine um3 (um3 (I.type.here (um3 (mr.here ?_))));rw [Jh];refine um4 (um3 (I.type.here (um3 ((looks_findIn X ha).here ?_))));exact um3 (um4 h)
theorem Sq {E:Value->Shared->Prop}{Q:Unit->Shared->Prop}{m:Str->Option Value}{a:Str}{oD:Obj}(X:K.In s.heap)(hx:s.heap.get? x=some ox)(hcl:ox.cls = .ref C)(hno:notCls ox=true)(hod:ox.dict=some dx)(hdx:s.heap.get? dx=some oD)(n1:s.heap.Ns1 dx m)(hm:PySem.Within m [a])(hs:findIn K (.ref C) "__setattr__" = some (some (.builtin "object.__setattr__")))(hc:clsIn K C=some cd)(hmr:cd.mro=FC C P)(hd:cd.hasDict=true)(ha:findIn K (.ref C) name=some none)
 (h:∀h',(∀b o,b≠dx->s.heap.get? b=some o->h'.get? b=some o)->h'.Ns1 dx (λy=>if y=name then some v else m y)->Q () { s with heap:=h',toks:=s.toks + 2 }) :
 wpAny (model prog w) A (setAttr (.ref x) name v) Q E s:=by
 have I:InstAt s.heap x ox C (some oD):=⟨hx,hcl,hno,by rw [hod];exact hdx⟩;refine set_plain X I hs (RJ (s:={ s with toks:=s.toks + 1 }) X I hc hmr ha ?_);refine um3 (um4 (um3 (um3 (wpAny_loadPart (s:={ s with toks:=s.toks + 1 }) hx ?_))));rw [hod,hcl];refine um3 (Looks.here (s:={ s with toks:=s.toks + 1 }) (looks_clsIn X hc) ?_);rw [hd,if_neg (by decide)];refine um4 ?_;refine um3 (um4 (um3 ?_));refine wpAny_nsSet1 n1 λh' n2 sb=>?_;obtain ⟨oD,esD,epD,hoD,hdD,hcD⟩:=n2.count (PySem.Within.cons name v hm);refine um3 (wpAny_lookBehind hoD (by rw [hdD];exact pastItsLine_dict (ul1 hcD (by show 2<=_;decide))) ?_);exact um4 (h h' (λb o hb e=>(sb.2 b hb).trans e) n2)
end
def Z0 (K:PySem.W.Frag)(P:Addr)(ta tv:TE)(f1 f:Str):TS:=λD σ H=>tv σ H λy H1=>ta σ H1 λx H2=>∃a C tp dx y1,x = .ref a/\H2 a=some (EI a C tp dx)/\H2 dx=some (.xd [(f1,y1)])/\dx≠a/\XAt K C P f/\D.nx σ (upd H2 dx (.xd [(f1,y1),(f,y)]))
theorem P0 {X:Cx}{P:Addr}{o value:Expr}{ta tv:TE}{f1 f:Str}{pos' pos:Pos}(hf:f1≠f)(ha:PE X o ta)(hv:PE X value tv)(hs:swapsWith value (some (.Attribute o f pos')) pos.line X.env=pure false):PS X (.Assign [.Attribute o f pos'] value pos) (Z0 X.K P ta tv f1 f):=by
 intro pins s σ H D I h;refine plainObj_wpAny_Assign_Attribute (thn (hv pins s σ H _ I h) λu s1 ⟨y,H1,I1,ry,q⟩=>thn (ha pins s1 σ H1 _ I1 q) λov s2 z9=>?_) hs;obtain ⟨x,H2,I2,rx,a,C,tp,dx,y1,ex,ea,ed,ne,c,q2⟩:=z9;subst ex;obtain rfl:ov=Value.ref a:=rx;obtain ⟨cd,c1,c2,c3⟩:=c.cl.cls;have hx:s2.heap.get? a=some { excObj C tp with dict:=some dx }:=(I2.hok a _ ea).1;obtain ⟨m,n1,rm⟩:=(show ObjOk X.prog X.w H2 s2.heap dx (.xd [(f1,y1)]) from I2.hok dx _ ed);obtain ⟨oD,ho,_⟩:=GZ n1;have hw:PySem.Within m [f1]:=λg hg=>by
  by_cases e:g=f1
  ·simp [e]
  ·exfalso;have z:=rm g;have hgb:(g == f1)=false:=beq_eq_false_iff_ne.mpr e;simp only [List.lookup,hgb] at z
   cases hm:m g with
   | none=>exact hg hm
   | some u=>rw [hm] at z;exact z
 refine Sq I2.kIn hx rfl rfl rfl ho n1 hw c.set c1 c2 c3 c.no λh' k n=>?_;have na:∀b u,s2.heap.get? b=some u->H2 b=none->b≠dx:=λb u _ z w'=>by rw [w',ed] at z;cases z
 refine ⟨σ,_,I2.un (h':=h') (t':=s2.toks + 2) ⟨λb u e1 e2 _ _=>k b u (na b u e1 e2) e1,λb u e1 e2 _ _=>⟨u.slots,k b u (na b u e1 e2) e1⟩,λb u e1 e2 _=>?_,λb u e1 _=>?_,λb xs e1=>?_,λb o' u e1=>?_,λb ps e1=>⟨#[],?_⟩⟩ λb u e1=>?_,q2⟩
 ·rw [Ag (na b u e1 e2)];exact e2
 ·by_cases hb:b=dx
  ·subst hb;obtain ⟨od',es,ep,e,_⟩:=n;exact ⟨_,e⟩
  ·exact ⟨_,k b u hb e1⟩
 ·rw [Ag (λz=>by rw [z,ed] at e1;cases e1)];exact e1
 ·rw [Ag (λz=>by rw [z,ed] at e1;cases e1)];exact e1
 ·rw [Ag (λz=>by rw [z,ed] at e1;cases e1),e1];simp
 ·by_cases hb:b=dx
  ·subst hb;rw [Ak] at e1;cases e1
   refine ⟨_,n,λg=>?_⟩
   by_cases hg:g=f
   ·subst hg;have hgb:(g == f1)=false:=beq_eq_false_iff_ne.mpr (Ne.symm hf);simp only [List.lookup,hgb,uh5,if_true];exact ry
   ·have hgb:(g == f)=false:=beq_eq_false_iff_ne.mpr hg;have z:=rm g
    by_cases hg1:g=f1
    ·subst hg1;simp only [List.lookup,uh5] at z;simp only [List.lookup,uh5,if_neg hg];exact z
    ·have hgb1:(g == f1)=false:=beq_eq_false_iff_ne.mpr hg1;simp only [List.lookup,hgb1] at z;simp only [List.lookup,hgb,hgb1,if_neg hg];exact z
  ·rw [Ag hb] at e1;refine (I2.hok b u e1).stay (λz v hz q=>k z v ?_ q) (λz q=>?_) λz xs q=>?_
   ·rcases hz with rfl | hz
    ·exact hb
    ·intro w';rw [w',ed] at hz;cases hz
   ·rw [Ag (λz=>by rw [z,ed] at q;cases q)];exact q
   ·rw [Ag (λz=>by rw [z,ed] at q;cases q)];exact q
def He (K:PySem.W.Frag)(P:Addr)(a b:Str):Sp:=λvs H Q _=>∃x C tp v u,vs=[.ref x,v,u]/\H x=some (exO x C tp)/\XAt K C P a/\XAt K C P b/\∀dx,H dx=none->dx≠x->Q .non (upd (upd H dx (.xd [(a,v),(b,u)])) x (EI x C tp dx))
section
variable {X:Cx}{k:Nat}{f C P:Addr}{fd:FuncData}{pins:List (Addr×Obj)}{σ:St}{H:Hp}{s:Shared}{Q:Value->Shared->Prop}{us:List Value}{vs:List V}{a b:Str}{ps:List Str}{v v2:V}{u u2:Value}
theorem N8 (M:XMk X.K C P f)(ha:XAt X.K C P a)(hab:XAt X.K C P b)(F:FnOk X.prog X.w X.K X.mg X.base CX0 k f fd ps (He X.K P a b))(hr:Room (k + 1) X.A)(hb:Binds X.K fd ps [])(I:Inv X pins σ H s)(r:RelV v u)(rr:RelV v2 u2)
 (h:∀s' x dx,Inv X pins σ (upd (upd H dx (.xd [(a,v),(b,v2)])) x (.ext (F2.XIs qx x C (some dx)))) s'->H x=none->H dx=none->dx≠x->s.heap.objs.size<=x->XRec true s'.heap x C (some dx) .none->Q (.ref x) s'):wpAny (model X.prog X.w) X.A (call (.ref C) [u,u2]) Q X.xe s:=by
 obtain ⟨nm,q,N,bs,sn,sub,ab,col,dd,k0,k1,k2,k3,k5,hC,hN⟩:=M.cl.obj I.kIn;have hni:s.heap.nsMap N "__init__" = some (.ref f):=by
  obtain ⟨cd,c1,c2⟩:=M.init;refine Go I.kIn hN ?_;unfold clsIn at c1
  split at c1
  ·next l=>
   cases c1
   have z:=I.kIn _ _ l;rw [hC] at z
   cases z
   exact c2
  ·cases c1
 have I1:Inv X pins σ (upd H (s.heap.objs.size + 1) (exO (s.heap.objs.size + 1) C s.heap.objs.size)) { s with heap:=DB s.heap C [u,u2] }:=by
  refine I.laid (t':=s.toks) (λb o e=>ub9 _ (ub9 _ e)) (um1 _) (LB ?_);show ((s.heap.push _).push _).get? _=_
  heap_get
 have hx0:=I.hok.fresh (um1 s.heap.objs.size);have r2:Vals [V.ref (s.heap.objs.size + 1),v,v2] [Value.ref (s.heap.objs.size + 1),u,u2]:=.cons rfl (.cons r (.cons rr .nil));have hsp:He X.K P a b [V.ref (s.heap.objs.size + 1),v,v2] (upd H (s.heap.objs.size + 1) (exO (s.heap.objs.size + 1) C s.heap.objs.size))
  (λw' H'=>w' = .non/\∃dx,H dx=none/\dx≠s.heap.objs.size + 1/\H'=upd (upd H dx (.xd [(a,v),(b,v2)])) (s.heap.objs.size + 1) (EI (s.heap.objs.size + 1) C s.heap.objs.size dx)) E0:=by
  refine ⟨_,C,s.heap.objs.size,v,v2,rfl,Ak,ha,hab,λdx h1 h2=>⟨rfl,dx,by rw [Ag h2] at h1;exact h1,h2,?_⟩⟩
  funext b
  by_cases e1:b=s.heap.objs.size + 1
  ·subst e1;rw [Ak,Ak]
  ·by_cases e2:b=dx
   ·subst e2;rw [Ag e1,Ag e1,Ak,Ak]
   ·rw [Ag e1,Ag e1,Ag e2,Ag e2,Ag e1]
 have hl:([Value.ref (s.heap.objs.size + 1),u,u2]++[]).length=ps.length:=by
  have e:=F.len _ _ _ _ hsp;simpa using e
 obtain ⟨hh,g,d,t,os⟩:=s;refine wpAny_call (Io ua6 (M.cl.tail I.kIn) hC hN hni ((bind_fn I.kIn _ (beq_iff_eq.mp M.fn))) (by show 2<=sizeLine;decide) ?_);refine codeAny_mono (F.run _ X.stack _ _ ⟨[Value.ref (hh.objs.size + 1),u,u2],[]⟩ [Value.ref (hh.objs.size + 1),u,u2] _ _ E0 (hr.make C [u,u2] []) (I1.env0.make C [u,u2] []) (by have:=hb _ [Value.ref (hh.objs.size + 1),u,u2] I1.kIn hl;simpa using this) r2 hsp) λr s' hq'=>?_
 cases r with
 | error e=>exact hq'.elim
 | ok fl=>
   cases fl with
   | ret w'=>
     obtain ⟨v',H',I3,rv,rfl,dx,d1,d2,rfl⟩:=I1.after hq';refine ⟨rv,?_⟩;have hx:=(I3.hok (hh.objs.size + 1) _ Ak).1;have hx:s'.heap.get? (hh.objs.size + 1)=some { excObj C hh.objs.size with dict:=some dx }:=hx;have xr:XRec true s'.heap (hh.objs.size + 1) C (some dx) .none:=⟨_,_,hx,rfl,rfl,rfl,rfl,λ_=>⟨rfl,by show 4 < 6;decide⟩⟩;have I4:=I3.write (x:=hh.objs.size + 1) (e:=hh.objs.size + 1) (o:=.ext (F2.XIs qx (hh.objs.size + 1) C (some dx))) (h':=s'.heap) (t':=s'.toks) (by rw [Ak];trivial) (.inl rfl) (λ_ _ _ z=>z) ⟨_,hx⟩ (GR xr.to.is);rw [Kb] at I4;exact h s' (hh.objs.size + 1) dx I4 hx0 d1 d2 (um1 _) xr
   | next=>exact False.elim hq'
   | brk=>exact False.elim hq'
   | cont=>exact False.elim hq'
end
section
variable {X:Cx}{k:Nat}{f C P:Addr}{fd:FuncData}{a b:Str}{ps:List Str}{n:Str}{p pos:Pos}{e e':Expr}
theorem W6 {t:TA}(M:XMk X.K C P f)(ha:XAt X.K C P a)(hab:XAt X.K C P b)(F:FnOk X.prog X.w X.K X.mg X.base CX0 k f fd ps (He X.K P a b))(hr:Room (k + 1) X.A)(hb:Binds X.K fd ps [])(hg:Gl X n)(hm:X.mg n=some (.ref C))(hA:PA X [e,e'] t)
 (hdb:(n == ("__debug__" : Str))=false:=by decide) (h1:starEach [e,e'] X.env=(false,eval e X.env) :: starEach [e'] X.env:=by rfl) (hpl:(backTo pos (starEach [e'] X.env)).any (·.1)=false:=by rfl) :
 PM qx X (.Call (.Name n p) [e,e'] [] pos) C (λσ H Q=>t σ H λvs H1=>∃v u,vs=[v,u]/\∀x dx,H1 x=none->H1 dx=none->dx≠x->Q x (some dx) (upd (upd H1 dx (.xd [(a,v),(b,u)])) x (.ext (F2.XIs qx x C (some dx))))):=by
 intro pins s σ H Q I h;refine wpAny_Call_Name_kw (B5 I hg hm ?_ hdb);refine ue5 (h₀:=X.base) I.ok.mod.kin M.kp (thn (hA pos pins s σ H _ I h) λus s1 z9=>?_) h1 hpl;obtain ⟨vs,H1,I1,r,v,u,ev,q⟩:=z9;refine ⟨I1.kIn,?_⟩;subst ev
 cases r with
 | cons r0 rs=>
   cases rs with
   | cons r1 rs=>
     cases rs
     exact N8 M ha hab F hr hb I1 r0 r1 λs' x dx I' hx hdx ne nx rc=>⟨x,some dx,_,rfl,I',Ak,ul1 I1.sz nx,rc,q x dx hx hdx ne⟩
end
end L2
namespace F2
open PySem L2 PySem.Spec PySem.W
variable {qx:Bool}
section
variable {X:Cx}{e e':Expr}{pos p pos2:Pos}{E:L2.St->XK}{P:Addr}{ca:Str->Addr}
def XN2 (prog:Program)(w:World)(K:PySem.W.Frag)(mg:Str->Option Value)(base:Heap)(C P:Addr):Prop:=
 ∃(f:Addr) (fd:FuncData) (ps:List Str),XMk K C P f/\XAt K C P "at"/\XAt K C P "side"/\Binds K fd ps []/\FnOk prog w K mg base CX0 1 f fd ps (He K P "at" "side")
def Dp (n:Str)(f:M (List D)):M Out:=bnd f λds=>match ds with
 | [d,d']=>ret (.ret (.exc n [d,d']))
 | _=>fail
theorem O4 {f:M (List D)}(x:XM X.K X.mg P ca)(xn:XN2 X.prog X.w X.K X.mg X.base (ca "Broken") P)(hr:L2.Room 2 X.A)(hc:X.calm=true)(hx:E6 qx X E)(hg:Gl X "Broken")(ha:PA X [e,e'] (RA X.K f))
 (h1:AV e=false:=by rfl) (h2:A1 [e']=true:=by rfl):PS X (.Raise (some (.Call (.Name "Broken" p) [e,e'] [] pos)) none pos2) (RSX X.K E (Dp "Broken" f)):=by
 obtain ⟨fa,fd,ps,M,A,A2,B,F⟩:=xn;have hn:("Broken" : Str)∈Be:=by decide
 refine A9 (Ir hc M.cl hx (W6 M A A2 F hr B hg (x.ms _ hn) ha (by decide) (A3 h1) (AR h2).1)) λD σ H z9=>?_;obtain ⟨Oo,c,t,fi,o,t',eq,k⟩:=z9;obtain ⟨ds,t1,e1,eq⟩:=Af eq;refine ⟨Oo,c,t,fi,ds,t1,e1,λvs H1 c1 f1 s1 rvs=>?_⟩;rcases ds with _ | ⟨d,_ | ⟨d',_ | ⟨_,_⟩⟩⟩
 ·cases eq
 ·cases eq
 ·cases rvs with
  | @cons v0 _ _ _ rv r=>
  cases r with
  | @cons v1 _ _ _ rv1 r=>
  cases r
  cases eq
  refine ⟨_,_,rfl,λy dx hy hdx ne=>?_⟩;have f2:=f1.laid (o:=.xd [("at",v0),("side",v1)]) hdx;have hy2:upd H1 dx (.xd [("at",v0),("side",v1)]) y=none:=by rw [Ag (Ne.symm ne)];exact hy
  have f3:=f2.laid (o:=.ext (XIs qx y (ca "Broken") (some dx))) hy2;have ex:=(f1.stp_laid (o:=.xd [("at",v0),("side",v1)]) hdx).ext.trans (f2.stp_laid (o:=.ext (XIs qx y (ca "Broken") (some dx))) hy2).ext;have s3:=s1.trans ((f1.stp_laid (o:=.xd [("at",v0),("side",v1)]) hdx).trans (f2.stp_laid (o:=.ext (XIs qx y (ca "Broken") (some dx))) hy2));refine k σ _ c1 f3 s3 (.ref y) (.exc (x.ns _ hn) Ak (f2.s.free hy2) ?_ (.cons (rv.mono ex) (.cons (rv1.mono ex) .nil))) y (some dx) rfl;exact ⟨by rw [Ag ne,Ak];rfl,f1.s.free hdx⟩
 ·cases eq
end
def XF2 (K:PySem.W.Frag)(C P:Addr)(qual:Str)(st:Stmt):Prop:=∃(f:Addr) (fd:FuncData),XMk K C P f/\XAt K C P "at"/\XAt K C P "side"/\Binds K fd ["self", "at", "side"] []/\Fun K "__init__" qual st f fd
theorem X1 {K:PySem.W.Frag}{C P f:Addr}{qual:Str}{st:Stmt}{od an:Option Addr}{sl:Array (Option Value)}{oc kV dc pm cd ct:Value}(o:XOne K P C)(i:FU K C f=true)(hf:isFn K (.ref f)=true)(hs:findIn K (.ref C) "__setattr__" = some (some (.builtin "object.__setattr__")))
 (l:K.lookup f=some ⟨oc,od,.func (PySem.W.fnOf "__init__" qual (Cr st) (A8 st) (Al st) .none kV dc pm an cd ct),sl⟩) (c:codeIn K cd qual=true) (k:keepIn K (.ref f)=true)
 (hb:∀(kV doc pm:Value) (an:Option Addr) (cdv ct:Value) (us:List Value),us.length=3->bindArgs (PySem.W.fnOf "__init__" qual (Cr st) (A8 st) (Al st) .none kV doc pm an cdv ct) ⟨us,[]⟩=pure ((["self", "at", "side"]:List Str).zip us)):XF2 K C P qual st:=by
 refine ⟨f,_,⟨o.cl,?_,hf,o.kp⟩,⟨o.cl,hs,o.na⟩,⟨o.cl,hs,o.nd⟩,(EF (st:=st) l c k).binds (ps:=["self", "at", "side"]) hb,EF (st:=st) l c k⟩;unfold FU at i
 split at i
 ·next cd' e=>exact ⟨cd',e,beq_iff_eq.mp i⟩
 ·cases i
theorem Rh {prog:Program}{w:World}{K:PySem.W.Frag}{mg:Str->Option Value}{base:Heap}{C P:Addr}{qual:Str}{st:Stmt}{p1 p2 p3 p4 p5 p6 p7 p8:Pos}(hbd:A8 st=[.Assign [.Attribute (.Name "self" p1) "at" p2] (.Name "at" p3) p4,.Assign [.Attribute (.Name "self" p5) "side" p6] (.Name "side" p7) p8])(S:FnScope ["self", "at", "side"] ["self", "at", "side"] (Al st))
 (s1:(Al st).names.lookup ("self" : Str)=some NameKind.local) (s2:(Al st).names.lookup ("at" : Str)=some NameKind.local) (s3:(Al st).names.lookup ("side" : Str)=some NameKind.local) (x:XF2 K C P qual st):XN2 prog w K mg base C P:=by
 obtain ⟨f,fd,M,A,A2,B,F⟩:=x;refine ⟨f,fd,_,M,A,A2,B,F.ok (k:=0) S (λvs H Q E h=>?_) λcdv A' outer s H vs Q E hr h=>?_⟩
 ·obtain ⟨y,C',tp,v,u,rfl,_⟩:=h;rfl
 ·rw [hbd];refine ⟨_,Iu (N3 (P:=P) (Cd (i:=0) rfl (.inl s1) (by decide) (by decide)) (Cd (i:=1) rfl (.inl s2) (by decide) (by decide)) rfl) (FW (P0 (P:=P) (f1:="at") (by decide) (Cd (i:=0) rfl (.inl s1) (by decide) (by decide)) (Cd (i:=2) rfl (.inl s3) (by decide) (by decide)) rfl)),?_⟩;obtain ⟨y,C',tp,v,u,rfl,hy,ha,ha2,k⟩:=h;refine ⟨v,rfl,.ref y,rfl,y,C',tp,rfl,hy,ha,λdx h1 h2=>⟨u,rfl,.ref y,rfl,y,C',tp,dx,v,rfl,Ak,by rw [Ag h2,Ak],h2,ha2,?_⟩⟩;have z:=k dx h1 h2;have e:upd (upd (upd H dx (.xd [("at",v)])) y (EI y C' tp dx)) dx (.xd [("at",v),("side",u)])=upd (upd H dx (.xd [("at",v),("side",u)])) y (EI y C' tp dx):=by
   funext b
   by_cases e1:b=dx
   ·subst e1;rw [Ak,Ag h2,Ak]
   ·by_cases e2:b=y
    ·subst e2;rw [Ag e1,Ak,Ak]
    ·rw [Ag e1,Ag e2,Ag e1,Ag e2,Ag e1]
  rw [e];exact z
end F2
namespace L2
open PySem PySem.Spec PyProof.Rows PySem.W
end L2
namespace F2
open PySem L2 PySem.Spec
section
variable {X:Cx}{a b:Expr}{pos:Pos}
end
end F2
namespace L2
open PySem PySem.Spec PyProof.Rows PySem.W
theorem KL:entryFor table "proto.unchain" = some Builtin.«proto.unchain»:=entryFor_of_tree (by kernel_rfl)
section
variable {prog:Program}{w:World}{A:Around}{E:Value->Shared->Prop}{env:Env}{K:PySem.W.Frag}{C:Addr}{bm:List Value}{s:Shared}
theorem Oi {x y:Addr}{ox:Obj}{vx:Array Value}{Q:Value->Shared->Prop}(gx:s.heap.get? x=some ox)(dx:ox.data = .fields vx)(x2:vx[2]?=some .none)(h:Q .none s) :
 wpAny (model prog w) A (runValue (.builtin "proto.unchain" ⟨[.ref y,.ref x,.ref x,.bool false],[]⟩)) Q E s:=by
 refine runValue_entry KL ?_;unfold Builtin.«proto.unchain»;refine um3 (um2 gx dx x2 ?_);rw [if_pos (by decide)];refine um3 (um4 (um4 ⟨_,rfl,h⟩))
theorem Sd {t c0:Sem Value}{x:Addr}{Q:Flow->Shared->Prop}(c:XCl K C bm)(hh:A.handled=some (.ref x))
 (hc0:∀(s:Shared) (Q:Value->Shared->Prop) (E:Value->Shared->Prop),Q Value.none s->wpAny (model prog w) A c0 Q E s)
 (h:wpAny (model prog w) A t (λv s1=>∃y dy ox vx,v = .ref y/\y≠x/\K.In s1.heap/\XRec true s1.heap y C dy .none/\s1.heap.get? x=some ox/\ox.data = .fields vx/\vx[2]?=some .none/\
   ∀h',XRec false h' y C dy .none->(∀b,b≠y->h'.get? b=s1.heap.get? b)->E v { s1 with heap:=h' }) E s):wpAny (model prog w) A (raiseStmt env (some t) (some c0)) Q E s:=by
 unfold raiseStmt;refine um3 (um5 h (λv s1 q=>?_) λ_ _ z=>z);obtain ⟨y,dy,ox,vx,rfl,ne,X,⟨o,vs,hx,hc,hd,hdt,h1,h2⟩,gx,dx,x2,hE⟩:=q;obtain ⟨h2,h4⟩:=h2 rfl;obtain ⟨nm,q,N,bs,sn,sub,ab,col,dd,k0,k1,k2,k3,k5,hC,_⟩:=c.obj X;have hb:=c.has X;obtain ⟨hp,g,d,tk,os⟩:=s1;refine um3 (uk8 (hc0 _ _ _ (um3 (um4 ?_))))
 repeat (first
  | (with_reducible refine wpAny_loadPart_at hx ?_;rw [hc])
  | with_reducible refine wpAny_loadPart_at hC ?_
  | (with_reducible refine wpAny_isSubtype_exc hC ?_;rw [hb])
  | with_reducible refine um2 hx hdt h1 ?_
  | wp_step)
 have nC:C≠y:=by
  rintro rfl;rw [hC] at hx
  cases hx
  cases hdt
 rw [hdt];show wpAny _ _ (if 3 < vs.size then _ else _) _ _ _;rw [if_pos (Nat.lt_of_succ_lt h4)];refine wpAny_update hx ?_;obtain ⟨m1,m2,m3⟩:=Fr hdt (·.setIfInBounds 3 Value.none);have hx1:=ud0 (Obj.mapFields (·.setIfInBounds 3 Value.none)) hx (Obj.isFreed_of_fields m1);refine um3 (wpAny_setField hx1 m1 (by rw [ub4];exact h4) ?_);obtain ⟨n1,n2,n3⟩:=Fr m1 (·.setIfInBounds 4 (Value.bool true));have hx2:=ud0 (Obj.mapFields (·.setIfInBounds 4 (Value.bool true))) hx1 (Obj.isFreed_of_fields n1);have oth:∀b,b≠y->((hp.update y (Obj.mapFields (·.setIfInBounds 3 Value.none))).update y (Obj.mapFields (·.setIfInBounds 4 (Value.bool true)))).get? b=hp.get? b:=λb z=>by
  rw [uc1 _ _ (Ne.symm z),uc1 _ _ (Ne.symm z)]
 have hC2:=(oth C nC).trans hC;have gx2:=(oth x (Ne.symm ne)).trans gx;have hc2:=n2.trans (m2.trans hc);have hd2:=n3.trans (m3.trans hd);have t1:((vs.setIfInBounds 3 Value.none).setIfInBounds 4 (Value.bool true))[1]?=some .none:=by
  rw [ua1 (by decide),ua1 (by decide)];exact h1
 have t4:2 < ((vs.setIfInBounds 3 Value.none).setIfInBounds 4 (Value.bool true)).size:=by
  rw [ub4,ub4];lia
 show wpAny (model prog w) A _ Q E ⟨(hp.update y (Obj.mapFields (·.setIfInBounds 3 Value.none))).update y (Obj.mapFields (·.setIfInBounds 4 (Value.bool true))),g,d,tk,os⟩;generalize (hp.update y (Obj.mapFields (·.setIfInBounds 3 Value.none))).update y (Obj.mapFields (·.setIfInBounds 4 (Value.bool true)))=h3 at hx2 oth hC2 gx2;generalize ((o.mapFields (·.setIfInBounds 3 Value.none)).mapFields (·.setIfInBounds 4 (Value.bool true)))=o2 at hx2 hc2 hd2 n1;generalize ((vs.setIfInBounds 3 Value.none).setIfInBounds 4 (Value.bool true))=vs2 at n1 t1 t4;clear hx1 m1 m2 m3 n2 n3
 repeat (first
  | (with_reducible refine wpAny_loadPart_at hx2 ?_;rw [hc2])
  | with_reducible refine wpAny_loadPart_at hC2 ?_
  | (with_reducible refine wpAny_isSubtype_exc hC2 ?_;rw [hb])
  | with_reducible refine um2 hx2 n1 t1 ?_
  | wp_step)
 unfold raiseNew;refine um3 (wpAny_handled ?_);rw [hh];dsimp only;rw [if_pos (by simpa using Ne.symm ne)];refine um3 (uk8 (Oi gx2 dx x2 (um3 ?_)));obtain ⟨z1,z2,z3⟩:=Fr n1 (·.setIfInBounds 2 (Value.ref x));refine wpAny_setField hx2 n1 t4 ?_;have hx3:=ud0 (Obj.mapFields (·.setIfInBounds 2 (Value.ref x))) hx2 (Obj.isFreed_of_fields z1);refine wpAny_throw (hE _ ⟨_,_,hx3,z2.trans hc2,z3.trans hd2,z1,?_,λz=>by cases z⟩ λb hb'=>?_)
 ·rw [ua1 (by decide)];exact t1
 ·rw [uc1 _ _ (Ne.symm hb')];exact oth b hb'
end
section
variable {X:Cx}{pins:List (Addr×Obj)}{σ:St}{H:Hp}{s s':Shared}{qx:Bool}{x C:Addr}{dx T:Option Addr}{fl:Value}
theorem XOn.keep (I:Inv X pins σ H s)(o:XOn qx X pins H s x C dx T fl)(k:∀b,b≠X.env.locals->(∀z c,X.env.cells.lookup z=some c->c≠b)->s'.heap.get? b=s.heap.get? b):XOn qx X pins H s' x C dx T fl:=by
 obtain ⟨ox,vs,gx,cx,dxe,dtx,tbx,xc⟩:=id o.rc;have nl:x≠X.env.locals:=λz=>by have:=o.hx;rw [z,I.free] at this;cases this
 have nc:∀z c,X.env.cells.lookup z=some c->c≠x:=λz c e w=>by
  have:=o.hx;rw [<-w,I.freeC z c e] at this
  cases this
 refine ⟨o.hx,o.nx,⟨ox,vs,(k x nl nc).trans gx,cx,dxe,dtx,tbx,xc⟩,λa e=>?_,o.fo⟩;obtain ⟨z1,z2,z3,⟨y1,y2,y3⟩,ot,ts,gT,dT,t3⟩:=o.tb a e;exact ⟨z1,z2,z3,⟨y1,y2,y3⟩,ot,ts,(k a y1 y2).trans gT,dT,t3⟩
theorem Ql {M:Model}{A:Around}{E:Value->Shared->Prop}{i:Nat}{n:Str}{pos:Pos}{Q:Unit->Shared->Prop}(I:Inv X pins σ H s)(hN:X.N.Nodup)(hi:X.N[i]?=some n)(hk:X.env.scope.names.lookup n=some .local)
 (h:∀s',Inv X pins (σ.set i none) H s'->(∀b,b≠X.env.locals->(∀z c,X.env.cells.lookup z=some c->c≠b)->s'.heap.get? b=s.heap.get? b)->Q () s'):wpAny M A (do bindName X.env n .none;unbindBehindTheSuite X.env n pos) Q E s:=by
 refine um3 (wpAny_bindName (KB (v:=.non) I hN hi (.inl hk) rfl (λs1 I1 sb1=>?_) (.inr hk)));obtain ⟨a1,sb1,ha1⟩:=sb1;unfold unbindBehindTheSuite;have hiσ:i < σ.length:=by rw [I.len];exact (ua9.mp hi).1
 obtain ⟨m,hn,hl⟩:=id I1.loc;have hcls:(X.env.scope.kind == .class || (X.env.scope.kind == .module && X.env.locals != X.env.globals))=false:=by rw [I.ok.kind];rfl
 obtain ⟨u0,_,lk⟩:=hl i n .non hi (by rw [ub8 hiσ]) (.inl hk);have hv:m n=some u0:=by
  rcases lk with ⟨_,e⟩ | ⟨k,_⟩
  ·exact e
  ·have k:X.env.scope.names.lookup n=some .cell\/X.env.scope.names.lookup n=some .free:=k;rw [hk] at k;rcases k with k | k <;> cases k
 refine wpAny_onRaise (wpAny_unbindName_local hk hn hv hcls λh' u hn' hs=>?_);have cne:=I1.cne;have tracked:HOk X.prog X.w H h':=λb ob e=>by
  refine (I1.hok b ob e).stay (λc w' hc q=>(hs.2 c ?_).trans q) (λ_ q=>q) λ_ _ q=>q;rintro rfl;rcases hc with rfl | hc
  ·rw [I1.free] at e;cases e
  ·rw [I1.free] at hc;cases hc
 have far:∀b o,X.s₀.heap.get? b=some o->b≠X.env.locals:=λb o e=>ul0 (ue1 (uk9 e) I1.ok.above);refine h _ ⟨I1.ok,I1.os,I1.bare,⟨λb o e n hb hx=>?_,λb o e n hb hx=>?_,I1.base.free,λb o e hx=>?_,I1.base.tups,I1.base.frzs,I1.base.tbls⟩,⟨_,hn',λj y v' e1 e2 e3=>?_⟩,λy c e=>?_,I1.free,I1.freeC,λp hp=>?_,tracked,by simpa using I.len⟩ λb hb hc=>?_
 ·exact (hs.2 b (far b o e)).trans (I1.base.keep b o e n hb hx)
 ·obtain ⟨sl,e1⟩:=I1.base.slot b o e n hb hx;exact ⟨sl,(hs.2 b (far b o e)).trans e1⟩
 ·obtain ⟨o',e1⟩:=I1.base.there b o e hx;exact ⟨o',(hs.2 b (far b o e)).trans e1⟩
 ·by_cases hj:j=i
  ·subst hj;rw [ub8 hiσ] at e2
   cases e2
  ·rw [ud3 (Ne.symm hj)] at e2;obtain ⟨u',r',q⟩:=hl j y v' e1 (by rw [ud3 (Ne.symm hj)];exact e2) e3;refine ⟨u',r',?_⟩;rcases q with ⟨k,e⟩ | ⟨k,c,e,z⟩
   ·refine .inl ⟨k,?_⟩;have:y≠n:=λe=>hj (Gn hN e1 (e ▸ hi));simp [this,e]
   ·exact .inr ⟨k,c,e,z.sameBut hs (cne y c e)⟩
 ·obtain ⟨w',z⟩:=I1.cell y c e;exact ⟨w',z.sameBut hs (cne y c e)⟩
 ·obtain ⟨e,n,ne,nf,d⟩:=I1.pin p hp;exact ⟨(hs.2 p.1 ne).trans e,n,ne,nf,d⟩
 ·rw [hs.2 b hb];refine sb1.2 b ?_;rintro rfl;rcases ha1 with z | z
  ·exact hb z
  ·exact hc _ _ z rfl
end
def Hk (X:Cx)(E:St->XK):Prop:=∀(pins:List (Addr×Obj)) (σ:St) (H:Hp) (s:Shared) (x C:Addr) (dx T:Option Addr) (fl:Value),Inv X pins σ H s->XOn false X pins H s x C dx T fl->E σ (.ref x) dx H->X.xe (.ref x) s
theorem XE.raisesT {X:Cx}{E:St->XK}:Hk (X.wish (XE false X E)) E:=λpins σ H s x C dx T fl I o q=>⟨pins,σ,H,x,C,dx,T,fl,rfl,I.unwish,⟨o.hx,o.nx,o.rc,o.tb,o.fo⟩,q⟩
section
variable {X:Cx}{n v:Str}{C' C2:Addr}{bm' bm2:List Value}{p pos p2:Pos}{e cN:Expr}{rest:List ExceptHandler}{t:St->Hp->(Addr->Option Addr->Hp->Prop)->Prop}{tr:Addr->Addr->Option Addr->TS}{i:Nat}{E:St->XK}
def Z6 (K:PySem.W.Frag)(C':Addr)(i:Nat)(t:St->Hp->(Addr->Option Addr->Hp->Prop)->Prop)(E:St->XK)(tr:Addr->Addr->Option Addr->TS):Addr->Addr->Option Addr->TS:=λx C dx D σ H=>∃bm,XCl K C bm/\
 if (Value.ref C :: bm).contains (.ref C')=true then t (σ.set i (some (.ref x))) H (λy dy H1=>y≠x/\H1 x=some (.ext (F2.XIs true x C dx))/\E ((σ.set i (some (.ref x))).set i none) (.ref y) dy H1) else tr x C dx D σ H
theorem Yy (h1:X.stack=X.env :: X.outer)(h2:X.env.frame=some X.env.locals)(hg:Gl X n)(hm:X.mg n=some (.ref C'))(c':XCl X.K C' bm')(hN:X.N.Nodup)(hi:X.N[i]?=some v)(hl:X.env.scope.names.lookup v=some .local)
 (c2:XCl X.K C2 bm2) (hp:∀x,PM false (X.mark x) e C2 t) (hx:Hk X E)
 (hz:∀(A:Around) (s:Shared) (Q:Value->Shared->Prop) (E:Value->Shared->Prop),Q Value.none s->wpAny (model X.prog X.w) A (eval cN X.env) Q E s)
 (hr:PH true X rest tr) (hdb:(n == ("__debug__" : Str))=false:=by decide):PH true X (.ExceptHandler (some (.Name n p)) (some v) [.Raise (some e) (some cN) p2] pos :: rest) (Z6 X.K C' i t E tr):=by
 intro pins s σ H x C dx T D I o ⟨bm,c,q⟩;have Im:=I.mark x;refine wpAny_handleBy_cons (codeAny_handlers_test (B5 Im hg hm ?_ hdb)) (by intro z;cases z)
 refine Ip c c' I.kIn o.rc ?_
 cases hc:(Value.ref C :: bm).contains (.ref C') with
 | false=>
   rw [hc,if_neg (by decide)] at q;exact hr pins s σ H x C dx T D I o q
 | true=>
   rw [hc,if_pos rfl] at q;refine codeAny_handlers_suite_as ?_;refine D3 none I o (.inl rfl) λh1' I1 o1=>?_;refine Fy (v:=.ref x) I1 hN hi (.inl hl) rfl (λs2 I2=>?_) (.inr hl);refine wpAny_execs_cons ?_;rw [arm_exec_Raise];refine um3 (wpAny_standAt ?_);refine Sd (x:=x) c2 rfl (λs Q E h=>um3 (hz _ _ _ _ (um3 (wpAny_standAt (um4 h))))) ?_;refine um3 (um5 (hp x pins s2 _ H _ (I2.mark x) q) (λw' s3 z9=>?_) λ_ _ z=>z.elim);obtain ⟨y,dy,H1,e1,I3,hy,ny,r,ne,hxx,q1⟩:=z9;subst e1;have J3:=I3.unmark I.ok;obtain ⟨ox,vx,gx,_,_,dtx,xc⟩:=(I3.hok x _ hxx).1;refine um3 (wpAny_standAt (um4 ⟨y,dy,ox,vx,rfl,ne,I3.kIn,r,gx,dtx,(xc rfl).1,λh' r' kp=>?_⟩));obtain ⟨o1',o2',o3'⟩:=J3.newT (ul9 _);have J4:=J3.left hy (J3.hok.fresh (ul9 _)) ny (ul1 J3.sz (ul9 _)) (ch:=[y]) (h':=h') ⟨λb u hb _ e=>(kp b (by simpa using hb)).trans e,λb u hb e=>⟨u.slots,(kp b (by simpa using hb)).trans e⟩⟩ (λb hb=>.inl (by simpa using hb)) r'.is o2' o1' o3';have o4:XOn false X pins H1 { s3 with heap:=h' } y C2 dy none .none:=⟨hy,ny,r',(λa e=>by cases e),.inl rfl⟩;refine Ft I3.ok.frames J4 h1 h2 o4 λh5 a J5 o5=>?_;refine Ql J5 hN hi hl λs6 J6 k6=>?_;have o6:=o5.keep J5 k6;obtain ⟨oy,vy,gy,_,_,dty,tby,_⟩:=id o6.rc;unfold PySem.passOn;refine um3 (um2 gy dty tby ?_);rw [if_neg (show ¬((Value.ref a == Value.none)=true) from by intro z;cases z)]
   rw [h2];refine um3 (D3 (some X.env.locals) J6 o6 (.inr rfl) λh7 J7 o7=>wpAny_throw ?_);refine Ft I3.ok.frames J7 h1 h2 o7 λh8 a8 J8 o8=>?_;obtain ⟨oz,vz,gz,_,_,dtz,tbz,_⟩:=id o8.rc;show cameBackBy _ _ _ _ _ _;unfold cameBackBy;refine um3 (um2 gz dtz tbz ?_);rw [if_neg (show ¬((Value.ref a8 == Value.none)=true) from by intro z;cases z)]
   rw [h2];exact D3 (some X.env.locals) J8 o8 (.inr rfl) λh9 J9 o9=>hx pins _ H1 _ y C2 dy _ _ J9 o9 q1
end
structure FnOkH (P:Program)(w:World)(K:PySem.W.Frag)(mg:Str->Option Value)(base:Heap)(CX:CXT)(k:Nat)(f:Addr)(fd:FuncData)(ps:List Str)(sp:Sp):Prop where
 len:∀vs H Q E,sp vs H Q E->vs.length=ps.length
 run:∀(z:Addr) (A:Around) (outer:List Env) (s:Shared) (H:Hp) (args:Args) (us:List Value) (vs:List V) (Q:VK) (E:XK),Room k A->Env0 P w K mg base A outer s H->BindsTo s fd args (ps.zip us)->Vals vs us->sp vs H Q E->
  codeAny (model P w) (A.mark (some (.ref z))) (.call (.ref f) args) (CR CX outer P w H s Q E) s
theorem Wb {CX:CXT}{P:Program}{w:World}{K:PySem.W.Frag}{mg:Str->Option Value}{base:Heap}{k:Nat}{f:Addr}{name qual:Str}{params:Arguments}{body:List Stmt}{scope:Scope}{dV kV doc pm cdv ct oc:Value}{an od:Option Addr}
 {osl:Array (Option Value)} {N ps:List Str} {sp:Sp} (lk:K.lookup f=some ⟨oc,od,.func (PySem.W.fnOf name qual params body scope dV kV doc pm an cdv ct),osl⟩) (hcd:PySem.W.codeIn K cdv qual=true) (S:FnScope N ps scope)
 (len:∀vs H Q E,sp vs H Q E->vs.length=ps.length)
 (hbody:∀(z:Addr) (A:Around) (outer:List Env) (s:Shared) (H:Hp) (vs:List V) (Q:VK) (E:XK),Room k (A.deeper (envOfC qual scope s.heap.objs.size f cdv))->sp vs H Q E->
   ∃t,PSs ((Db CX P w K mg base N qual scope f cdv A outer s H E).mark z) body t/\t { nx:=λ_ H'=>Q .non H',rt:=Q } (Cp N vs) H) :
 FnOkH P w K mg base CX (k + 1) f (PySem.W.fnOf name qual params body scope dV kV doc pm an cdv ct) ps sp:=by
 refine ⟨len,λz A outer s H args us vs Q E hr e0 hb r hsp=>?_⟩;have hl:=len _ _ _ _ hsp;have KX:K.In s.heap:=e0.mod.kin.keeps λb o e=>(e0.bs b o e).1;have lim:s.heap.NoLimit:=e0.mod.nolimit.keeps λb o e=>(e0.bs b o e).1;have hkind:∀y∈ps.zip us,scope.names.lookup y.1=some .local\/(scope.names.lookup y.1=some .cell/\((cellsFrom (s.heap.objs.size + 1) scope.names []).lookup y.1).isSome=true):=λz9 hy=>by
  obtain ⟨n,v⟩:=z9;rcases S.par n (ui3 hy).1 with q | q
  ·exact .inl q
  ·exact .inr ⟨q,uc0 _ _ _ (.inl q)⟩
 refine codeAny_call_function (A:=A.mark (some (.ref z))) hr.depth (KX _ _ lk) rfl S.co S.gen rfl (PySem.W.codeRec_of KX hcd) (hb _ _ _ _ ?_);refine wpAny_newFunctionEnv_cells S.kind hkind λenv he s1 x=>?_;subst he;refine ⟨lim.keeps x.toInCall.keep,codeAny_func ?_⟩;obtain ⟨t,ht,hq⟩:=hbody z A outer s H vs Q E (hr.deeper _) hsp;have I:Inv (Db CX P w K mg base N qual scope f cdv A outer s H E) [] (Cp N vs) H s1:=Kt S hr.hd e0 hl r x;refine um5 (ht [] s1 (Cp N vs) H _ (I.mark z) hq) (λfl s' hs=>?_) λe s' hs=>hs.elim;have fin:∀{σ':St} {H':Hp} {v:V} {u:Value},Inv ((Db CX P w K mg base N qual scope f cdv A outer s H E).mark z) [] σ' H' s'->RelV v u->Q v H'->CE outer P w H s Q u s':=
  λ{σ' H' v u} J rv q=>⟨v,H',J.os,J.bare,J.base,J.hok,rv,q⟩
 cases fl with
 | ret u=>
   obtain ⟨v,σ',H',J,rv,q⟩:=hs;exact fin J rv q
 | next=>
   obtain ⟨σ',H',J,q⟩:=hs;exact fin (v:=V.non) (u:=Value.none) J rfl q
 | brk=>
   obtain ⟨_,_,_,q⟩:=hs;exact False.elim q
 | cont=>
   obtain ⟨_,_,_,q⟩:=hs;exact False.elim q
theorem Fun.okH {P:Program}{w:World}{K:PySem.W.Frag}{mg:Str->Option Value}{base:Heap}{x qual:Str}{st:Stmt}{f:Addr}{fd:FuncData}{N ps:List Str}{k:Nat}{sp:Sp}(F:Fun K x qual st f fd)(S:FnScope N ps (Al st))(len:∀vs H Q E,sp vs H Q E->vs.length=ps.length)
 (hbody:∀(cdv:Value) (z:Addr) (A:Around) (outer:List Env) (s:Shared) (H:Hp) (vs:List V) (Q:VK) (E:XK),Room k (A.deeper (envOfC qual (Al st) s.heap.objs.size f cdv))->sp vs H Q E->
   ∃t,PSs ((Db CX0 P w K mg base N qual (Al st) f cdv A outer s H E).mark z) (A8 st) t/\t { nx:=λ_ H'=>Q .non H',rt:=Q } (Cp N vs) H):FnOkH P w K mg base CX0 (k + 1) f fd ps sp:=by
 obtain ⟨oc,od,kV,doc,pm,an,cdv,ct,osl,rfl,lk,hcd⟩:=F.ex;exact Wb lk hcd S len λz A outer s H vs Q E hr hsp=>hbody cdv z A outer s H vs Q E hr hsp
section
variable {qx:Bool}{X:Cx}{k:Nat}{f C P:Addr}{fd:FuncData}{pins:List (Addr×Obj)}{σ:St}{H:Hp}{s:Shared}{Q:Value->Shared->Prop}{us:List Value}{vs:List V}{a b:Str}{ps:List Str}{v v2:V}{u u2:Value}{n:Str}{p pos:Pos}{e e':Expr}
theorem MF {z:Addr}(M:XMk X.K C P f)(ha:XAt X.K C P a)(hab:XAt X.K C P b)(F:FnOkH X.prog X.w X.K X.mg X.base CX0 k f fd ps (He X.K P a b))(hr:Room (k + 1) X.A)(hb:Binds X.K fd ps [])(I:Inv (X.mark z) pins σ H s)(r:RelV v u)(rr:RelV v2 u2)
 (h:∀s' x dx,Inv (X.mark z) pins σ (upd (upd H dx (.xd [(a,v),(b,v2)])) x (.ext (F2.XIs qx x C (some dx)))) s'->H x=none->H dx=none->dx≠x->s.heap.objs.size<=x->XRec true s'.heap x C (some dx) .none->Q (.ref x) s'):wpAny (model X.prog X.w) (X.mark z).A (call (.ref C) [u,u2]) Q (X.mark z).xe s:=by
 obtain ⟨nm,q,N,bs,sn,sub,ab,col,dd,k0,k1,k2,k3,k5,hC,hN⟩:=M.cl.obj I.kIn;have hni:s.heap.nsMap N "__init__" = some (.ref f):=by
  obtain ⟨cd,c1,c2⟩:=M.init;refine Go I.kIn hN ?_;unfold clsIn at c1
  split at c1
  ·next l=>
   cases c1
   have z:=I.kIn _ _ l;rw [hC] at z
   cases z
   exact c2
  ·cases c1
 have I1:Inv (X.mark z) pins σ (upd H (s.heap.objs.size + 1) (exO (s.heap.objs.size + 1) C s.heap.objs.size)) { s with heap:=DB s.heap C [u,u2] }:=by
  refine I.laid (t':=s.toks) (λb o e=>ub9 _ (ub9 _ e)) (um1 _) (LB ?_);show ((s.heap.push _).push _).get? _=_
  heap_get
 have hx0:=I.hok.fresh (um1 s.heap.objs.size);have r2:Vals [V.ref (s.heap.objs.size + 1),v,v2] [Value.ref (s.heap.objs.size + 1),u,u2]:=.cons rfl (.cons r (.cons rr .nil));have hsp:He X.K P a b [V.ref (s.heap.objs.size + 1),v,v2] (upd H (s.heap.objs.size + 1) (exO (s.heap.objs.size + 1) C s.heap.objs.size))
  (λw' H'=>w' = .non/\∃dx,H dx=none/\dx≠s.heap.objs.size + 1/\H'=upd (upd H dx (.xd [(a,v),(b,v2)])) (s.heap.objs.size + 1) (EI (s.heap.objs.size + 1) C s.heap.objs.size dx)) E0:=by
  refine ⟨_,C,s.heap.objs.size,v,v2,rfl,Ak,ha,hab,λdx h1 h2=>⟨rfl,dx,by rw [Ag h2] at h1;exact h1,h2,?_⟩⟩
  funext b
  by_cases e1:b=s.heap.objs.size + 1
  ·subst e1;rw [Ak,Ak]
  ·by_cases e2:b=dx
   ·subst e2;rw [Ag e1,Ag e1,Ak,Ak]
   ·rw [Ag e1,Ag e1,Ag e2,Ag e2,Ag e1]
 have hl:([Value.ref (s.heap.objs.size + 1),u,u2]++[]).length=ps.length:=by
  have e:=F.len _ _ _ _ hsp;simpa using e
 obtain ⟨hh,g,d,t,os⟩:=s;refine wpAny_call (Io ua6 (M.cl.tail I.kIn) hC hN hni ((bind_fn I.kIn _ (beq_iff_eq.mp M.fn))) (by show 2<=sizeLine;decide) ?_);refine codeAny_mono (F.run z _ X.stack _ _ ⟨[Value.ref (hh.objs.size + 1),u,u2],[]⟩ [Value.ref (hh.objs.size + 1),u,u2] _ _ E0 (hr.make C [u,u2] []) (Env0.make (A:=X.A) ⟨I1.env0.frames,I1.env0.mod,I1.env0.bs,I1.env0.bsz,I1.env0.funs,I1.env0.frf,I1.env0.hok,I1.env0.bare⟩ C [u,u2] []) (by have:=hb _ [Value.ref (hh.objs.size + 1),u,u2] I1.kIn hl;simpa using this) r2 hsp) λr s' hq'=>?_
 cases r with
 | error e=>exact hq'.elim
 | ok fl=>
   cases fl with
   | ret w'=>
     obtain ⟨v',H',I3,rv,rfl,dx,d1,d2,rfl⟩:=I1.after hq';refine ⟨rv,?_⟩;have hx:=(I3.hok (hh.objs.size + 1) _ Ak).1;have hx:s'.heap.get? (hh.objs.size + 1)=some { excObj C hh.objs.size with dict:=some dx }:=hx;have xr:XRec true s'.heap (hh.objs.size + 1) C (some dx) .none:=⟨_,_,hx,rfl,rfl,rfl,rfl,λ_=>⟨rfl,by show 4 < 6;decide⟩⟩;have I4:=I3.write (x:=hh.objs.size + 1) (e:=hh.objs.size + 1) (o:=.ext (F2.XIs qx (hh.objs.size + 1) C (some dx))) (h':=s'.heap) (t':=s'.toks) (by rw [Ak];trivial) (.inl rfl) (λ_ _ _ z=>z) ⟨_,hx⟩ (GR xr.to.is);rw [Kb] at I4;exact h s' (hh.objs.size + 1) dx I4 hx0 d1 d2 (um1 _) xr
   | next=>exact False.elim hq'
   | brk=>exact False.elim hq'
   | cont=>exact False.elim hq'
theorem UC {z:Addr}{t:TA}(M:XMk X.K C P f)(ha:XAt X.K C P a)(hab:XAt X.K C P b)(F:FnOkH X.prog X.w X.K X.mg X.base CX0 k f fd ps (He X.K P a b))(hr:Room (k + 1) X.A)(hb:Binds X.K fd ps [])(hg:Gl (X.mark z) n)(hm:X.mg n=some (.ref C))(hA:PA (X.mark z) [e,e'] t)
 (hdb:(n == ("__debug__" : Str))=false:=by decide) (h1:starEach [e,e'] X.env=(false,eval e X.env) :: starEach [e'] X.env:=by rfl) (hpl:(backTo pos (starEach [e'] X.env)).any (·.1)=false:=by rfl) :
 PM qx (X.mark z) (.Call (.Name n p) [e,e'] [] pos) C (λσ H Q=>t σ H λvs H1=>∃v u,vs=[v,u]/\∀x dx,H1 x=none->H1 dx=none->dx≠x->Q x (some dx) (upd (upd H1 dx (.xd [(a,v),(b,u)])) x (.ext (F2.XIs qx x C (some dx))))):=by
 intro pins s σ H Q I h;refine wpAny_Call_Name_kw (B5 I hg hm ?_ hdb);refine ue5 (h₀:=X.base) I.ok.mod.kin M.kp (thn (hA pos pins s σ H _ I h) λus s1 z9=>?_) h1 hpl;obtain ⟨vs,H1,I1,r,v,u,ev,q⟩:=z9;refine ⟨I1.kIn,?_⟩;subst ev
 cases r with
 | cons r0 rs=>
   cases rs with
   | cons r1 rs=>
     cases rs
     exact MF (X:=X) (z:=z) M ha hab F hr hb I1 r0 r1 λs' x dx I' hx hdx ne nx rc=>⟨x,some dx,_,rfl,I',Ak,ul1 I1.sz nx,rc,q x dx hx hdx ne⟩
end
end L2
namespace F2
open PySem L2 PySem.Spec PySem.W
section
variable {X:Cx}{pos p p2 p3 p4:Pos}{P:Addr}{ca:Str->Addr}{E:XK}{e e' cN:Expr}
def QD (prog:Program)(w:World)(K:PySem.W.Frag)(mg:Str->Option Value)(base:Heap)(C P:Addr):Prop:=
 ∃(f:Addr) (fd:FuncData) (ps:List Str),XMk K C P f/\XAt K C P "at"/\XAt K C P "side"/\Binds K fd ps []/\FnOkH prog w K mg base CX0 1 f fd ps (He K P "at" "side")
theorem Yh {n' v:Str}{C':Addr}{bm':List Value}{i:Nat}{rest:List ExceptHandler}{f:M (List D)}{r:D->M Out}(x:XM X.K X.mg P ca)(xn:QD X.prog X.w X.K X.mg X.base (ca "Broken") P)(h1:X.stack=X.env :: X.outer)(h2:X.env.frame=some X.env.locals)(hr:L2.Room 2 X.A)
 (hg:Gl X n') (hm:X.mg n'=some (.ref C')) (c':XCl X.K C' bm') (hs:∀n∈Be,(Value.ref (ca n) :: .ref P :: VE).contains (.ref C')=Ef n n')
 (hN:X.N.Nodup) (hi:X.N[i]?=some v) (hl:X.env.scope.names.lookup v=some .local) (hx:Hk X (λ_=>E)) (hgB:Gl X "Broken") (ha:∀x,PA (X.mark x) [e,e'] (RA X.K f))
 (hz:∀(A:Around) (s:Shared) (Q:Value->Shared->Prop) (E:Value->Shared->Prop),Q Value.none s->wpAny (model X.prog X.w) A (eval cN X.env) Q E s)
 (hrest:PH true X rest (RH X.K ca (μX X.K E) r)) (hdb:(n' == ("__debug__" : Str))=false:=by decide) (hs1:AV e=false:=by rfl) (hs2:A1 [e']=true:=by rfl) :
 PH true X (.ExceptHandler (some (.Name n' p)) (some v) [.Raise (some (.Call (.Name "Broken" p3) [e,e'] [] p4)) (some cN) p2] pos :: rest) (RH X.K ca (μX X.K E) (hAs n' i (Dp "Broken" f) r)):=by
 obtain ⟨fa,fd,ps,M,A,A2,B,F⟩:=xn;have hnB:("Broken" : Str)∈Be:=by decide
 intro pins s0 σ H y C dx T D I o q;refine Yy h1 h2 hg hm c' hN hi hl M.cl (λz=>UC M A A2 F hr B hgB (x.ms _ hnB) (ha z) (by decide) (A3 hs1) (AR hs2).1) hx hz hrest hdb pins s0 σ H y C dx T D I o ?_;obtain ⟨Oo,c,t,n,ds,fi,hn,rfl,rv,o1,t',eq,k⟩:=q;refine ⟨_,x.cl n hn,?_⟩;rw [hs n hn];unfold hAs at eq;dsimp only at eq
 by_cases hb':Ef n n'=true
 ·rw [if_pos hb'] at eq ⊢
  cases e1:Dp "Broken" f { t with env:=t.env.set i (some (.val (.exc n ds))) } with
  | none=>rw [e1] at eq;cases eq
  | some z=>
    obtain ⟨o2,t2⟩:=z;rw [e1] at eq
    cases eq
    obtain ⟨es,t1,e2,e1⟩:=Af e1;have hny:¬c.A y:=by cases rv with | exc _ _ hA _ _=>exact hA
    refine ⟨Oo,c,_,fi.set rv,es,t1,e2,λvs H1 c1 f1 s1 rvs=>?_⟩;rcases es with _ | ⟨d,_ | ⟨d',_ | ⟨_,_⟩⟩⟩
    ·cases e1
    ·cases e1
    ·cases rvs with
     | @cons v0 _ _ _ r0 rs=>
     cases rs with
     | @cons v1 _ _ _ r1 rs=>
     cases rs
     cases e1
     refine ⟨_,_,rfl,λu du hu hdu ne=>?_⟩;have hy1:H1 y=some (.ext (XIs true y (ca n) dx)):=s1.ext.keep _ _ o.hx hny;have nyu:y≠u:=λz=>by rw [z,hu] at hy1;cases hy1
     have nyd:y≠du:=λz=>by rw [z,hdu] at hy1;cases hy1
     have f2:=f1.laid (o:=.xd [("at",v0),("side",v1)]) hdu;have hu2:upd H1 du (.xd [("at",v0),("side",v1)]) u=none:=by rw [Ag (Ne.symm ne)];exact hu
     have f3:=f2.laid (o:=.ext (XIs false u (ca "Broken") (some du))) hu2;have ex:=(f1.stp_laid (o:=.xd [("at",v0),("side",v1)]) hdu).ext.trans (f2.stp_laid (o:=.ext (XIs false u (ca "Broken") (some du))) hu2).ext;have s3:=s1.trans ((f1.stp_laid (o:=.xd [("at",v0),("side",v1)]) hdu).trans (f2.stp_laid (o:=.ext (XIs false u (ca "Broken") (some du))) hu2));refine ⟨Ne.symm nyu,by rw [Ag nyu,Ag nyd];exact hy1,?_⟩;refine k _ _ c1 (f3.unset i) s3 (.ref u) (.exc (x.ns _ hnB) Ak (f2.s.free hu2) ?_ (.cons (r0.mono ex) (.cons (r1.mono ex) .nil))) u (some du) rfl;exact ⟨by rw [Ag ne,Ak];rfl,f1.s.free hdu⟩
    ·cases e1
 ·rw [if_neg hb'] at eq ⊢;exact ⟨Oo,c,t,n,ds,fi,hn,rfl,rv,o1,t',eq,k⟩
end
theorem Pe {prog:Program}{w:World}{K:PySem.W.Frag}{mg:Str->Option Value}{base:Heap}{C P:Addr}{qual:Str}{st:Stmt}{p1 p2 p3 p4 p5 p6 p7 p8:Pos}(hbd:A8 st=[.Assign [.Attribute (.Name "self" p1) "at" p2] (.Name "at" p3) p4,.Assign [.Attribute (.Name "self" p5) "side" p6] (.Name "side" p7) p8])(S:FnScope ["self", "at", "side"] ["self", "at", "side"] (Al st))
 (s1:(Al st).names.lookup ("self" : Str)=some NameKind.local) (s2:(Al st).names.lookup ("at" : Str)=some NameKind.local) (s3:(Al st).names.lookup ("side" : Str)=some NameKind.local) (x:XF2 K C P qual st):QD prog w K mg base C P:=by
 obtain ⟨f,fd,M,A,A2,B,F⟩:=x;refine ⟨f,fd,_,M,A,A2,B,F.okH (k:=0) S (λvs H Q E h=>?_) λcdv z A' outer s H vs Q E hr h=>?_⟩
 ·obtain ⟨y,C',tp,v,u,rfl,_⟩:=h;rfl
 ·rw [hbd];refine ⟨_,Iu (N3 (P:=P) (Cd (i:=0) rfl (.inl s1) (by decide) (by decide)) (Cd (i:=1) rfl (.inl s2) (by decide) (by decide)) rfl) (FW (P0 (P:=P) (f1:="at") (by decide) (Cd (i:=0) rfl (.inl s1) (by decide) (by decide)) (Cd (i:=2) rfl (.inl s3) (by decide) (by decide)) rfl)),?_⟩;obtain ⟨y,C',tp,v,u,rfl,hy,ha,ha2,k⟩:=h;refine ⟨v,rfl,.ref y,rfl,y,C',tp,rfl,hy,ha,λdx h1 h2=>⟨u,rfl,.ref y,rfl,y,C',tp,dx,v,rfl,Ak,by rw [Ag h2,Ak],h2,ha2,?_⟩⟩;have z:=k dx h1 h2;have e:upd (upd (upd H dx (.xd [("at",v)])) y (EI y C' tp dx)) dx (.xd [("at",v),("side",u)])=upd (upd H dx (.xd [("at",v),("side",u)])) y (EI y C' tp dx):=by
   funext b
   by_cases e1:b=dx
   ·subst e1;rw [Ak,Ag h2,Ak]
   ·by_cases e2:b=y
    ·subst e2;rw [Ag e1,Ak,Ak]
    ·rw [Ag e1,Ag e2,Ag e1,Ag e2,Ag e1]
  rw [e];exact z
end F2
namespace L2
open PySem PySem.Spec PyProof.Rows
section
variable {prog:Program}{w:World}{A:Around}{E:Value->Shared->Prop}{s:Shared}
variable {I:Addr}{fp wr:List Addr}{G:Array GenState->Array GenState->Prop}{n:Nat}{P:Nat->Value->Prop}{St:Nat->Shared->Prop}
def aW (prog:Program)(w:World)(h:Heap)(no:List Addr)(k:Key)(x v:Value):Prop:=∃(p:Addr) (o:Obj) (kv:Value) (q:Nat),v = .ref p/\p∉no/\h.get? p=some o/\o.cls = .type "tuple"/\o.data = .seq #[kv,x] q/\(BG prog w).is k kv=true
end
section
variable {X:Cx}
end
end L2
namespace F2
open PySem L2 PySem.Spec PyProof.Rows
section
variable {X:Cx}{pos:Pos}{e:Expr}
end
end F2
namespace L2
open PySem PySem.Spec PyProof.Rows
def Xf (neg:Bool):R2:=λx y H Q=>∃a kvs k,x = .str k/\y = .ref a/\H a=some (.dK kvs)/\Q (.bl (if neg then !(DI kvs (Sum.inr k:Key)).isSome else (DI kvs (Sum.inr k:Key)).isSome)) H
section
variable {X:Cx}
theorem WL (hu:X.A.units + 64 < cLine):OpR X (compareOp .In) (Xf false):=by
 intro pins s σ H x y v u Q I rx ry h;obtain ⟨a,kvs,k,rfl,rfl,e,q⟩:=h
 cases ry
 exact Zz (by lia) I (DGet.k (k:=(Sum.inr k:Key)) e) rx λs' I'=>⟨.bl _,H,I',rfl,q⟩
theorem NB:Cm X (.type "dict") (λxs H Q=>∃(p:Addr) (kvs:List (Key×V)),xs=[.ref p]/\H p=some (.dK kvs)/\∀l,H l=none->Q (.ref l) (upd H l (.dK kvs))):=by
 intro pins s σ H xs us0 Q I r h;obtain ⟨p,kvs,rfl,e,q⟩:=h;obtain ⟨u,rfl,rx⟩:=FG r
 cases rx
 obtain ⟨hz,hp,vs,rel,dd⟩:=KU I.hok e;refine kt_call_dict hp dd (by rw [<-rel.length];exact hz) λh' hD sb=>?_;have nm:(s.heap.objs.size == sysModules)=false:=by
  have:=I.big;rw [beq_eq_false_iff_ne];exact ul2 this
 have hk:∀b o,s.heap.get? b=some o->h'.get? b=some o:=λb o eb=>by
  rw [sb.2 b (ul0 (uk9 eb))];exact ub9 _ eb
 exact ⟨.ref s.heap.objs.size,_,I.laid (t':=s.toks) hk (ul9 _) (LA hz nm rel hD),rfl,q _ (I.hok.fresh (ul9 _))⟩
end
end L2
namespace F2
open PySem L2 PySem.Spec PyProof.Rows
def inS (neg:Bool):D->D->M D
 | .str k,.obj n=>λt=>match t.S[n]? with
   | some (.dct kvs)=>some (.bl (if neg then !(A0 kvs (.inr k)).isSome else (A0 kvs (.inr k)).isSome),t)
   | _=>none
 | _,_=>fail
def Hq:List D->M D
 | [.obj n]=>λt=>match t.S[n]? with
   | some (.dct kvs)=>some (.obj t.S.length,{ t with S:=t.S++[.dct kvs] })
   | _=>none
 | _=>fail
section
variable {K:PySem.W.Frag}
theorem UU {neg:Bool}:Bn K (Xf neg) (inS neg):=λ{Oo c t σ H x y dx dy r t' Q} f rx ry eq k=>by
 unfold inS at eq
 split at eq
 ·next z n=>
  cases rx
  cases ry with
  | @obj a kk hk=>
    split at eq
    ·next kvs es=>
     cases eq
     obtain ⟨us,g1,g2⟩:=f.s.obs _ a _ hk es;refine ⟨a,us,z,rfl,rfl,g1,?_⟩;rw [g2.has];exact k _ H c f .refl (.bl _)
    ·cases eq
 ·cases eq
end
section
variable {X:Cx}{pos:Pos}{e:Expr}
theorem QU {f:M (List D)}{p:Pos}(hg:Gl X "dict")(hm:X.mg "dict" = none)(ha:PA X [e] (RA X.K f))(h1:AV e=false:=by rfl) :
 PE X (.Call (.Name "dict" p) [e] [] pos) (RE X.K (fB f Hq)):=
 AD (G8 NB hg hm (by decide +kernel) ha (by decide) (by decide) (A3 h1) rfl) λσ H Q z9=>by
  obtain ⟨Oo,c,t,fi,r,t',eq,k⟩:=z9;obtain ⟨as,t1,e1,eq⟩:=Af eq;unfold Hq at eq
  split at eq
  ·next n=>
   split at eq
   ·next kvs es=>
    cases eq
    refine ⟨Oo,c,t,fi,_,_,e1,λvs H1 c1 f1 s1 rv=>?_⟩;obtain ⟨v,rfl,rw1⟩:=EA rv
    cases rw1 with
    | @obj a kk hk=>
    obtain ⟨us,g1,g2⟩:=f1.s.obs _ a _ hk es;refine ⟨a,us,rfl,g1,λl hnl=>?_⟩;obtain ⟨c2,f2,s2,eo⟩:=f1.newObj (o:=.dct kvs) (u:=.dK us) hnl λc' H' ex hu=>⟨_,hu,g2.mono ex⟩;exact k _ _ c2 f2 (s1.trans s2) (.obj eo)
   ·cases eq
  ·cases eq
end
end F2
namespace F2
open PySem L2 PySem.Spec PySem.W
theorem TQ {P:Program}{w:World}{K:PySem.W.Frag}{mg:Str->Option Value}{base:Heap}{x qual:Str}{st:Stmt}{fa:Addr}{fd:FuncData}{N ps:List Str}{k n m:Nat}{g:M Out}(e1:ps.length=n)(e2:N.length=m)(F:Fun K x qual st fa fd)(S:FnScope N ps (Al st))
 (hb:∀(cdv:Value) (A:Around) (outer:List Env) (s:Shared) (H:Hp) (E:XK),L2.Room k (A.deeper (PyProof.Rows.envOfC qual (Al st) s.heap.objs.size fa cdv))->
   B4 (CX1 false P w) (cxX false P w K mg base N qual (Al st) fa cdv A outer s H E) (λ_=>E)->E6 false (cxX false P w K mg base N qual (Al st) fa cdv A outer s H E) (λ_=>E)->
   PassesOwn (model P w) (cxX false P w K mg base N qual (Al st) fa cdv A outer s H E).A (cxX false P w K mg base N qual (Al st) fa cdv A outer s H E).env (cxX false P w K mg base N qual (Al st) fa cdv A outer s H E).xe->
   Hk (cxX false P w K mg base N qual (Al st) fa cdv A outer s H E) (λ_=>E)->
   PSs (cxX false P w K mg base N qual (Al st) fa cdv A outer s H E) (A8 st) (RSg K (μX K E) g)):FnOk P w K mg base (CX1 false P w) (k + 1) fa fd ps (spX K (fnOf n m g)):=
 MR e1 e2 F S λcdv A outer s H E hr h1 h2 h3=>hb cdv A outer s H E hr h1 h2 h3 XE.raisesT
theorem T1 {M:Model}{env:Env}{j:Nat}{pos:Pos}:∀(A:Around) (s:Shared) (Q:Value->Shared->Prop) (E:Value->Shared->Prop),Q Value.none s->wpAny M A (eval (.Constant .none j pos) env) Q E s:=λA s Q E h=>um4 h
section
variable {X:Cx}
end
def CM (K:PySem.W.Frag):Prop:=∀n∈JH,∀C,nsIn K mainGlobals n=some (some (.ref C))->Cls K C/\∀f∈atN,NoAttr K C f
noncomputable def Fv (f:Str)(v:D):List (Str×D)->List (Str×D)
 | []=>[(f,v)]
 | (g,x) :: r=>if g=f then (g,v) :: r else (g,x) :: Fv f v r
section
variable {K:PySem.W.Frag}{c:Cf}{H:Hp}
theorem FldR.len:∀{us:List (Str×V)} {fs:List (Str×D)},FldR K c H us fs->us.length=fs.length
 | _,_,.nil=>rfl
 | _,_,.cons _ t=>by rw [ug4,ug4,FldR.len t]
theorem FldR.look {f:Str}{d:D}:∀{us:List (Str×V)} {fs:List (Str×D)},FldR K c H us fs->fs.lookup f=some d->∃v,us.lookup f=some v/\Rep K c H v d
 | _,_,.nil,e=>by cases e
 | (g,x) :: us,(g',y) :: fs,.cons ⟨h1,h2⟩ t,e=>by
   have h1:g=g':=h1;subst h1
   by_cases q:(f == g)=true
   ·simp only [List.lookup,q] at e ⊢
    cases e
    exact ⟨_,rfl,h2⟩
   ·have q:(f == g)=false:=by simpa using q
    simp only [List.lookup,q] at e ⊢;exact FldR.look t e
theorem FldR.none {f:Str}:∀{us:List (Str×V)} {fs:List (Str×D)},FldR K c H us fs->(∀p∈fs,p.1≠f)->us.lookup f=none
 | _,_,.nil,_=>rfl
 | (g,x) :: us,(g',y) :: fs,.cons ⟨h1,h2⟩ t,e=>by
   have h1:g=g':=h1;subst h1;have q:(f == g)=false:=by
    have:=e (g,y) (.head _);simpa using λz:f=g=>this z.symm
   simp only [List.lookup,q];exact FldR.none t λp hp=>e p (.tail _ hp)
theorem FldR.put {f:Str}{v:V}{d:D}(r:Rep K c H v d):∀{us:List (Str×V)} {fs:List (Str×D)},FldR K c H us fs->FldR K c H (CO f v us) (Fv f d fs)
 | _,_,.nil=>.cons ⟨rfl,r⟩ .nil
 | (g,x) :: us,(g',y) :: fs,.cons ⟨h1,h2⟩ t=>by
   have h1:g=g':=h1;subst h1;show FldR K c H (if g=f then (g,v) :: us else (g,x) :: CO f v us) (if g=f then (g,d) :: fs else (g,y) :: Fv f d fs)
   by_cases q:g=f
   ·rw [if_pos q,if_pos q];exact .cons ⟨rfl,r⟩ t
   ·rw [if_neg q,if_neg q];exact .cons ⟨rfl,h2⟩ (FldR.put r t)
theorem FldR.mono {c':Cf}{H':Hp}(e:Ext c H c' H'){us:List (Str×V)}{fs:List (Str×D)}(h:FldR K c H us fs):FldR K c' H' us fs:=Paired.mapP h λ_ _ z=>⟨z.1,z.2.mono e⟩
theorem M7 {f:Str}{v:D}(hf:f∈atN):∀{fs:List (Str×D)},(∀p∈fs,p.1∈atN)->∀p∈Fv f v fs,p.1∈atN
 | [],_=>λp hp=>by rw [show Fv f v []=[(f,v)] from rfl,ue8] at hp;subst hp;exact hf
 | (g,x) :: r,h=>λp hp=>by
   rw [show Fv f v ((g,x) :: r)=(if g=f then (g,v) :: r else (g,x) :: Fv f v r) from rfl] at hp
   split at hp
   ·rcases uj8.mp hp with e | e
    ·subst e;exact h (g,x) (.head _)
    ·exact h p (.tail _ e)
   ·rcases uj8.mp hp with e | e
    ·subst e;exact h (g,x) (.head _)
    ·exact M7 hf (λp hp=>h p (.tail _ hp)) p e
end
noncomputable def Fi {α:Type}(d:D)(h:Nat->Str->List (Str×D)->M α):M α:=λt=>match d with
 | .obj k=>match t.S[k]? with
   | some (.ins n fs)=>h k n fs t
   | _=>none
 | _=>none
theorem GV {α:Type}{d:D}{h:Nat->Str->List (Str×D)->M α}{t:T}{z:α×T}(e:Fi d h t=some z):∃k n fs,d = .obj k/\t.S[k]?=some (.ins n fs)/\h k n fs t=some z:=by
 cases d with
 | obj k=>
   rw [show Fi (.obj k) h t=(match t.S[k]? with | some (.ins n fs)=>h k n fs t | _=>none) from rfl] at e
   cases es:t.S[k]? with
   | none=>rw [es] at e;cases e
   | some o=>
     rw [es] at e
     cases o with
     | ins n fs=>exact ⟨k,n,fs,rfl,es,e⟩
     | _=>cases e
 | _=>cases e
def Cs (f:Str)(a:M D):M D:=bnd a λd=>Fi d λ_ _ fs t=>(fs.lookup f).map λv=>(v,t)
def Ds (f:Str)(gv ga:M D):M Out:=bnd gv λv=>bnd ga λd=>Fi d λk n fs t=>if fs.length < 1000 then some (.next,{ t with S:=t.S.set k (.ins n (Fv f v fs)) }) else none
def KW (n:Str)(g:Fn)(f:M (List D)):M D:=bnd f λds t=>match g (.obj t.S.length :: ds) (t.S++[.ins n []]) with
 | some (.non,S')=>some (.obj t.S.length,{ t with S:=S' })
 | _=>none
def A4 (n:Str)(g:Fn)(o:M D)(f:M (List D)):M D:=bnd o λd=>Fi d λ_ n' _=>if n'=n then bnd f λds t=>match g (d :: ds) t.S with
 | some (r,S')=>some (r,{ t with S:=S' })
 | none=>none else fail
theorem FZ {K:PySem.W.Frag}{c:Cf}{H:Hp}{v:V}{k:Nat}(h:Rep K c H v (.obj k)):∃a,v = .ref a/\c.ι[k]?=some a:=by
 cases h with
 | obj e=>exact ⟨_,rfl,e⟩
end F2
namespace L2
open PySem PySem.Spec PySem.W PyProof.Rows
section
variable {X:Cx}{CX:CXT}{k:Nat}{f C:Addr}{fd:FuncData}{ps:List Str}{sp:Sp}{E:St->XK}{x m:Str}{p pos apos:Pos}{e o:Expr}{es:List Expr}{ta:TE}{t:TA}
theorem Nc {pins:List (Addr×Obj)}{σ:St}{H:Hp}{s:Shared}{Q:VK}{us:List Value}{vs:List V}(F:FnOk X.prog X.w X.K X.mg X.base CX k f fd ps sp)(hr:Room k X.A)(hb:Binds X.K fd ps [])(hx:B4 CX X E)
 (I:Inv X pins σ H s) (r:Vals vs us) (h:sp vs H Q (E σ)):wpAny (model X.prog X.w) X.A (call (.ref f) us) (EP X pins σ Q) X.xe s:=by
 have hl:(us++[]).length=ps.length:=by rw [ui1,<-r.length];exact F.len _ _ _ _ h
 refine wpAny_call (codeAny_mono (F.run X.A X.stack s H ⟨us,[]⟩ us vs Q (E σ) hr I.env0 (by have:=hb s us I.kIn hl;rwa [ui1] at this) r h) λr s' hq=>?_)
 cases r with
 | error e=>exact hx pins σ H s e s' I hq
 | ok fl=>
   cases fl with
   | ret u=>exact I.after hq
   | next=>exact False.elim hq
   | brk=>exact False.elim hq
   | cont=>exact False.elim hq
def XC (C:Addr)(m:Str)(sp:Sp)(E:St->XK)(ta:TE)(t:TA):TE:=λσ H Q=>ta σ H λx H1=>∃a dx fs,x = .ref a/\H1 a=some (.ins C dx fs)/\fs.lookup m=none/\
 t σ H1 λvs H2=>sp (x :: vs) H2 Q (E σ)
abbrev Ej (X:Cx)(o:Expr)(m:Str)(es:List Expr)(apos pos:Pos)(pl:Sem Bool):Prop:=eval (.Call (.Attribute o m apos) es [] pos) X.env=(do
 let ov <-eval o X.env
 standAt apos.atName
 let (f,first) <-holding [ov] (getMethod ov m pl)
 callWith pos f first (backTo pos (starEach es X.env)) (backToKw pos (keywordEach [] X.env)))
theorem RY {pl:Sem Bool}(he:PE X o ta)(c:Cls X.K C)(hm:Meth X.K C m f)(F:FnOk X.prog X.w X.K X.mg X.base CX k f fd ps sp)(hr:Room k X.A)(hb:Binds X.K fd ps [])(hx:B4 CX X E)(ha:PA X (e :: es) t)
 (hst:starEach (e :: es) X.env=(false,eval e X.env) :: starEach es X.env) (hpl:(backTo pos (starEach es X.env)).any (·.1)=false) (ht:Ej X o m (e :: es) apos pos pl) :
 PE X (.Call (.Attribute o m apos) (e :: es) [] pos) (XC C m sp E ta t):=by
 intro pins s σ H Q I h;refine uc8 (pl:=pl) (thn (he pins s σ H _ I h) λu s1 z9=>?_) ht;obtain ⟨x,H1,I1,rx,a,dx,fs,ex,ea,l,q⟩:=z9;subst ex;obtain rfl:u=Value.ref a:=rx;refine Gg I1 ea c hm l ?_;refine ue5 (first:=[.ref a]) (h₀:=X.base) I.ok.mod.kin hm.kp (thn (ha pos pins s1 σ H1 _ I1 q) λus s2 z9=>?_) hst hpl;obtain ⟨vs,H2,I2,r,q2⟩:=z9;refine ⟨I2.kIn,?_⟩;exact Nc (us:=.ref a :: us) (vs:=.ref a :: vs) F hr hb hx I2 (.cons rfl r) q2
structure ByCls (K:PySem.W.Frag)(C:Addr)(m:Str)(f:Addr):Prop where
 ga:specialIn K (.ref C) "__getattribute__" = some (some (.builtin "type.__getattribute__"))
 rd:readsIn K C (.type "type")=true
 at_:(match findCls K (.ref C) (.type "type") m with | some (.val (.ref g))=>g == f | _=>false)=true
 kp:keepIn K (.ref f)=true
theorem ByCls.found {K:PySem.W.Frag}{C f:Addr}{m:Str}(b:ByCls K C m f):findCls K (.ref C) (.type "type") m=some (.val (.ref f)):=by
 have q:=b.at_
 split at q
 ·next e=>rw [e];rw [beq_iff_eq.mp q]
 ·cases q
theorem RL {pl:Sem Bool}(F:FnOk X.prog X.w X.K X.mg X.base CX k f fd ps sp)(hr:Room k X.A)(hg:Gl X x)(hm:X.mg x=some (.ref C))(bc:ByCls X.K C m f)(hb:Binds X.K fd ps [])(hx:B4 CX X E)(ha:PA X (e :: es) t)
 (hdb:(x == ("__debug__" : Str))=false) (hst:starEach (e :: es) X.env=(false,eval e X.env) :: starEach es X.env) (hpl:(backTo pos (starEach es X.env)).any (·.1)=false) (ht:Ej X (.Name x p) m (e :: es) apos pos pl) :
 PE X (.Call (.Attribute (.Name x p) m apos) (e :: es) [] pos) (Qf sp E t):=by
 intro pins s σ H Q I h;refine uc8 (pl:=pl) (B5 I hg hm ?_ hdb) ht;refine method_cls I.kIn bc.ga (cls_value I.kIn bc.rd bc.found rfl ?_);have I0:=I.tok (s.toks + 1);refine ue5 (first:=[]) (h₀:=X.base) I.ok.mod.kin bc.kp (thn (ha pos pins _ σ H _ I0 h) λus s2 z9=>?_) hst hpl;obtain ⟨vs,H2,I2,r,q2⟩:=z9;refine ⟨I2.kIn,?_⟩;exact Nc (us:=us) (vs:=vs) F hr hb hx I2 r q2
end
end L2
namespace F2
open PySem L2 PySem.Spec PySem.W
variable {n:Str}{h:Fn}{pl:Sem Bool}
section
variable {X:Cx}{e o a value:Expr}{es:List Expr}{pos pos' apos p:Pos}{f:Str}{g gv ga:M D}{fl:M (List D)}{C:Addr}
theorem V0 (cm:CM X.K)(hf:f∈atN)(he:PE X e (RE X.K g))(hb:attributeBase e f X.env (eval e X.env)=eval e X.env):PE X (.Attribute e f pos) (RE X.K (Cs f g)):=
 AD (WW he hb) λσ H Q z9=>by
  obtain ⟨Oo,c,t,fi,r,t',eq,kk⟩:=z9;obtain ⟨d,t1,e1,eq⟩:=Af eq;obtain ⟨k,n,fs,rfl,es,eq⟩:=GV eq;obtain ⟨y,e2,e3⟩:=uc2.mp eq
  cases e3
  refine ⟨Oo,c,t,fi,.obj k,_,e1,λv H1 c1 f1 s1 rv=>?_⟩;obtain ⟨b,rfl,hk⟩:=FZ rv;obtain ⟨⟨hn,hat⟩,C,dx,us,g1,g2,g3⟩:=f1.s.obs k b _ hk es;obtain ⟨w,l1,l2⟩:=g3.look e2;exact ⟨b,C,dx,us,w,rfl,g2,(cm n hn C g1).1,(cm n hn C g1).2 f hf,l1,kk w H1 c1 f1 s1 l2⟩
theorem We {μ:Cf->Hp->D->(V->Hp->Prop)->Prop}(cm:CM X.K)(hf:f∈atN)(ha:PE X o (RE X.K ga))(hv:PE X value (RE X.K gv))(hs:swapsWith value (some (.Attribute o f pos')) pos.line X.env=pure false:=by rfl) :
 PS X (.Assign [.Attribute o f pos'] value pos) (RSg X.K μ (Ds f gv ga)):=
 A9 (W7 ha hv hs) λD σ H z9=>by
  obtain ⟨Oo,c,t,fi,r,t',eq,kk⟩:=z9;obtain ⟨d,t1,e1,eq⟩:=Af eq;obtain ⟨d2,t2,e2,eq⟩:=Af eq;obtain ⟨k,n,fs,rfl,es,eq⟩:=GV eq
  split at eq
  ·next hl=>
   cases eq
   refine ⟨Oo,c,t,fi,d,t1,e1,λv H1 c1 f1 s1 rv=>⟨Oo,c1,t1,f1,.obj k,t2,e2,λx H2 c2 f2 s2 rx=>?_⟩⟩;obtain ⟨b,rfl,hk⟩:=FZ rx;obtain ⟨⟨hn,hat⟩,C,dx,us,g1,g2,g3⟩:=f2.s.obs k b _ hk es;refine ⟨b,C,dx,us,rfl,g2,(cm n hn C g1).1,(cm n hn C g1).2 f hf,by rw [g3.len];exact hl,?_⟩;obtain ⟨f3,s3⟩:=f2.wrObj (o:=.ins n (Fv f d fs)) (u:=.ins C dx (CO f v us)) hk λc' H' ext hu=>⟨⟨hn,M7 hf hat⟩,C,dx,_,g1,hu,(FldR.put (rv.mono s2.ext) g3).mono ext⟩;exact kk σ _ c2 f3 ((s1.trans s2).trans s3)
  ·cases eq
theorem Pu {ds:List D}{t:T}{r:D}{t':T}(e:(match h (.obj t.S.length :: ds) (t.S++[.ins n []]) with | some (.non,S')=>some (.obj t.S.length,{ t with S:=S' }) | _=>none:Option (D×T))=some (r,t')) :
 ∃S',h (.obj t.S.length :: ds) (t.S++[.ins n []])=some (.non,S')/\r = .obj t.S.length/\t' = { t with S:=S' }:=by
 split at e
 ·next S' q=>cases e;exact ⟨S',q,rfl,rfl⟩
 ·cases e
theorem TC {k:Nat}{fa:Addr}{fd:FuncData}{ps:List Str}(hn:n∈JH)(hC:nsIn X.K mainGlobals n=some (some (.ref C)))(M:Mk X.K C fa)(F:FnOk X.prog X.w X.K X.mg X.base CX0 k fa fd ps (spF X.K h))(hr:Room (k + 1) X.A)(hg:Gl X n)(hm:X.mg n=some (.ref C))(hb:Binds X.K fd ps [])
 (ha:PA X (e :: es) (RA X.K fl)) (hdb:(n == ("__debug__" : Str))=false:=by decide) (h1:AV e=false:=by rfl) (h2:A1 es=true:=by rfl):PE X (.Call (.Name n p) (e :: es) [] pos) (RE X.K (KW n h fl)):=
 AD (Uv M F hr hg hm hb .nil HB ha hdb (A3 h1) (AR h2).1) λσ H Q z9=>by
  obtain ⟨Oo,c,t,fi,r,t',eq,kk⟩:=z9;obtain ⟨ds,t1,e1,eq⟩:=Af eq;obtain ⟨S',e2,rfl,rfl⟩:=Pu eq;refine ⟨Oo,c,t,fi,ds,t1,e1,λvs H1 c1 f1 s1 rvs x dx hx hdx ne=>?_⟩;rw [ui1];have f2:=f1.laid (p:=dx) (o:=.own x) hdx;have s2:=f1.stp_laid (p:=dx) (o:=.own x) hdx;have hx2:upd H1 dx (.own x) x=none:=by rw [Ag (Ne.symm ne)];exact hx
  obtain ⟨c3,f3,s3,e3⟩:=f2.newObj (o:=.ins n []) (u:=.ins C dx []) hx2 λc' H' ext hu=>⟨⟨hn,λp hp=>by cases hp⟩,C,dx,[],hC,hu,.nil⟩;refine ⟨c3,.obj t1.S.length :: ds,_,f3.s,.cons (.obj e3) ((rvs.mono s2.ext).mono s3.ext),.non,S',e2,λv H' c' si st ho rv=>?_⟩;obtain ⟨f4,s4⟩:=f3.after si st ho
  cases rv
  exact ⟨rfl,kk _ H' c' f4 ((s1.trans s2).trans (s3.trans s4)) (.obj (st.ext.io _ _ e3))⟩
structure MAt (K:PySem.W.Frag)(n m:Str)(C fa:Addr):Prop where
 cl:n∈JH
 at_:nsIn K mainGlobals n=some (some (.ref C))
 me:Meth K C m fa
 na:m∉atN
theorem G4 {d:D}{t:T}{r:D}{t':T}(e:Fi d (λ_ n' _=>if n'=n then bnd fl λds t=>match h (d :: ds) t.S with | some (r,S')=>some (r,{ t with S:=S' }) | none=>none else fail) t=some (r,t')) :
 ∃k fs ds t1 S',d = .obj k/\t.S[k]?=some (.ins n fs)/\fl t=some (ds,t1)/\h (d :: ds) t1.S=some (r,S')/\t' = { t1 with S:=S' }:=by
 obtain ⟨k,n',fs,rfl,es,q⟩:=GV e
 by_cases hn:n'=n
 ·subst hn;rw [if_pos rfl] at q;obtain ⟨ds,t1,e1,q⟩:=Af q;obtain ⟨S',e2,rfl⟩:=FB q;exact ⟨k,fs,ds,t1,S',rfl,es,e1,e2,rfl⟩
 ·rw [if_neg hn] at q;cases q
section
variable {k:Nat}{fa:Addr}{fd:FuncData}{ps:List Str}{h:Fn}{n m:Str}{qx:Bool}{E:L2.St->XK}
theorem JK (cm:CM X.K)(ma:MAt X.K n m C fa)(F:FnOk X.prog X.w X.K X.mg X.base CX0 k fa fd ps (spF X.K h))(hr:Room k X.A)(hb:Binds X.K fd ps [])(he:PE X o (RE X.K g))(ha:PA X (e :: es) (RA X.K fl))
 (h1:AV e=false:=by rfl) (h2:A1 es=true:=by rfl) (ht:Ej X o m (e :: es) apos pos pl:=by rfl):PE X (.Call (.Attribute o m apos) (e :: es) [] pos) (RE X.K (A4 n h g fl)):=
 AD (Uw (pl:=pl) he (cm n ma.cl C ma.at_).1 ma.me F hr hb .nil HB ha (A3 h1) (AR h2).1 ht) λσ H Q z9=>by
  obtain ⟨Oo,c,t,fi,r,t',eq,kk⟩:=z9;obtain ⟨d,t1,e1,eq⟩:=Af eq;obtain ⟨j,fs,ds,t2,S',rfl,es,e2,e3,rfl⟩:=G4 eq;refine ⟨Oo,c,t,fi,.obj j,t1,e1,λv H1 c1 f1 s1 rv=>?_⟩;obtain ⟨b,rfl,hk⟩:=FZ rv;obtain ⟨⟨_,hat⟩,C',dx,us,g1,g2,g3⟩:=f1.s.obs j b _ hk es;rw [ma.at_] at g1
  cases g1
  refine ⟨b,dx,us,rfl,g2,g3.none λp hp z=>ma.na (z ▸ hat p hp),Oo,c1,t1,f1,ds,t2,e2,λvs H2 c2 f2 s2 rvs=>?_⟩;show spF X.K h (V.ref b :: (vs++[])) H2 Q E0;rw [ui1];refine ⟨c2,.obj j :: ds,t2.S,f2.s,.cons (.obj (s2.ext.io _ _ hk)) rvs,r,S',e3,λv H' c' si st ho rv=>?_⟩;obtain ⟨f3,s3⟩:=f2.after si st ho;exact kk v H' c' f3 ((s1.trans s2).trans s3) rv
theorem LC (cm:CM X.K)(ma:MAt X.K n m C fa)(F:FnOk X.prog X.w X.K X.mg X.base CX0 k fa fd ps (spF X.K h))(hr:Room k X.A)(hb:Binds X.K fd ps [])(he:PE X o (RE X.K g))(ht:Ej X o m [] apos pos pl:=by rfl) :
 PE X (.Call (.Attribute o m apos) [] [] pos) (RE X.K (A4 n h g (ret []))):=
 AD (RW (pl:=pl) he (cm n ma.cl C ma.at_).1 ma.me F hr hb .nil HB ht) λσ H Q z9=>by
  obtain ⟨Oo,c,t,fi,r,t',eq,kk⟩:=z9;obtain ⟨d,t1,e1,eq⟩:=Af eq;obtain ⟨j,fs,ds,t2,S',rfl,es,e2,e3,rfl⟩:=G4 eq
  cases e2
  refine ⟨Oo,c,t,fi,.obj j,t1,e1,λv H1 c1 f1 s1 rv=>?_⟩;obtain ⟨b,rfl,hk⟩:=FZ rv;obtain ⟨⟨_,hat⟩,C',dx,us,g1,g2,g3⟩:=f1.s.obs j b _ hk es;rw [ma.at_] at g1
  cases g1
  refine ⟨b,dx,us,rfl,g2,g3.none λp hp z=>ma.na (z ▸ hat p hp),?_⟩;refine ⟨c1,[.obj j],t1.S,f1.s,.cons (.obj hk) .nil,r,S',e3,λv H' c' si st ho rv=>?_⟩;obtain ⟨f3,s3⟩:=f1.after si st ho;exact kk v H' c' f3 (s1.trans s3) rv
theorem Hv (cm:CM X.K)(ma:MAt X.K n m C fa)(F:FnOk X.prog X.w X.K X.mg X.base (CX1 qx X.prog X.w) k fa fd ps (spX X.K h))(hr:Room k X.A)(hb:Binds X.K fd ps [])(hx:B4 (CX1 qx X.prog X.w) X E)(he:PE X o (RE X.K g))(ha:PA X (e :: es) (RA X.K fl))
 (h1:AV e=false:=by rfl) (h2:A1 es=true:=by rfl) (ht:Ej X o m (e :: es) apos pos pl:=by rfl):PE X (.Call (.Attribute o m apos) (e :: es) [] pos) (RX X.K E (A4 n h g fl)):=
 AD (RY (pl:=pl) he (cm n ma.cl C ma.at_).1 ma.me F hr hb hx ha (A3 h1) (AR h2).1 ht) λσ H Q z9=>by
  obtain ⟨Oo,c,t,fi,r,t',eq,kk⟩:=z9;obtain ⟨d,t1,e1,eq⟩:=Af eq;obtain ⟨j,fs,ds,t2,S',rfl,es,e2,e3,rfl⟩:=G4 eq;refine ⟨Oo,c,t,fi,.obj j,t1,e1,λv H1 c1 f1 s1 rv=>?_⟩;obtain ⟨b,rfl,hk⟩:=FZ rv;obtain ⟨⟨_,hat⟩,C',dx,us,g1,g2,g3⟩:=f1.s.obs j b _ hk es;rw [ma.at_] at g1
  cases g1
  refine ⟨b,dx,us,rfl,g2,g3.none λp hp z=>ma.na (z ▸ hat p hp),Oo,c1,t1,f1,ds,t2,e2,λvs H2 c2 f2 s2 rvs=>?_⟩;refine ⟨c2,.obj j :: ds,t2.S,f2.s,.cons (.obj (s2.ext.io _ _ hk)) rvs,r,S',e3,λv H' c' si st ho rv=>?_⟩;obtain ⟨f3,s3⟩:=f2.after si st ho;exact kk v H' c' f3 ((s1.trans s2).trans s3) rv
theorem QR {x:Str}(F:FnOk X.prog X.w X.K X.mg X.base CX0 k fa fd ps (spF X.K h))(hr:Room k X.A)(hg:Gl X x)(hm:X.mg x=some (.ref C))(bc:ByCls X.K C m fa)(hb:Binds X.K fd ps [])(ha:PA X (e :: es) (RA X.K fl))
 (hdb:(x == ("__debug__" : Str))=false:=by decide) (h1:AV e=false:=by rfl) (h2:A1 es=true:=by rfl) (ht:Ej X (.Name x p) m (e :: es) apos pos pl:=by rfl):PE X (.Call (.Attribute (.Name x p) m apos) (e :: es) [] pos) (RE X.K (Ai h fl)):=
 AD (RL (pl:=pl) (E:=λ_=>E0) F hr hg hm bc hb (λpins σ H s e s'=>HB pins σ H s e s') ha hdb (A3 h1) (AR h2).1 ht) λσ H Q z9=>by
  obtain ⟨Oo,c,t,fi,r,t',eq,kk⟩:=z9;obtain ⟨ds,t1,e1,eq⟩:=Af eq;obtain ⟨S',e2,rfl⟩:=FB eq;refine ⟨Oo,c,t,fi,ds,t1,e1,λvs H1 c1 f1 s1 rvs=>?_⟩;refine ⟨c1,ds,t1.S,f1.s,rvs,r,S',e2,λv H' c' si st ho rv=>?_⟩;obtain ⟨f2,s2⟩:=f1.after si st ho;exact kk v H' c' f2 (s1.trans s2) rv
end
end
variable {K:PySem.W.Frag}
theorem WI {k:Kd}{P:Program}{w:World}{mg:Str->Option Value}{base:Heap}{n:Nat}{fa:Addr}{fd:FuncData}{ps:List Str}{f:Fn}(h:okK k P w K mg base n fa fd ps f):okK k P w K mg base (n + 1) fa fd ps f:=by
 cases k <;> exact FnOk.mono h (um1 _)
def ND (K:PySem.W.Frag)(C:Addr):Bool:=plainGet K C Str.empty && hasDictIn K C && plainOver K C && findIn K (.ref C) "__setattr__" == some (some (.builtin "object.__setattr__")) && atN.all λf=>findIn K (.ref C) f == some none
variable {C:Addr}
theorem Tu (h:ND K C=true):Cls K C/\∀f∈atN,NoAttr K C f:=by
 unfold ND at h;simp only [uh0,beq_iff_eq,uh2] at h;obtain ⟨⟨⟨⟨a,b⟩,c⟩,d⟩,e⟩:=h;exact ⟨⟨a,b,c,d⟩,λf hf=>e f hf⟩
theorem X6 (h:∀n∈JH,nsIn K mainGlobals n=some none\/∃C,nsIn K mainGlobals n=some (some (.ref C))/\ND K C=true):CM K:=λn hn C e=>by
 rcases h n hn with q | ⟨C',q,b⟩
 ·rw [e] at q;cases q
 ·rw [e] at q;cases q;exact Tu b
noncomputable def NR (K:PySem.W.Frag)(C:Addr):Bool:=makesIn K C && keepIn K (.ref C)
theorem Yr {f:Addr}(h:NR K C=true)(i:findIn K (.ref C) "__init__" = some (some (.ref f)))(hf:isFn K (.ref f)=true):Mk K C f:=by
 unfold NR at h;simp only [uh0] at h;exact ⟨h.1,i,hf,h.2⟩
noncomputable def byB (K:PySem.W.Frag)(C:Addr)(m:Str):Bool:=specialIn K (.ref C) "__getattribute__" == some (some (.builtin "type.__getattribute__")) && readsIn K C (.type "type") && match findCls K (.ref C) (.type "type") m,findIn K (.ref C) m with | some (.val (.ref g)),some (some (.ref f))=>g == f | _,_=>false
theorem X5 {f:Addr}{m:Str}(h:byB K C m=true)(i:findIn K (.ref C) m=some (some (.ref f)))(k:keepIn K (.ref f)=true):ByCls K C m f:=by
 unfold byB at h;simp only [uh0,beq_iff_eq] at h;obtain ⟨⟨a,b⟩,c⟩:=h;refine ⟨a,b,?_,k⟩;rw [i] at c
 split at c
 ·next g f' e1 e2=>
  cases e2
  rw [e1];exact c
 ·cases c
end F2
namespace F2
open PySem L2 PySem.Spec PyProof.Rows
section
variable {K:PySem.W.Frag}
end
abbrev Gd:=Option (Nat×List D)
def Gon (g:Gd)(S:List Ob):Prop:=∀k xs,g=some (k,xs)->S[k]?=some (.lst xs)
def chk (g:Gd):M Unit:=λt=>@ite _ (Gon g t.S) (Classical.propDecidable _) (some ((),t)) none
theorem Gb {g:Gd}{t t':T}{u:Unit}(h:chk g t=some (u,t')):Gon g t.S/\t'=t:=by
 unfold chk at h
 split at h
 ·next q=>cases h;exact ⟨q,rfl⟩
 ·cases h
theorem IM {g:Gd}{t:T}(h:Gon g t.S):chk g t=some ((),t):=by unfold chk;rw [if_pos h]
def compG (g:Gd)(st:D->M Unit)(tst:M Bool)(elt:M D):List D->M (List D)
 | []=>bnd (chk g) λ_=>ret []
 | d :: r=>bnd (chk g) λ_=>bnd (st d) λ_=>bnd tst λk=>if k=true then bnd elt λx=>bnd (compG g st tst elt r) λxs=>ret (x :: xs) else compG g st tst elt r
def Ff (n:Nat)(fr:List Nat)(f:M (Gd×List D))(st:D->M Unit)(tst:M Bool)(elt:M D):M (List D):=bnd f λp t=>match compG p.1 st tst elt p.2 ⟨cenv n fr t.env,t.S⟩ with
 | some (xs,t')=>if xs.length<=LIM then some (xs,{ t with S:=t'.S }) else none
 | none=>none
structure ItOk3 (K:PySem.W.Frag)(J:It)(g:Gd)(c:Cf)(H:Hp)(ds:List D):Prop where
 go:∀c' H' S' (i:Nat),Ext c H c' H'->SInv K c' S' H'->Gon g S'->i < ds.length->J.go i H'
 yld:∀c' H' S' (i:Nat) x H'' d,Ext c H c' H'->SInv K c' S' H'->Gon g S'->ds[i]?=some d->J.yld i H' x H''->∃p vs es,x = .ref p/\H' p=none/\H''=upd H' p (.tup vs)/\d = .tup es/\Reps K c' H' vs es
 stop:∀c' H' S',Ext c H c' H'->SInv K c' S' H'->Gon g S'->J.stop ds.length H'
inductive RI3 (K:PySem.W.Frag)(f:M (Gd×List D))(σ:L2.St)(H:Hp)(R:It->Hp->Prop):Prop where
 | mk (Oo:Addr->Prop) (c:Cf) (t:T) (fi:FInv K Oo c t σ H) (p:Gd×List D) (t':T) (e:f t=some (p,t')) (k:∀J H' c',FInv K Oo c' t' σ H'->Stp Oo c H c' H'->ItOk3 K J p.1 c' H' p.2->R J H'):RI3 K f σ H R
section
variable {X:Cx}{e a b tg iter elt:Expr}{ifs:List Expr}{pos:Pos}{scope:Scope}{N':List Str}{n:Nat}{fr:List Nat}{st:D->M Unit}{tst:M Bool}{el:M D}
end
structure ItOkG (K:PySem.W.Frag)(J:It)(g:Gd)(c:Cf)(H:Hp)(ds:List D):Prop where
 go:∀c' H' S' (i:Nat),Ext c H c' H'->SInv K c' S' H'->Gon g S'->i < ds.length->J.go i H'
 yld:∀c' H' S' (i:Nat) x H'' d,Ext c H c' H'->SInv K c' S' H'->Gon g S'->ds[i]?=some d->J.yld i H' x H''->H''=H'/\Rep K c' H' x d
 stop:∀c' H' S',Ext c H c' H'->SInv K c' S' H'->Gon g S'->J.stop ds.length H'
theorem ItOk.toG {K:PySem.W.Frag}{J:It}{g:Gd}{c:Cf}{H:Hp}{ds:List D}(h:ItOk K J c H ds):ItOkG K J g c H ds:=
 ⟨λc' H' _ i e _ _=>h.go c' H' i e,λc' H' _ i x H'' d e _ _=>h.yld c' H' i x H'' d e,λc' H' _ e _ _=>h.stop c' H' e⟩
def RIG (K:PySem.W.Frag)(f:M (Gd×List D)):TI:=λσ H R=>∃Oo c t,FInv K Oo c t σ H/\∃p t',f t=some (p,t')/\∀J H' c',FInv K Oo c' t' σ H'->Stp Oo c H c' H'->ItOkG K J p.1 c' H' p.2->R J H'
def forG (g:Gd)(st:D->M Unit)(b:M Out):List D->M Out
 | []=>bnd (chk g) λ_=>ret .next
 | d :: r=>bnd (chk g) λ_=>bnd (st d) λ_=>bnd b λo=>match o with
   | .next=>forG g st b r
   | .cont=>forG g st b r
   | .brk=>ret .next
   | .ret x=>ret (.ret x)
def IY (f:M (Gd×List D))(st:D->M Unit)(b:M Out):M Out:=bnd f λp=>forG p.1 st b p.2
theorem RS.forG {μ:Cf->Hp->D->(V->Hp->Prop)->Prop}{K:PySem.W.Frag}{f:M (Gd×List D)}{st:D->M Unit}{b:M Out}{E:Ends}{σ:L2.St}{H:Hp}(q:RSg K μ (IY f st b) E σ H):Sx (RIG K f) (RG K st) (RSg K μ b) E σ H:=by
 obtain ⟨Oo,c,t,fi,o,t',eq,k⟩:=q;obtain ⟨pg,t1,e1,eq⟩:=Af eq;refine ⟨Oo,c,t,fi,pg,t1,e1,λJ H1 c1 f1 s1 it=>?_⟩;obtain ⟨g,ds⟩:=pg;dsimp only at eq it;refine ⟨λi m σ' H'=>m=ds.length - i/\i<=ds.length/\∃c' t2,FInv K Oo c' t2 σ' H'/\Stp Oo c1 H1 c' H'/\F2.forG g st b (ds.drop i) t2=some (o,t'),⟨_,rfl,um0 _,c1,t1,f1,.refl,by rw [uj5];exact eq⟩,?_⟩;rintro i m σ' H' ⟨rfl,hi,c',t2,f2,s2,e2⟩
 by_cases hlt:i < ds.length
 ·rw [ub1 hlt] at e2;unfold F2.forG at e2;obtain ⟨u0,t0,e0,e2⟩:=Af e2;obtain ⟨hon,ht0⟩:=Gb e0;rw [ht0] at e2;clear e0 ht0;refine .inr ⟨it.go c' H' _ i s2.ext f2.s hon hlt,λσ3 H3=>∃c3 t3,FInv K Oo c3 t3 σ3 H3/\Stp Oo c1 H1 c3 H3/\F2.forG g st b (ds.drop (i + 1)) t3=some (o,t'),λσ3 H3 h=>⟨ds.length - (i + 1),by lia,rfl,hlt,h⟩,λx H'' hy=>?_⟩;obtain ⟨rfl,rx⟩:=it.yld c' H' _ i x H'' _ s2.ext f2.s hon (ub3 hlt) hy;obtain ⟨u,t3,e3,e2⟩:=Af e2;obtain ⟨o4,t4,e4,e2⟩:=Af e2;refine ⟨Oo,c',t2,_,f2,rx,t3,e3,λσ3 H3 c3 f3 s3=>?_⟩;refine ⟨Oo,c3,t3,f3,o4,t4,e4,λσ5 H5 c5 f5 s5=>?_⟩;have s':=(s2.trans s3).trans s5
  cases o4 with
  | next=>exact ⟨c5,t4,f5,s',e2⟩
  | cont=>exact ⟨c5,t4,f5,s',e2⟩
  | brk=>cases e2;exact k σ5 H5 c5 f5 (s1.trans s')
  | ret r=>cases e2;exact k σ5 H5 c5 f5 (s1.trans s')
 ·have hi':i=ds.length:=by lia
  subst hi';rw [ug9] at e2;unfold F2.forG at e2;obtain ⟨u0,t0,e0,e2⟩:=Af e2;obtain ⟨hon,ht0⟩:=Gb e0;rw [ht0] at e2;clear e0 ht0
  cases e2
  exact .inl ⟨it.stop c' H' _ s2.ext f2.s hon,k σ' H' c' f2 (s1.trans s2)⟩
theorem RF.compG {K:PySem.W.Frag}{n:Nat}{fr:List Nat}{f:M (Gd×List D)}{st:D->M Unit}{tst:M Bool}{elt:M D}{σ:L2.St}{H:Hp}{Q:VK}(q:RF K (Ff n fr f st tst elt) σ H Q):Of (RIG K f) (RG K st) (RT K tst) (RE K elt) (FJ n fr) σ H Q:=by
 obtain ⟨Oo,c,t,fi,xs,t',eq,k⟩:=q;obtain ⟨pg,t1,e1,eq⟩:=Af eq;refine ⟨Oo,c,t,fi,pg,t1,e1,λJ H1 c1 f1 s1 it=>?_⟩;obtain ⟨g,ds⟩:=pg;dsimp only at eq it
 cases e3:F2.compG g st tst elt ds ⟨cenv n fr t1.env,t1.S⟩ with
 | none=>rw [e3] at eq;cases eq
 | some p=>
   obtain ⟨ys,t3⟩:=p;rw [e3] at eq;dsimp only at eq
   split at eq
   case isFalse=>cases eq
   next hl=>
   cases eq
   refine ⟨λi m acc σ' H'=>m=ds.length - i/\i<=ds.length/\∃c' t2 zs rest,FInv K c1.O c' t2 σ' H'/\Stp c1.O c1 H1 c' H'/\Reps K c' H' acc zs/\F2.compG g st tst elt (ds.drop i) t2=some (rest,t3)/\xs=zs++rest,
    ⟨_,rfl,um0 _,c1,_,[],xs,IU f1,.refl,.nil,by rw [uj5];exact e3,rfl⟩,?_⟩
   rintro i m acc σ' H' ⟨rfl,hi,c',t2,zs,rest,f2,s2,ra,e2,ez⟩;have hacc:acc.length<=sizeLine:=by
    have:zs.length<=xs.length:=by rw [ez,ue6];exact uh1 _ _
    rw [ra.length];exact ul1 this (ul1 hl C9)
   refine ⟨hacc,?_⟩
   by_cases hlt:i < ds.length
   ·rw [ub1 hlt] at e2;unfold F2.compG at e2;obtain ⟨u0,t0,e0,e2⟩:=Af e2;obtain ⟨hon,ht0⟩:=Gb e0;rw [ht0] at e2;clear e0 ht0;refine .inr ⟨it.go c' H' _ i s2.ext f2.s hon hlt,λx H'' hy=>?_⟩;obtain ⟨rfl,rx⟩:=it.yld c' H' _ i x H'' _ s2.ext f2.s hon (ub3 hlt) hy;obtain ⟨u,t4,e4,e2⟩:=Af e2;obtain ⟨kb,t5,e5,e2⟩:=Af e2;refine ⟨c1.O,c',t2,_,f2,rx,t4,e4,λσ3 H3 c3 f3 s3=>⟨c1.O,c3,t4,f3,kb,t5,e5,λH4 c4 f4 s4=>?_⟩⟩
    cases kb with
    | false=>
      rw [if_neg ue3] at e2 ⊢;exact ⟨ds.length - (i + 1),by lia,rfl,hlt,c4,t5,zs,rest,f4,(s2.trans s3).trans s4,ra.mono (s3.trans s4).ext,e2,ez⟩
    | true=>
      rw [if_pos rfl] at e2 ⊢;obtain ⟨x6,t6,e6,e2⟩:=Af e2;obtain ⟨r7,t7,e7,e2⟩:=Af e2
      cases e2
      refine ⟨c1.O,c4,t5,f4,x6,t6,e6,λv H5 c5 f5 s5 rv=>?_⟩;exact ⟨ds.length - (i + 1),by lia,rfl,hlt,c5,t6,zs++[x6],r7,f5,((s2.trans s3).trans s4).trans s5,(ra.mono ((s3.trans s4).trans s5).ext).append (.cons rv .nil),e7,by rw [ez,uf6];rfl⟩
   ·have hi':i=ds.length:=by lia
    subst hi';rw [ug9] at e2;unfold F2.compG at e2;obtain ⟨u0,t0,e0,e2⟩:=Af e2;obtain ⟨hon,ht0⟩:=Gb e0;rw [ht0] at e2;clear e0 ht0
    cases e2
    refine .inl ⟨it.stop c' H' _ s2.ext f2.s hon,λp hp _=>?_⟩;obtain ⟨si,ext⟩:=f2.leave;obtain ⟨f6,s6⟩:=f1.after si ⟨s2.ext.trans ext,s2.oo⟩ (λ_=>Iff.rfl);rw [ui1] at ez;subst ez;exact k p acc H' _ f6 (s1.trans s6) (ra.mono ext) hp
def GX:D->M (Gd×List D)
 | .obj k=>λt=>match t.S[k]? with
   | some (.lst ds)=>some ((some (k,ds),ds),t)
   | _=>none
 | d=>bnd (Dg d) λds=>ret (none,ds)
def JI (f:M D):M (Gd×List D):=bnd f GX
theorem ItOkG.lst {K:PySem.W.Frag}{g:Gd}{c:Cf}{H:Hp}{p:Addr}{ds:List D}(r:∀c' H' S',Ext c H c' H'->SInv K c' S' H'->Gon g S'->∃vs,SqL K H' p vs/\Reps K c' H' vs ds):ItOkG K (Itl K p) g c H ds:=by
 refine ⟨λc' H' S' i ex si on hi=>?_,λc' H' S' i x H'' d ex si on hd hy=>?_,λc' H' S' ex si on=>?_⟩
 ·obtain ⟨vs,h1,h2⟩:=r c' H' S' ex si on;obtain ⟨v,e,_⟩:=h2.at (ub3 hi);exact ⟨vs,v,h1,e⟩
 ·obtain ⟨vs,h1,h2⟩:=r c' H' S' ex si on;obtain ⟨rfl,hx⟩:=hy;exact ⟨rfl,h2.get (hx vs h1) hd⟩
 ·obtain ⟨vs,h1,h2⟩:=r c' H' S' ex si on;exact ⟨vs,h1,by rw [h2.length];exact ul9 _⟩
section
variable {X:Cx}{e a b tg iter elt:Expr}{ifs:List Expr}{pos:Pos}{scope:Scope}{N':List Str}{n:Nat}{fr:List Nat}{st:D->M Unit}{tst:M Bool}{el:M D}
theorem TW {μ:Cf->Hp->D->(V->Hp->Prop)->Prop}{body:List Stmt}{f:M (Gd×List D)}{b:M Out}(hp:PassesOwn (model X.prog X.w) X.A X.env X.xe)(hc:X.calm=true)(hi:PI X tg iter (RIG X.K f))(hg:PG X tg (RG X.K st))(hb:PSs X body (RSg X.K μ b))
 (hs:∀x,foldedSetIterable iter X.env x=pure x:=by intro _;rfl):PS X (.For tg iter body [] pos) (RSg X.K μ (IY f st b)):=
 A9 (PZ hp hc hi hg hb hs) λ_ _ _ q=>RS.forG q
theorem LD {f:M (Gd×List D)}(O:CmpOk X scope N' (FJ n fr))(hc:X.calm=true)(hi:PI X tg iter (RIG X.K f))
 (hg:∀cl C s2 H2 fp,PG (Cy X N' scope cl C s2 H2 fp) tg (RG X.K st)) (ht:∀cl C s2 H2 fp,PIf (Cy X N' scope cl C s2 H2 fp) ifs (RT X.K tst)) (he:∀cl C s2 H2 fp,PE (Cy X N' scope cl C s2 H2 fp) elt (RE X.K el))
 (hs:∀x,foldedSetIterable iter X.env x=pure x:=by intro _;rfl):PE X (.ListComp elt [⟨tg,iter,ifs,0⟩] scope pos) (RF X.K (Ff n fr f st tst el)):=
 AD (M5 O hc hi hg ht he hs) λ_ _ _ q=>RF.compG q
theorem TH {f:M D}(h:PE X e (RE X.K f)):PI X tg e (RIG X.K (JI f)):=
 Iy (PR h) λσ H R z=>by
  obtain ⟨Oo,c,t,fi,ds,t',eq,k⟩:=z;obtain ⟨d,t1,e1,eq⟩:=Af eq;refine ⟨Oo,c,t,fi,d,t1,e1,λv H1 c1 f1 s1 rv=>?_⟩
  cases rv with
  | @obj a kk hk=>
    unfold GX at eq;dsimp only at eq
    split at eq
    ·next es hS=>
     cases eq
     obtain ⟨ws,g1,g3⟩:=f1.s.obs kk a _ hk hS;refine .inl ⟨a,rfl,⟨ws,SqL.of g1⟩,k _ H1 c1 f1 s1 (ItOkG.lst λc' H' S' ex si on=>?_)⟩;obtain ⟨us,q1,q2⟩:=si.obs kk a _ (ex.io _ _ hk) (on kk es rfl);exact ⟨us,SqL.of q1,q2⟩
    ·cases eq
  | @lst p vs ds' h1 h2 h3=>
    cases eq
    exact .inl ⟨p,rfl,⟨vs,SqL.of h1⟩,k _ H1 c1 f1 s1 (ItOk.toG (ItOk.lst λc' H' ex=>⟨vs,SqL.of (ex.keep _ _ h1 h2),h3.mono ex⟩))⟩
  | @scr p ns h1=>
    cases eq
    exact .inl ⟨p,rfl,⟨_,h1.sq⟩,k _ H1 c1 f1 s1 (ItOk.toG (ItOk.lst λc' H' ex=>⟨_,(h1.mono ex).sq,Reps.ints ns⟩))⟩
  | @tup p vs ds' h1 h2 h3=>
    cases eq
    exact .inr (.inl ⟨p,rfl,⟨vs,SqT.of h1⟩,k _ H1 c1 f1 s1 (ItOk.toG (ItOk.tup λc' H' ex=>⟨vs,SqT.of (ex.keep _ _ h1 h2),h3.mono ex⟩))⟩)
  | str x=>
    cases eq
    exact .inr (.inr ⟨x,rfl,k _ H1 c1 f1 s1 (ItOk.toG ItOk.str)⟩)
  | _=>cases eq
end
def bv:List D->M D
 | [d,.tup [.ty m1,.ty m2]]=>λt=>match d with
   | .obj k=>match t.S[k]? with
     | some (.lst _)=>match Fk "list" m1,Fk "list" m2 with
       | some b1,some b2=>some (.bl (b1 || b2),t)
       | _,_=>none
     | _=>none
   | d=>match tyD d with
     | some n=>match Fk n m1,Fk n m2 with
       | some b1,some b2=>some (.bl (b1 || b2),t)
       | _,_=>none
     | none=>none
 | _=>fail
end F2
namespace L2
open PySem PySem.Spec PyProof.Rows
section
variable {X:Cx}{k:Nat}{f l I S:Addr}{fd:FuncData}{ps:List Str}{sp:Sp}{pins:List (Addr×Obj)}{σ:St}{H:Hp}{s:Shared}{Q:VK}{oS oI oS' oI':Obj}{h':Heap}{t':Nat}
end
end L2
namespace F2
open PySem L2 PySem.Spec PySem.W
section
variable {K:PySem.W.Frag}{g:Fn}
end
end F2
namespace F2
open PySem L2 PySem.Spec PyProof.Rows
section
variable {X:Cx}{e:Expr}{pos:Pos}
def L4 (f:M D):M D:=bnd f λo=>match o with
 | .obj k=>λt=>match t.S[k]? with
   | some (.lst _)=>some (.non,{ t with S:=t.S.set k (.lst []) })
   | _=>none
 | _=>fail
theorem OR {o:Expr}{f:M D}{apos cpos:Pos}(ho:PE X o (RE X.K f))
 (hbase:attributeBase o "clear" X.env (eval o X.env)=eval o X.env:=by rfl) (hline:(apos.endLine == cpos.line)=true:=by rfl) :
 PE X (.Call (.Attribute o "clear" apos) [] [] cpos) (RE X.K (L4 f)):=
 AD (WV ub6 PySem.F.slot_list_clear PySem.F.type_list_clear Rx ho hbase hline) λσ H Q z=>by
  obtain ⟨Oo,c,t,fi,r,t',eq,k⟩:=z;obtain ⟨d,t1,e1,eq⟩:=Af eq;refine ⟨Oo,c,t,fi,d,t1,e1,λv H1 c1 f1 s1 rv=>?_⟩
  cases rv with
  | @obj a kk hk=>
    dsimp only at eq
    split at eq
    ·next xs hS=>
     cases eq
     obtain ⟨vs,g1,g2⟩:=f1.s.obs kk a _ hk hS;refine ⟨.inl ⟨rfl,vs,SqL.of g1⟩,a,vs,rfl,rfl,g1,?_⟩;obtain ⟨f2,s2⟩:=f1.wrObj (o:=.lst []) (u:=.lst []) hk λc' H' ext hu=>⟨[],hu,.nil⟩;exact k _ _ c1 f2 (s1.trans s2) .non
    ·cases eq
  | _=>cases eq
end
section
variable {X:Cx}{e elt tg iter:Expr}{pos:Pos}{scope:Scope}{N':List Str}{ifs:List Expr}{n:Nat}{fr:List Nat}{f:M (List D)}{st:D->M Unit}{tst:M Bool}{el:M D}
end
section
variable {X:Cx}{e:Expr}
end
end F2
namespace L2
open PySem PySem.Spec PyProof.Rows
section
variable {X:Cx}{e el eu ek:Expr}{p2 pos:Pos}{te:TE}{tl tu tk:TO}
end
end L2
namespace F2
open PySem L2 PySem.Spec
end F2
namespace F2
open PySem L2 PySem.Spec PyProof.Rows
section
variable {X:Cx}{elt tg iter:Expr}{pos:Pos}{scope:Scope}{N':List Str}{ifs:List Expr}{n:Nat}{fr:List Nat}{st:D->M Unit}{tst:M Bool}{el:M D}
end
end F2
namespace L2
open PySem PySem.Spec PyProof.Rows
abbrev EnO (h:Heap)(e it:Addr)(i:Int)(x:Value)(a:Addr)(q:Bool):Prop:=h.get? e=some { cls:=.type "enumerate",dict:=none,data:=.fields #[rawInt a,.bool q,.ref it,rawInt i,.none,x],slots:=#[] }
section
variable {prog:Program}{w:World}{A:Around}{E:Value->Shared->Prop}{s:Shared}
end
inductive EnS (h:Heap)(e it:Addr)(i:Nat):Prop where
 | new (old:Value) (z:i=0) (h1:IsEnum h e it i old)
 | out (old:Value) (a0:Addr) (q:Bool) (h1:EnO h e it i old a0 q)
end L2
namespace F2
open PySem L2 PySem.Spec SeqAt
section
variable {A:Around}{s:Shared}
end
end F2
namespace PySem
open Sem (wp)
section
variable {prog:Program}{w:World}{A:Around}{E:Value->Shared->Prop}{s:Shared}
theorem F.lri_no_len:typeLookup (.type "list_reverseiterator") "__len__" = pure none:=by rw [typeLookup_type,builtinLookup_eq_fast];kernel_rfl
theorem F.lri_hint:typeLookup (.type "list_reverseiterator") "__length_hint__" = pure (some (.builtin "list_reverseiterator.__length_hint__")):=by rw [typeLookup_type,builtinLookup_eq_fast];kernel_rfl
theorem F.lri_self:isSubtype (.type "list_reverseiterator") (.type "list_reverseiterator")=pure true:=by rw [isSubtype_type];kernel_rfl
theorem Ix {R:Result->Shared->Prop}(hh:A.handled=none){I l:Addr}{items:Array Value}(S:Addr)(res:Value)(c₀:Nat)(hI:s.heap.IsRevIter I l ((items.size:Int) - 1))(hl:s.heap.IsList l items)(hne:l≠I)(hSI:S≠I)(hSl:S≠l)(hS:s.heap.get? S=some { cls:=.type "list",data:=.seq #[] c₀ })
 (hR:∀h' tk acc' c',(∀b o,b≠S->b≠I->s.heap.get? b=some o->h'.get? b=some o)->h'.get? S=some { cls:=.type "list",dict:=none,data:=.seq acc' c',slots:=#[] }->
   ItemsOf (λi v=>items[items.size - 1 - i]?=some v) acc' items.size->R (.ok (.ret res)) { s with heap:=h',toks:=tk }) (hn:items.size<=sizeLine:=by size_fits) :
 wpAny (model prog w) A.in1 (Builtin.List.listExtendWith (.ref S) (.ref I) res)
  (λfin s'=>match fin with | .done f=>R (.ok f) s' | .again c'=>c'.quiet=true/\codeAny (model prog w) A c' R s') (λe s'=>R (.error e) s') s:=by
 have hSf:S∉[I,l]:=λhm=>by simp only [uj8,uh3,or_false] at hm;exact hm.elim hSI hSl
 unfold Builtin.List.listExtendWith;refine um3 (wpAny_typeOf hI.typeIs ?_);have h1:Builtin.List.listSameRef (.ref S) (.ref I)=false:=by simp [Builtin.List.listSameRef,hSI]
 have h2:(Value.type "list_reverseiterator" == Value.type "list")=false:=by decide
 have h3:(Value.type "list_reverseiterator" == Value.type "tuple")=false:=by decide
 simp only [h1,h2,h3,uk0,ue7,if_false];refine um3 (wpAny_pyIter_revIter hI ?_);refine um3 (uk8 ?_);unfold Builtin.List.listLengthHint;refine um3 (wpAny_specialOf hI.typeIs F.lri_no_len ?_)
 wp_delta
 refine um3 (wpAny_specialOf hI.typeIs F.lri_hint ?_)
 wp_delta
 refine um3 (wpAny_isInstance hI.typeIs (b:=true) F.lri_self ?_);simp only [Bool.not_true,ue7,if_false];rw [if_pos (by decide +kernel),if_neg (by decide)];refine um4 ?_;have fin:∀h2:Heap,(∃c1,h2.get? S=some { cls:=.type "list",data:=.seq #[] c1 })->(∀b o,b≠S->s.heap.get? b=some o->h2.get? b=some o)->wpAny (model prog w) A.in1 (again (.builtin "list.extend.loop" ⟨[.ref S,.ref I,res],[]⟩)) (λfin s'=>match fin with | .done f=>R (.ok f) s' | .again c'=>c'.quiet=true/\codeAny (model prog w) A c' R s') (λe s'=>R (.error e) s') { s with heap:=h2 }:=λh2 z9 oth=>by
  obtain ⟨c1,hS2⟩:=z9;refine um4 ⟨plainId_quiet F.plain_extend_loop _,codeAny_extend_loopS (s:={ s with heap:=h2 }) (Walks.listRev (A:=A.in1) hh I l hne items).toS hn _ hSf _ items.size 0 _ _ rfl (um0 _) ⟨um0 _,?_,hl.at λo e=>oth l o (Ne.symm hSl) e⟩ hS2 (ItemsOf.nil _) λs' acc' c' hm hS' hacc=>?_⟩
  ·rw [show (items.size:Int) - 1 - ((0:Nat):Int)=(items.size:Int) - 1 by lia];exact hI.at λo e=>oth I o (Ne.symm hSI) e
  rw [Moved.eq_with hm];refine hR s'.heap s'.toks acc' c' (λb ob hb hb2 e=>hm.heap b ob (λhmem=>?_) (oth b ob hb e)) hS' hacc;simp only [uj8,uh3,or_false] at hmem;exact hmem.elim hb hb2
 split
 ·refine um3 (wpAny_rule ?_);refine um3 ?_;show wpAny _ A.in1 (updateSeq S (·.push .none) >>= λ_=>updateSeq S (·.pop)) _ _ _;refine um3 (wpAny_updateSeq hS rfl ?_);have hS₂:=ud0 (Obj.mapSeq (·.push Value.none)) hS rfl;refine wpAny_updateSeq (hz:=by seq_fits) hS₂ rfl ?_;have hS₃:=ud0 (Obj.mapSeq (·.pop)) hS₂ rfl;exact fin _ ⟨_,hS₃⟩ λb o hb e=>(uc1 _ _ (Ne.symm hb)).trans ((uc1 _ _ (Ne.symm hb)).trans e)
 ·exact fin s.heap ⟨_,hS⟩ λb o _ e=>e
theorem GF {R:Result->Shared->Prop}(hh:A.handled=none){I l:Addr}{items:Array Value}(S:Addr)(hI:s.heap.IsRevIter I l ((items.size:Int) - 1))(hl:s.heap.IsList l items)(hne:l≠I)(hSI:S≠I)(hSl:S≠l)(hS:s.heap.get? S=some { cls:=.type "list",data:=.seq #[] })
 (hR:∀h' tk acc' c',(∀b o,b≠S->b≠I->s.heap.get? b=some o->h'.get? b=some o)->h'.get? S=some { cls:=.type "list",dict:=none,data:=.seq acc' c',slots:=#[] }->
   ItemsOf (λi v=>items[items.size - 1 - i]?=some v) acc' items.size->R (.ok (.ret .none)) { s with heap:=h',toks:=tk }) (hn:items.size<=sizeLine:=by size_fits) :
 wpAny (model prog w) A.in1 (Builtin.«list.__init__» ⟨[.ref S,.ref I],[]⟩)
  (λfin s'=>match fin with | .done f=>R (.ok f) s' | .again c'=>c'.quiet=true/\codeAny (model prog w) A c' R s') (λe s'=>R (.error e) s') s:=by
 show wpAny _ _ (do let old <-Builtin.List.listItems (.ref S);Builtin.List.listUpdate (.ref S) (λ_=>#[]);letGo old.toList.reverse;Builtin.List.listExtendWith (.ref S) (.ref I) .none) _ _ s;refine um3 ?_;unfold Builtin.List.listItems;refine um3 (wpAny_seqItems hS rfl (um4 ?_));show wpAny _ _ (updateSeq S (λ_=>#[]) >>= λ_=>letGo (#[]:Array Value).toList.reverse >>= λ_=>Builtin.List.listExtendWith (.ref S) (.ref I) .none) _ _ s;refine um3 (wpAny_updateSeq hS rfl ?_);have hS₂:=ud0 (Obj.mapSeq (λ_=>(#[]:Array Value))) hS rfl;have oth:∀b o,b≠S->s.heap.get? b=some o->(s.heap.update S (Obj.mapSeq (λ_=>(#[]:Array Value)))).get? b=some o:=
  λb o hb e=>(uc1 _ _ (Ne.symm hb)).trans e
 refine um3 (wpAny_letGo ?_);refine Ix (hn:=hn) hh S .none _ (hI.at λo e=>oth I o (Ne.symm hSI) e) (hl.at λo e=>oth l o (Ne.symm hSl) e) hne hSI hSl hS₂ λh' tk acc' c' hk hS' hacc=>?_;exact hR h' tk acc' c' (λb o hb hb2 e=>hk b o hb hb2 (oth b o hb e)) hS' hacc
theorem JG {Q:Value->Shared->Prop}(hh:A.handled=none){I l:Addr}{items:Array Value}(hI:s.heap.IsRevIter I l ((items.size:Int) - 1))(hl:s.heap.IsList l items)(hne:l≠I)
 (hQ:∀h' tk acc' c',(∀b o,b≠I->s.heap.get? b=some o->h'.get? b=some o)->
   h'.get? s.heap.objs.size=some { cls:=.type "list",dict:=none,data:=.seq acc' c',slots:=#[] }->ItemsOf (λi v=>items[items.size - 1 - i]?=some v) acc' items.size->Q (.ref s.heap.objs.size) { s with heap:=h',toks:=tk }) (hn:items.size<=sizeLine:=by size_fits) :
 wpAny (model prog w) A (call (.type "list") [.ref I]) Q E s:=by
 refine callType_codes (Q₁:=λobj s₁=>obj = .ref s.heap.objs.size/\s₁ = { s with heap:=s.heap.push { cls:=.type "list",data:=.seq #[] } }) F.called_list (F.typeCall_list_1 _) F.entry_list_init
  (code_list_new _ ⟨rfl,rfl⟩) λobj s₁ h₁=>?_
 obtain ⟨rfl,rfl⟩:=h₁;have hS:(s.heap.push { cls:=.type "list",data:=.seq #[] }).get? s.heap.objs.size=some { cls:=.type "list",data:=.seq #[] }:=ud7 _ rfl;have lI:I < s.heap.objs.size:=by obtain ⟨o,ho,_⟩:=hI;exact uk9 ho
 have ll:l < s.heap.objs.size:=by obtain ⟨o,ho,_⟩:=hl;exact uk9 ho
 refine ⟨⟨_,hS,rfl⟩,F.args_list_init_2 _ _,GF (A:=A.in1) (hn:=hn) hh _ (hI.at λo e=>ub9 _ e) (hl.at λo e=>ub9 _ e) hne (ul2 lI) (ul2 ll) hS λh' tk acc' c' hk hS' hacc=>?_⟩;exact ⟨rfl,hQ h' tk acc' c' (λb o hb e=>hk b o (ul0 (uk9 e)) hb (ub9 _ e)) hS' hacc⟩
end
end PySem
namespace L2
open PySem PySem.Spec PyProof.Rows
section
variable {X:Cx}{e:Expr}{ta:TA}{p p2 pos2 pos:Pos}
theorem SG {ys:List V}{its:List Value}{acc:Array Value}(r:Vals ys its)(h:ItemsOf (λi v=>its.toArray[its.toArray.size - 1 - i]?=some v) acc its.toArray.size):Vals ys.reverse acc.toList:=by
 have e:acc.toList=its.reverse:=by
  refine List.ext_getElem? λj=>?_
  by_cases hj:j < its.length
  ·have hj2:j < acc.size:=by rw [h.1];simpa using hj
   have h2:=h.2 j acc[j] (Array.getElem?_eq_getElem hj2);rw [Array.getElem?_toList,Array.getElem?_eq_getElem hj2,List.getElem?_reverse hj];simpa using h2.symm
  ·rw [ud1 (by rw [ud6,h.1];simpa using hj),ud1 (by rw [List.length_reverse];lia)]
 rw [e];exact r.rev
theorem NX (hc:X.calm=true)(hgl:Gl X "list")(hml:X.mg "list" = none)(hgr:Gl X "reversed")(hmr:X.mg "reversed" = none)(ha:PA X [e] ta)(he:starEach [e] X.env=[(false,eval e X.env)]) :
 PE X (.Call (.Name "list" p) [.Call (.Name "reversed" p2) [e] [] pos2] [] pos) (λσ H Q=>ta σ H λxs H1=>∃a ys,xs=[.ref a]/\SqL X.K H1 a ys/\∀l,H1 l=none->Q (.ref l) (upd H1 l (.lst ys.reverse))):=by
 intro pins s σ H Q I h;refine wpAny_Call_Name_kw (Fl I hgl hml (show bootBuiltins "list" = some (.type "list") by decide +kernel) ?_);refine callWith_type1 ?_ rfl rfl;show wpAny _ _ (spliced ((false,eval (.Call (.Name "reversed" p2) [e] [] pos2) X.env) :: backTo pos (starEach [] X.env))) _ _ s;refine Calls.spliced_cons ?_;refine wpAny_Call_Name_kw (Fl I hgr hmr (show bootBuiltins "reversed" = some (.type "reversed") by decide +kernel) ?_);refine callWith_type1 (thn (ha pos2 pins s σ H _ I h) λus s1 z9=>?_) he rfl;obtain ⟨vs,H1,I1,r1,q1⟩:=z9;obtain ⟨a,ys,ev,hq,q⟩:=q1;subst ev;obtain ⟨u,rfl,ru⟩:=FG r1
 cases ru
 obtain ⟨its,rv,pl,hz⟩:=I1.list hq;have hil:=pl.isList;have la:a < s1.heap.objs.size:=by obtain ⟨o,ho,_⟩:=hil;exact uk9 ho
 refine call_reversed_list hil ?_;refine Calls.spliced_nil ?_;have hsz:(s1.heap.push (revObj a ((its.toArray.size:Int) - 1))).objs.size=s1.heap.objs.size + 1:=uj3 ..;refine JG (I.ok.hd hc) (items:=its.toArray) ⟨_,ud7 _ rfl,rfl,rfl⟩ (hil.at λo e=>ub9 _ e) (ul0 la) (λh' tk acc' c' kk hS hacc=>?_) (by rw [uf2,<-rv.length];exact hz);rw [hsz] at hS ⊢;refine ⟨.ref (s1.heap.objs.size + 1),_,I1.laid (t':=tk) (λb o e=>kk b o (ul0 (uk9 e)) (ub9 _ e)) (um1 _) (show ObjOk X.prog X.w _ h' _ (.lst ys.reverse) from ⟨?_,acc'.toList,c',SG rv hacc,?_⟩),rfl,q _ (I1.hok.fresh (um1 _))⟩
 ·rw [List.length_reverse];exact hz
 ·simpa using hS
def Td:V->List V->Hp->VK->Prop:=λx xs H Q=>∃z y,x = .str z/\xs=[.str y]/\Q (.int (Txt.find z y)) H
theorem Uc:MtR X "str.find" Td:=by
 intro pins s σ H x xs v us Q I rx rs h;obtain ⟨z,y,rfl,rfl,q⟩:=h;obtain ⟨t,rfl⟩:=rx;obtain ⟨u,rfl,t',rfl⟩:=FG rs;exact SC.find ⟨.int _,H,I.tok _,⟨_,rfl⟩,q⟩
end
end L2
namespace F2
open PySem L2 PySem.Spec PyProof.Rows
section
variable {X:Cx}{K:PySem.W.Frag}{e:Expr}{p p2 pos2 pos:Pos}
def JV:List D->M (List D)
 | [.lst ds]=>ret ds.reverse
 | _=>fail
theorem Sn:IB K (λxs H Q=>∃a ys,xs=[.ref a]/\SqL K H a ys/\∀l,H l=none->Q (.ref l) (upd H l (.lst ys.reverse))) JV:=λ{Oo c t σ H xs ds r t' Q} f rx eq k=>by
 unfold JV at eq
 split at eq
 ·next ds=>
  obtain ⟨v,rfl,rv⟩:=EA rx
  cases eq
  cases rv with
  | @lst a vs ds h1 h2 h3=>exact ⟨a,vs,rfl,SqL.of h1,λq hq=>k q _ H c f .refl h3.rev hq⟩
 ·cases eq
theorem NF {f:M (List D)}(hc:X.calm=true)(hgl:Gl X "list")(hml:X.mg "list" = none)(hgr:Gl X "reversed")(hmr:X.mg "reversed" = none)(ha:PA X [e] (RA X.K f))(h1:AV e=false:=by rfl) :
 PE X (.Call (.Name "list" p) [.Call (.Name "reversed" p2) [e] [] pos2] [] pos) (RF X.K (fBF f JV)):=
 AD (NX hc hgl hml hgr hmr ha (A3 h1)) λ_ _ _ q=>RF.callB Sn q
def findM (f:M D)(g:M (List D)):M D:=bnd f λo=>bnd g λas=>match o,as with
 | .str z,[.str y]=>ret (.int (Txt.find z y))
 | _,_=>fail
theorem RE.findM {f:M D}{g:M (List D)}{σ:L2.St}{H:Hp}{Q:VK}(q:RE K (F2.findM f g) σ H Q):tBM K "str" Td (RE K f) (RA K g) σ H Q:=by
 obtain ⟨Oo,c,t,fi,r,t',eq,k⟩:=q;obtain ⟨d,t1,e1,eq⟩:=Af eq;obtain ⟨as,t2,e2,eq⟩:=Af eq;refine ⟨Oo,c,t,fi,d,t1,e1,λv H1 c1 f1 s1 rv=>?_⟩
 split at eq
 ·next z y=>
  cases rv
  refine ⟨rfl,Oo,c1,t1,f1,_,t2,e2,λus H2 c2 f2 s2 rus=>?_⟩;obtain ⟨w,rfl,rw'⟩:=EA rus
  cases eq
  cases rw'
  exact ⟨_,_,rfl,rfl,k _ _ c2 f2 (s1.trans s2) (.int _)⟩
 ·cases eq
theorem TB {o e:Expr}{es:List Expr}{f:M D}{g:M (List D)}{apos cpos:Pos}(ho:PE X o (RE X.K f))(ha:PA X (e :: es) (RA X.K g))
 (hbase:attributeBase o "find" X.env (eval o X.env)=eval o X.env:=by rfl)
 (hfew:((backTo cpos (starEach (e :: es) X.env)).all (λx=>!x.1) && (backToKw cpos (keywordEach [] X.env)).all (λx=>x.1.isSome) && decide ((e :: es).length + ([]:List Keyword).length + (if ([]:List Keyword).isEmpty then 0 else 1) < 30))=true:=by rfl)
 (hline:(apos.endLine == cpos.line)=true:=by rfl) (hs:starEach (e :: es) X.env=(false,eval e X.env) :: starEach es X.env:=by rfl) (hplain:(backTo cpos (starEach es X.env)).any (·.1)=false:=by rfl) :
 PE X (.Call (.Attribute o "find" apos) (e :: es) [] cpos) (RE X.K (findM f g)):=
 AD (Jf PySem.F.plainAttrs_str PySem.F.slot_str_find PySem.F.type_str_find Uc ho ha hbase hfew hline hs hplain) λ_ _ _ q=>RE.findM q
end
end F2
namespace LW
open PySem L2 F2
def FP:M Out:=
 (Am (DP (fB (Ab (Aa 0) (Ab (fC (.ty "int")) Ad)) CI) (IQ (fB (Ab (Aa 0) (Ab (fC (.ty "bool")) Ad)) CI))))
def Dm (Lq:Fn):M Out:=
 (Am (DP (Ai Lq (Ab (Aa 0) Ad)) (ED (Aa 1) (Aa 0) (Aa 2) leA leA)))
def LS (JB Lo Ln Lp C4:Fn):M Out:=
 (Ae (As 2 (Ac (Aa 0) (fC (.int 0)) ixD))
 (Ae (ifS (Aj (Ac (Aa 2) (fC (.str "nothing")) (eqS id)))
   (Am (Ac (Aa 1) (fC .non) isC))
   Ap)
 (Ae (ifS (Aj (Ac (Aa 2) (fC (.str "number")) (eqS id)))
   (Am (Ai C4 (Ab (Aa 1) (Ab (Ac (Aa 0) (fC (.int 1)) ixD) (Ab (Ac (Aa 0) (fC (.int 2)) ixD) Ad)))))
   Ap)
 (Ae (ifS (Aj (Ac (Aa 2) (fC (.str "text")) (eqS id)))
   (Am (Ai Lp (Ab (Aa 0) (Ab (Aa 1) Ad))))
   Ap)
 (Ae (ifS (Aj (Ac (Aa 2) (fC (.str "list")) (eqS id)))
   (Am (Ai Ln (Ab (Aa 0) (Ab (Aa 1) Ad))))
   Ap)
 (Ae (ifS (Aj (Ac (Aa 2) (fC (.str "pair")) (eqS id)))
   (Am (Ai Lo (Ab (Aa 0) (Ab (Aa 1) Ad))))
   Ap)
 (Am (Ai JB (Ab (Aa 0) (Ab (Aa 1) Ad))))))))))
def FO (F9:Fn):M Out:=
 (Ae (ifS (fOr (BT (Aj (fB (Ab (Aa 1) (Ab (fC (.ty "str")) Ad)) CI))) (Aj (Ac (fB (Ab (Aa 1) Ad) AN) (Ac (Aa 0) (fC (.int 1)) ixD) gtA)))
   (Am (fC (.bl false)))
   Ap)
 (Ae (BV (DR (Aa 1)) (Ay 2)
   (ifS (BT (Aj (Ai F9 (Ab (fB (Ab (Aa 2) Ad) Iq) Ad))))
   (Am (fC (.bl false)))
   Ap))
 (Am (fC (.bl true)))))
def G0:M Out:=
 (Am (DP (ED (fC (.int 32)) (Aa 0) (fC (.int 126)) leA leA) (Ac (Aa 0) (fC (.int 37)) (eqS λb=>!b))))
def FM (DY:Fn):M Out:=
 (Ae (ifS (fOr (BT (Aj (fB (Ab (Aa 1) (Ab (fC (.ty "list")) Ad)) CI))) (Aj (Ac (fB (Ab (Aa 1) Ad) AN) (Ac (Aa 0) (fC (.int 2)) ixD) gtA)))
   (Am (fC (.bl false)))
   Ap)
 (Ae (BV (DR (Aa 1)) (Ay 2)
   (ifS (BT (Aj (Ai DY (Ab (Ac (Aa 0) (fC (.int 1)) ixD) (Ab (Aa 2) Ad)))))
   (Am (fC (.bl false)))
   Ap))
 (Am (fC (.bl true)))))
def FN (DY:Fn):M Out:=
 (Ae (ifS (fOr (BT (Aj (fB (Ab (Aa 1) (Ab (fC (.ty "tuple")) Ad)) CI))) (Aj (Ac (fB (Ab (Aa 1) Ad) AN) (fC (.int 2)) (eqS λb=>!b))))
   (Am (fC (.bl false)))
   Ap)
 (Am (DP (Ai DY (Ab (Ac (Aa 0) (fC (.int 1)) ixD) (Ab (Ac (Aa 1) (fC (.int 0)) ixD) Ad))) (Ai DY (Ab (Ac (Aa 0) (fC (.int 2)) ixD) (Ab (Ac (Aa 1) (fC (.int 1)) ixD) Ad))))))
def EO (DY C4:Fn):M Out:=
 (Ae (ifS (fOr (BT (Aj (fB (Ab (Aa 1) (Ab (fC (.ty "tuple")) Ad)) CI))) (Aj (Ac (fB (Ab (Aa 1) Ad) AN) (fC (.int 3)) (eqS λb=>!b))))
   (Am (fC (.bl false)))
   Ap)
 (Ae (ifS (fOr (BT (Aj (fB (Ab (Ac (Aa 1) (fC (.int 0)) ixD) (Ab (fC (.ty "str")) Ad)) CI))) (Aj (Ac (Ac (Aa 1) (fC (.int 0)) ixD) (fC (.str "of")) (eqS λb=>!b))))
   (Am (fC (.bl false)))
   Ap)
 (Ae (ifS (BT (Aj (Ai C4 (Ab (Ac (Aa 1) (fC (.int 1)) ixD) (Ab (fC (.int 0)) (Ab (Ac (fB (Ab (Ac (Aa 0) (fC (.int 1)) ixD) Ad) AN) (fC (.int 1)) Cl) Ad))))))
   (Am (fC (.bl false)))
   Ap)
 (Am (Ai DY (Ab (Ac (Ac (Aa 0) (fC (.int 1)) ixD) (Ac (Aa 1) (fC (.int 1)) ixD) ixD) (Ab (Ac (Aa 1) (fC (.int 2)) ixD) Ad)))))))
def Fq:M Out:=
 (Am (Ac (Ac (Ac (Ac (Aa 0) (Ac (Aa 1) (fC (.int 0)) ixD) ixD) (fC (.int 1)) ixD) (Ac (Aa 1) (fC (.int 1)) ixD) ixD) (fC (.int 2)) ixD))
def Dn (DY JC:Fn):M Out:=
 (Ae (ifS (fOr (BT (Aj (fB (Ab (Aa 1) (Ab (fC (.ty "tuple")) Ad)) CI))) (Aj (Ac (fB (Ab (Aa 1) Ad) AN) (fC (.int 3)) (eqS λb=>!b))))
   (Am (fC .non))
   Ap)
 (Ae (ifS (fOr (BT (Aj (fB (Ab (Ac (Aa 1) (fC (.int 0)) ixD) (Ab (fC (.ty "str")) Ad)) CI))) (Aj (Ac (Ac (Aa 1) (fC (.int 0)) ixD) (Ac (Aa 0) (fC (.int 0)) ixD) (eqS λb=>!b))))
   (Am (fC .non))
   Ap)
 (Ae (As 2 (Ai JC (Ab (Aa 0) (Ab (Ac (Aa 1) (fC (.int 1)) ixD) Ad))))
 (Ae (ifS (fOr (Aj (Ac (Aa 2) (fC .non) isC)) (BT (Aj (Ai DY (Ab (Ac (Ac (Ac (Aa 0) (fC (.int 1)) ixD) (Aa 2) ixD) (fC (.int 1)) ixD) (Ab (Ac (Aa 1) (fC (.int 2)) ixD) Ad))))))
   (Am (fC .non))
   Ap)
 (Am (Aa 2))))))
def EQ (Mx:Fn):M Out:=
 (Ae (ifS (BT (Aj (fB (Ab (Aa 1) (Ab (fC (.ty "str")) Ad)) CI)))
   (Am (fC .non))
   Ap)
 (Ae (As 2 (Ai Mx (Ab (Aa 0) Ad)))
 (Ae (BV (CA (Ab (fB (Ab (Aa 2) Ad) AN) Ad)) (Ay 3)
   (ifS (Aj (Ac (Ac (Ac (Aa 2) (Aa 3) ixD) (fC (.int 0)) ixD) (Aa 1) (eqS id)))
   (Am (Aa 3))
   Ap))
 (Am (fC .non)))))
def Gm (GL:Fn):M Out:=
 (Am (fIf (Aj (Ai GL (Ab (Aa 0) Ad))) (AX Ad) (Ac (Aa 0) (fC (.int 1)) ixD)))
def Dl:M Out:=
 (Am (Ac (Ac (Aa 0) (fC (.int 0)) ixD) (fC (.str "end")) (eqS id)))
def Eb (BF Ek IJ:Fn):M Out:=
 (Ae (As 2 (Ac (Aa 0) (fC (.int 0)) ixD))
 (Ae (ifS (Aj (Ac (Aa 2) (fC (.str "nothing")) (eqS id)))
   (Gu (AB Ad))
   Ap)
 (Ae (ifS (Aj (Ac (Aa 2) (fC (.str "number")) (eqS id)))
   (Gu (DL IJ (Ab (Ac (Aa 1) (Ac (Aa 0) (fC (.int 1)) ixD) Cl) (Ab (Ai Ek (Ab (Ac (Ac (Aa 0) (fC (.int 2)) ixD) (Ac (Aa 0) (fC (.int 1)) ixD) Cl) Ad)) Ad))))
   Ap)
 (Ae (ifS (Aj (Ac (Aa 2) (fC (.str "text")) (eqS id)))
   (Gu (bnd (Aq (AB (Ab (fB (Ab (Aa 1) Ad) AN) Ad))) λx=>bnd (Aq (Cz 1 [] (DR (Aa 1)) (Ay 0) FR (fB (Ab (Aa 0) Ad) Iq))) λy=>GM x y))
   Ap)
 (Ae (ifS (Aj (Ac (Aa 2) (fC (.str "list")) (eqS id)))
   (Ae (DV 3 (AB (Ab (fB (Ab (Aa 1) Ad) AN) Ad)))
 (Ae (BV (DR (Aa 1)) (Ay 4)
   (ownM 3 EJ (Ab (Aq (DL BF (Ab (Ac (Aa 0) (fC (.int 1)) ixD) (Ab (Aa 4) Ad)))) Ad)))
 (F0 3)))
   Ap)
 (Ae (ifS (Aj (Ac (Aa 2) (fC (.str "pair")) (eqS id)))
   (Gu (bnd (Aq (DL BF (Ab (Ac (Aa 0) (fC (.int 1)) ixD) (Ab (Ac (Aa 1) (fC (.int 0)) ixD) Ad)))) λx=>bnd (Aq (DL BF (Ab (Ac (Aa 0) (fC (.int 2)) ixD) (Ab (Ac (Aa 1) (fC (.int 1)) ixD) Ad)))) λy=>GM x y))
   Ap)
 (Gu (bnd (Aq (AB (Ab (Ac (Aa 1) (fC (.int 1)) ixD) Ad))) λx=>bnd (Aq (DL BF (Ab (Ac (Ac (Aa 0) (fC (.int 1)) ixD) (Ac (Aa 1) (fC (.int 1)) ixD) ixD) (Ab (Ac (Aa 1) (fC (.int 2)) ixD) Ad)))) λy=>GM x y))))))))
def ER:M Out:=
 (Am (Ac (Ac (fUn (Aa 0) IF) (fC (.int 7)) AG) (fC (.int 8)) AU))
def Es (Ga:Fn):M Out:=
 (Gu (Cz 1 [0,1] (FD (Ab (fC (.int 1)) (Ab (Ac (Aa 1) (fC (.int 1)) AG) Ad))) (Ay 0) FR (Ac (Ai Ga (Ab (Aa 1) (Ab (Ac (Aa 2) (Aa 0) Cl) Ad))) (fC (.int 256)) Ba)))
def G2:M Out:=
 (Am (Ac (Aa 0) (Ac (fC (.int 8)) (Aa 1) B3) Mj))
def C6 (JD Ls Lr Lu JE:Fn):M Out:=
 (Ae (As 3 (Ac (Aa 0) (fC (.int 0)) ixD))
 (Ae (ifS (Aj (Ac (Aa 3) (fC (.str "nothing")) (eqS id)))
   (Am (nxD (AX (Ab (fC .non) (Ab (Aa 2) Ad)))))
   Ap)
 (Ae (ifS (Aj (Ac (Aa 3) (fC (.str "number")) (eqS id)))
   (Am (Ai JE (Ab (Aa 0) (Ab (Aa 1) (Ab (Aa 2) Ad)))))
   Ap)
 (Ae (ifS (Aj (Ac (Aa 3) (fC (.str "text")) (eqS id)))
   (Am (Ai Lu (Ab (Aa 0) (Ab (Aa 1) (Ab (Aa 2) Ad)))))
   Ap)
 (Ae (ifS (Aj (Ac (Aa 3) (fC (.str "list")) (eqS id)))
   (Am (Ai Lr (Ab (Aa 0) (Ab (Aa 1) (Ab (Aa 2) Ad)))))
   Ap)
 (Ae (ifS (Aj (Ac (Aa 3) (fC (.str "pair")) (eqS id)))
   (Am (Ai Ls (Ab (Aa 0) (Ab (Aa 1) (Ab (Aa 2) Ad)))))
   Ap)
 (Am (Ai JD (Ab (Aa 0) (Ab (Aa 1) (Ab (Aa 2) Ad)))))))))))
def Fm:M Out:=
 (Ae (ifS (Aj (Ac (Aa 1) (fB (Ab (Aa 0) Ad) AN) geA))
   (Hb "Short" (Ab (fC (.str "the bytes end within a value")) Ad))
   Ap)
 (Am (nxD (Ac (Aa 0) (Aa 1) ixD))))
def D9 (D6:Fn):M Out:=
 (Ae (CT 3 (Ai D6 (Ab (Aa 1) (Ab (Aa 2) Ad))))
 (Ae (ifS (Aj (Ac (Aa 3) (Aa 0) gtA))
   (Dp "Broken" (Ab (Aa 2) (Ab (fC .non) Ad)))
   Ap)
 (Am (nxD (Aa 3)))))
def CN (Ga D6 Ek:Fn):M Out:=
 (Ae (As 3 (Ac (Ac (Aa 0) (fC (.int 2)) ixD) (Ac (Aa 0) (fC (.int 1)) ixD) Cl))
 (Ae (As 4 (Ai Ek (Ab (Aa 3) Ad)))
 (Ae (As 5 (fC (.int 0)))
 (Ae (BV (CA (Ab (Aa 4) Ad)) (Ay 6)
   (Ae (CT 5 (Hr (Ac (Aa 5) (fC (.int 256)) B3) (Ai D6 (Ab (Aa 1) (Ab (Ac (Aa 2) (Aa 6) AG) Ad))) AG))
 (ifS (Aj (Ac (Aa 5) (Ai Ga (Ab (Aa 3) (Ab (Ac (Ac (Aa 4) (fC (.int 1)) Cl) (Aa 6) Cl) Ad))) gtA))
   (Dp "Broken" (Ab (Ac (Aa 2) (Aa 6) AG) (Ab (fC .non) Ad)))
   Ap)))
 (Am (nxD (AX (Ab (Ac (Ac (Aa 0) (fC (.int 1)) ixD) (Aa 5) AG) (Ab (Ac (Aa 2) (Aa 4) AG) Ad)))))))))
def DA (Nz CV:Fn):M Out:=
 (Ae (CT 3 (Ai CV (Ab (Ac (Aa 0) (fC (.int 1)) ixD) (Ab (Aa 1) (Ab (Aa 2) Ad)))))
 (Ae (As 4 (Ac (Aa 2) (fC (.int 1)) AG))
 (Ae (As 5 (fC (.str "")))
 (Ae (BV (CA (Ab (Aa 3) Ad)) (Ay 6)
   (CT 5 (Hr (Aa 5) (Ai Nz (Ab (Aa 1) (Ab (Ac (Aa 4) (Aa 6) AG) Ad))) AG)))
 (Am (nxD (AX (Ab (Aa 5) (Ab (Ac (Aa 4) (Aa 3) AG) Ad)))))))))
def Fp (F9 D6:Fn):M Out:=
 (Ae (CT 2 (Ai D6 (Ab (Aa 0) (Ab (Aa 1) Ad))))
 (Ae (ifS (BT (Aj (Ai F9 (Ab (Aa 2) Ad))))
   (Dp "Broken" (Ab (Aa 1) (Ab (fC .non) Ad)))
   Ap)
 (Am (nxD (Ac (fC (.str " !\"#$ &'()*+,-./0123456789:;<=>?@ABCDEFGHIJKLMNOPQRSTUVWXYZ[\\]^_`abcdefghijklmnopqrstuvwxyz{|}~")) (Ac (Aa 2) (fC (.int 32)) Cl) ixD)))))
def Dy (Bz CV:Fn):M Out:=
 (Ae (CT 3 (Ai CV (Ab (Ac (Aa 0) (fC (.int 2)) ixD) (Ab (Aa 1) (Ab (Aa 2) Ad)))))
 (Ae (As 4 (Ac (Aa 2) (fC (.int 1)) AG))
 (Ae (DV 5 (AB Ad))
 (Ae (BV (CA (Ab (Aa 3) Ad)) (Ay 6)
   (Ae (CT 7 (Ai Bz (Ab (Ac (Aa 0) (fC (.int 1)) ixD) (Ab (Aa 1) (Ab (Aa 4) Ad)))))
 (Ae (ownM 5 Bu (Ab (Ac (Aa 7) (fC (.int 0)) ixD) Ad))
 (As 4 (Ac (Aa 7) (fC (.int 1)) ixD)))))
 (Am (nxD (AX (Ab (Aa 5) (Ab (Aa 4) Ad)))))))))
def Dz (Bz:Fn):M Out:=
 (Ae (CT 3 (Ai Bz (Ab (Ac (Aa 0) (fC (.int 1)) ixD) (Ab (Aa 1) (Ab (Aa 2) Ad)))))
 (Ae (CT 4 (Ai Bz (Ab (Ac (Aa 0) (fC (.int 2)) ixD) (Ab (Aa 1) (Ab (Ac (Aa 3) (fC (.int 1)) ixD) Ad)))))
 (Am (nxD (AX (Ab (AX (Ab (Ac (Aa 3) (fC (.int 0)) ixD) (Ab (Ac (Aa 4) (fC (.int 0)) ixD) Ad))) (Ab (Ac (Aa 4) (fC (.int 1)) ixD) Ad)))))))
def CL (Bz CV:Fn):M Out:=
 (Ae (CT 3 (Ai CV (Ab (Ac (fB (Ab (Ac (Aa 0) (fC (.int 1)) ixD) Ad) AN) (fC (.int 1)) Cl) (Ab (Aa 1) (Ab (Aa 2) Ad)))))
 (Ae (CT 4 (Ai Bz (Ab (Ac (Ac (Aa 0) (fC (.int 1)) ixD) (Aa 3) ixD) (Ab (Aa 1) (Ab (Ac (Aa 2) (fC (.int 1)) AG) Ad)))))
 (Am (nxD (AX (Ab (AX (Ab (fC (.str "of")) (Ab (Aa 3) (Ab (Ac (Aa 4) (fC (.int 0)) ixD) Ad)))) (Ab (Ac (Aa 4) (fC (.int 1)) ixD) Ad)))))))
def Ec (BF:Fn):M Out:=
 (Am (Ac (Aq (AB (Ab (Aa 1) Ad))) (Aq (DL BF (Ab (Ac (Ac (Ac (Aa 0) (fC (.int 1)) ixD) (Aa 1) ixD) (fC (.int 1)) ixD) (Ab (Aa 2) Ad)))) AG))
def G3 (IK:Fn):M Out:=
 (Ae (DV 4 (AB Ad))
 (Ae (As 5 (Aa 1))
 (Ae (As 6 (fB (Ab (Aa 3) Ad) Hq))
 (Ae (F3 (Aj (Ac (Ac (Ac (Aa 0) (Aa 5) ixD) (fC (.int 0)) ixD) (Aa 2) (inS false)))
   (Ae (As 7 (Ac (Ac (Aa 0) (Aa 5) ixD) (fC (.int 0)) ixD))
 (Ae (CT 8 (Ai IK (Ab (Ac (Aa 0) (Aa 5) ixD) (Ab (Ac (Aa 2) (Aa 7) AW) (Ab (Ac (Aa 6) (Aa 7) AW) Ad)))))
 (Ae (ifS (Aj (Ac (Aa 8) (fC .non) isC))
   (ret .brk)
   Ap)
 (Ae (ownM 4 Bu (Ab (Ac (Aa 8) (fC (.int 0)) ixD) Ad))
 (Ae (As 5 (Ac (Aa 8) (fC (.int 1)) ixD))
 (BD (Ac (Aa 8) (fC (.int 2)) ixD) (C8 (Aa 6) (Aa 7)))))))))
 (Am (nxD (AX (Ab (Aa 4) (Ab (Aa 5) (Ab (Aa 6) Ad))))))))))
def Et (Bz:Fn):M Out:=
 (Ae (ifS (Aj (Ac (Aa 2) (fB (Ab (Aa 1) Ad) AN) geA))
   (Am (nxD (fC .non)))
   Ap)
 (Ae (ifS (Aj (Ac (Ac (Aa 1) (Aa 2) ixD) (fB (Ab (Ac (Aa 0) (fC (.int 1)) ixD) Ad) AN) geA))
   (Dp "Broken" (Ab (Aa 2) (Ab (Ac (Aa 0) (fC (.int 0)) ixD) Ad)))
   Ap)
 (Ae (As 3 (Ac (Ac (Aa 0) (fC (.int 1)) ixD) (Ac (Aa 1) (Aa 2) ixD) ixD))
 (Ae (Ey (CT 4 (Ai Bz (Ab (Ac (Aa 3) (fC (.int 1)) ixD) (Ab (Aa 1) (Ab (Ac (Aa 2) (fC (.int 1)) AG) Ad))))) (hNo "Short" (Am (nxD (fC .non))) (hAs "Broken" 5 (Dp "Broken" (Ab (bnd (Aa 5) (H9 "at")) (Ab (Ac (Aa 0) (fC (.int 0)) ixD) Ad))) Rb)))
 (Am (nxD (AX (Ab (AX (Ab (Ac (Aa 0) (fC (.int 0)) ixD) (Ab (Ac (Aa 3) (fC (.int 0)) ixD) (Ab (Ac (Aa 4) (fC (.int 0)) ixD) Ad)))) (Ab (Ac (Aa 3) (fC (.int 2)) ixD) (Ab (Ac (Aa 4) (fC (.int 1)) ixD) Ad))))))))))
def Cc (II:Fn):M Out:=
 (Ae (Ds "grammar" (Ai II (Ab (Aa 1) Ad)) (Aa 0))
 (Ae (Ds "standing" (fC (.int 0)) (Aa 0))
 (Ae (Ds "wires" (EE []) (Aa 0))
 (Ae (Ds "places" (EE []) (Aa 0))
 (BV (DR (Aa 2)) (Ay 3)
   (Ae (BD (Gc (AB Ad)) (C8 (Cs "wires" (Aa 0)) (Aa 3)))
 (BD (fC (.int 0)) (C8 (Cs "places" (Aa 0)) (Aa 3)))))))))
def BS:M Out:=
 (Am (Cs "standing" (Aa 0)))
def EL (Ny:Fn):M Out:=
 (Ae (B2 (objM EJ (Ac (Cs "wires" (Aa 0)) (Aa 1) AW) (Ab (Aa 2) Ad)))
 (Ae (CT 3 (Ai Ny (Ab (Cs "grammar" (Aa 0)) (Ab (Cs "standing" (Aa 0)) (Ab (Cs "wires" (Aa 0)) (Ab (Cs "places" (Aa 0)) Ad))))))
 (Ae (Ds "standing" (Ac (Aa 3) (fC (.int 1)) ixD) (Aa 0))
 (Ae (Ds "places" (Ac (Aa 3) (fC (.int 2)) ixD) (Aa 0))
 (Am (nxD (Ac (Aa 3) (fC (.int 0)) ixD)))))))
def Di:M Out:=
 (Am (Ac (fB (Ab (Ac (Cs "wires" (Aa 0)) (Aa 1) AW) Ad) AN) (Ac (Cs "places" (Aa 0)) (Aa 1) AW) Cl))
def Rt:M Out:=
 (F3 (Aj (fC (.bl true)))
   Ap)
def Fo:M Out:=
 (Am (fIf (Aj (Ac (Aa 0) (fC (.str "left")) (eqS id))) (fC (.str "right")) (fC (.str "left"))))
def DQ (CW GK:Fn):M Out:=
 (Ae (B2 (Ai GK (Ab (Aa 0) (Ab (Aa 1) (Ab (AX (Ab (Ai CW (Ab (Aa 2) Ad)) Ad)) Ad)))))
 (Ds "side" (Aa 2) (Aa 0)))
def Dj (Ib KK KJ:Fn):M Out:=
 (Ae (As 3 (Ac (Cs "grammar" (Aa 0)) (Cs "standing" (Aa 0)) ixD))
 (Ae (As 4 (Ai KJ (Ab (Aa 3) (Ab (AX (Ab (Cs "side" (Aa 0)) (Ab (Aa 1) (Ab (Aa 2) Ad)))) Ad))))
 (Ae (ifS (Aj (Ac (Aa 4) (fC .non) isC))
   (Hc "NoTalk" (Ab (fC (.int 0)) Ad))
   Ap)
 (Ae (Ds "standing" (Ai KK (Ab (Cs "grammar" (Aa 0)) (Ab (AX (Ab (Cs "standing" (Aa 0)) (Ab (Aa 4) Ad))) Ad))) (Aa 0))
 (Am (nxD (Ai Ib (Ab (Aa 3) (Ab (Aa 4) (Ab (Aa 2) Ad))))))))))
def Co (GL:Fn):M Out:=
 (Am (Aq (Ff 1 [] (JI (Aa 0)) (Ay 0) FR (fIf (Aj (Ai GL (Ab (Aa 0) Ad))) (Aa 0) (AX (Ab (Ac (Aa 0) (fC (.int 0)) ixD) (Ab (Aq (fBF (Ab (Ac (Aa 0) (fC (.int 1)) ixD) Ad) Dh)) Ad)))))))
def CY (KH:Fn):M Out:=
 (Am (A4 "Side" KH (Aa 0) (Ab (Aa 1) (Ab (Aa 2) Ad))))
def Eo (JA:Fn):M Out:=
 (Am (A4 "Side" JA (Aa 0) (Ab (Aa 1) Ad)))
def C5:M Out:=
 (Ae (ifS (Aj (Ac (Aa 1) (fB (Ab (Aa 0) Ad) AN) ltA))
   (Am (Ac (Aa 0) (Aa 1) ixD))
   Ap)
 (Am (Ac (Ac (Ac (Ac (fC (.int 23)) (Aa 1) B3) (Aa 1) B3) (Ac (fC (.int 13)) (Aa 1) B3) AG) (fC (.int 5)) AG)))
def EN:M Out:=
 (Ae (As 2 (Ac (Ac (Ac (Ac (Ac (Aa 0) (fC (.int 48271)) B3) (Ac (Ac (fC (.int 7919)) (Aa 1) B3) (Aa 1) B3) AG) (Ac (fC (.int 104729)) (Aa 1) B3) AG) (fC (.int 11)) AG) (fC (.int 2147483647)) Ba))
 (Ae (As 2 (Ac (Ac (Aa 2) (Aa 2) B3) (fC (.int 2147483629)) Ba))
 (Am (Ac (Ac (Ac (Aa 2) (Aa 2) B3) (Ac (Aa 2) (fC (.int 1000003)) B3) AG) (Aa 0) AG))))
def BX (DO:Fn):M Out:=
 (Ae (As 2 (Ac (Aa 0) (fC (.int 7)) Ba))
 (Ae (As 0 (Ac (Aa 0) (fC (.int 7)) AU))
 (Ae (ifS (fOr (Aj (Ac (Aa 2) (fC (.int 2)) ltA)) (Aj (Ac (Aa 1) (fC (.int 0)) (eqS id))))
   (Ae (As 3 (Ac (Ac (Aa 0) (fC (.int 9)) Ba) (fC (.int 4)) Cl))
 (Am (Aq (AB (Ab (AX (Ab (fC (.str "number")) (Ab (Aa 3) (Ab (Ac (Aa 3) (Ac (Aq (AB (Ab (fC (.int 0)) (Ab (fC (.int 1)) (Ab (fC (.int 255)) (Ab (fC (.int 256)) (Ab (fC (.int 300)) (Ab (fC (.int 70000)) Ad)))))))) (Ac (Ac (Aa 0) (fC (.int 9)) AU) (fC (.int 6)) Ba) ixD) AG) Ad)))) (Ab (Ac (Aa 0) (fC (.int 54)) AU) Ad))))))
   Ap)
 (Ae (ifS (Aj (Ac (Aa 2) (fC (.int 2)) (eqS id)))
   (Am (Aq (AB (Ab (AX (Ab (fC (.str "nothing")) Ad)) (Ab (Aa 0) Ad)))))
   Ap)
 (Ae (ifS (Aj (Ac (Aa 2) (fC (.int 3)) (eqS id)))
   (Am (Aq (AB (Ab (AX (Ab (fC (.str "text")) (Ab (Ac (Aa 0) (fC (.int 4)) Ba) Ad))) (Ab (Ac (Aa 0) (fC (.int 4)) AU) Ad)))))
   Ap)
 (Ae (BD (Ai DO (Ab (Aa 0) (Ab (Ac (Aa 1) (fC (.int 1)) Cl) Ad))) (unS 2 (AF (Ay 4) (AF (Ay 0) BY))))
 (Ae (ifS (Aj (Ac (Aa 2) (fC (.int 4)) (eqS id)))
   (Am (Aq (AB (Ab (AX (Ab (fC (.str "list")) (Ab (Aa 4) (Ab (Ac (Aa 0) (fC (.int 4)) Ba) Ad)))) (Ab (Ac (Aa 0) (fC (.int 4)) AU) Ad)))))
   Ap)
 (Ae (BD (Ai DO (Ab (Aa 0) (Ab (Ac (Aa 1) (fC (.int 1)) Cl) Ad))) (unS 2 (AF (Ay 5) (AF (Ay 0) BY))))
 (Ae (ifS (Aj (Ac (Aa 2) (fC (.int 5)) (eqS id)))
   (Am (Aq (AB (Ab (AX (Ab (fC (.str "pair")) (Ab (Aa 4) (Ab (Aa 5) Ad)))) (Ab (Aa 0) Ad)))))
   Ap)
 (Am (Aq (AB (Ab (AX (Ab (fC (.str "choice")) (Ab (AX (Ab (Aa 4) (Ab (Aa 5) Ad))) Ad))) (Ab (Aa 0) Ad))))))))))))))
def DU (AT:Fn):M Out:=
 (Ae (As 2 (Ac (Aa 0) (fC (.int 0)) ixD))
 (Ae (ifS (Aj (Ac (Aa 2) (fC (.str "nothing")) (eqS id)))
   (Am (Aq (AB (Ab (fC .non) (Ab (Aa 1) Ad)))))
   Ap)
 (Ae (ifS (Aj (Ac (Aa 2) (fC (.str "number")) (eqS id)))
   (Ae (As 3 (Ac (Ac (Ac (Aa 0) (fC (.int 2)) ixD) (Ac (Aa 0) (fC (.int 1)) ixD) Cl) (fC (.int 1)) AG))
 (Am (Aq (AB (Ab (Ac (Ac (Aa 0) (fC (.int 1)) ixD) (Ac (Aa 1) (Aa 3) Ba) AG) (Ab (Ac (Aa 1) (Aa 3) AU) Ad))))))
   Ap)
 (Ae (ifS (Aj (Ac (Aa 2) (fC (.str "text")) (eqS id)))
   (Ae (As 4 (Ac (Aa 1) (Ac (Ac (Aa 0) (fC (.int 1)) ixD) (fC (.int 1)) AG) Ba))
 (Ae (As 5 (Ac (Ac (fC (.str " az~Q0")) (Ac (Ac (Aa 1) (fC (.int 7)) AU) (fC (.int 6)) Ba) ixD) (Aa 4) B3))
 (Am (Aq (AB (Ab (Aa 5) (Ab (Ac (Ac (Aa 1) (fC (.int 7)) AU) (Ac (Ac (Aa 0) (fC (.int 1)) ixD) (fC (.int 1)) AG) AU) Ad)))))))
   Ap)
 (Ae (ifS (Aj (Ac (Aa 2) (fC (.str "list")) (eqS id)))
   (Ae (As 4 (Ac (Aa 1) (Ac (Ac (Aa 0) (fC (.int 2)) ixD) (fC (.int 1)) AG) Ba))
 (Ae (As 1 (Ac (Aa 1) (Ac (Ac (Aa 0) (fC (.int 2)) ixD) (fC (.int 1)) AG) AU))
 (Ae (DV 6 (AB Ad))
 (Ae (BV (CA (Ab (Aa 4) Ad)) (Ay 7)
   (Ae (BD (Ai AT (Ab (Ac (Aa 0) (fC (.int 1)) ixD) (Ab (Ac (Aa 1) (Aa 7) AG) Ad))) (unS 2 (AF (Ay 8) (AF (Ay 1) BY))))
 (ownM 6 Bu (Ab (Aa 8) Ad))))
 (Am (Aq (AB (Ab (Aa 6) (Ab (Aa 1) Ad)))))))))
   Ap)
 (Ae (ifS (Aj (Ac (Aa 2) (fC (.str "pair")) (eqS id)))
   (Ae (BD (Ai AT (Ab (Ac (Aa 0) (fC (.int 1)) ixD) (Ab (Aa 1) Ad))) (unS 2 (AF (Ay 8) (AF (Ay 1) BY))))
 (Ae (BD (Ai AT (Ab (Ac (Aa 0) (fC (.int 2)) ixD) (Ab (Aa 1) Ad))) (unS 2 (AF (Ay 9) (AF (Ay 1) BY))))
 (Am (Aq (AB (Ab (AX (Ab (Aa 8) (Ab (Aa 9) Ad))) (Ab (Aa 1) Ad)))))))
   Ap)
 (Ae (As 7 (Ac (Aa 1) (fB (Ab (Ac (Aa 0) (fC (.int 1)) ixD) Ad) AN) Ba))
 (Ae (BD (Ai AT (Ab (Ac (Ac (Aa 0) (fC (.int 1)) ixD) (Aa 7) ixD) (Ab (Ac (Aa 1) (fB (Ab (Ac (Aa 0) (fC (.int 1)) ixD) Ad) AN) AU) Ad))) (unS 2 (AF (Ay 8) (AF (Ay 1) BY))))
 (Am (Aq (AB (Ab (AX (Ab (fC (.str "of")) (Ab (Aa 7) (Ab (Aa 8) Ad)))) (Ab (Aa 1) Ad)))))))))))))
def CK:M Out:=
 (Ae (DV 2 (AB Ad))
 (Ae (F3 (Aj (Ac (Aa 1) (fC (.int 0)) gtA))
   (Ae (ownM 2 Bu (Ab (Ac (Aa 0) (fC (.int 256)) Ba) Ad))
 (Ae (As 0 (Ac (Aa 0) (fC (.int 256)) AU))
 (As 1 (Ac (Aa 1) (fC (.int 256)) AU)))))
 (Am (Aq (fBF (Ab (Aa 2) Ad) JV)))))
def DT (AY F8:Fn):M Out:=
 (Ae (As 2 (Ac (Aa 0) (fC (.int 0)) ixD))
 (Ae (ifS (Aj (Ac (Aa 2) (fC (.str "nothing")) (eqS id)))
   (Am (Aq (AB Ad)))
   Ap)
 (Ae (ifS (Aj (Ac (Aa 2) (fC (.str "number")) (eqS id)))
   (Am (Ai F8 (Ab (Ac (Aa 1) (Ac (Aa 0) (fC (.int 1)) ixD) Cl) (Ab (Ac (Ac (Aa 0) (fC (.int 2)) ixD) (Ac (Aa 0) (fC (.int 1)) ixD) Cl) Ad))))
   Ap)
 (Ae (ifS (Aj (Ac (Aa 2) (fC (.str "text")) (eqS id)))
   (Ae (As 3 (fC (.str " !\"#$&'()*+,-./0123456789:;<=>?@ABCDEFGHIJKLMNOPQRSTUVWXYZ[\\]^_`abcdefghijklmnopqrstuvwxyz{|}~")))
 (Ae (As 4 (Aq (Cz 1 [] (CA (Ab (fB (Ab (Aa 3) Ad) AN) Ad)) (Ay 0) FR (Ac (Ac (fC (.int 32)) (Aa 0) AG) (fB (Ab (Ac (Aa 0) (fC (.int 4)) gtA) Ad) JN) AG))))
 (Am (Ac (Aq (AB (Ab (fB (Ab (Aa 1) Ad) AN) Ad))) (Aq (Cz 1 [4,3] (DR (Aa 1)) (Ay 0) FR (Ac (Aa 1) (findM (Aa 2) (Ab (Aa 0) Ad)) ixD))) AG))))
   Ap)
 (Ae (DV 5 (AB Ad))
 (Ae (ifS (Aj (Ac (Aa 2) (fC (.str "list")) (eqS id)))
   (Ae (ownM 5 Bu (Ab (fB (Ab (Aa 1) Ad) AN) Ad))
 (Ae (BV (DR (Aa 1)) (Ay 6)
   (DV 5 (bnd (Aa 5) λx=>bnd (Ai AY (Ab (Ac (Aa 0) (fC (.int 1)) ixD) (Ab (Aa 6) Ad))) λy=>GM x y)))
 (Am (Aa 5))))
   Ap)
 (Ae (ifS (Aj (Ac (Aa 2) (fC (.str "pair")) (eqS id)))
   (Am (Ac (Ai AY (Ab (Ac (Aa 0) (fC (.int 1)) ixD) (Ab (Ac (Aa 1) (fC (.int 0)) ixD) Ad))) (Ai AY (Ab (Ac (Aa 0) (fC (.int 2)) ixD) (Ab (Ac (Aa 1) (fC (.int 1)) ixD) Ad))) AG))
   Ap)
 (Am (Ac (Aq (AB (Ab (Ac (Aa 1) (fC (.int 1)) ixD) Ad))) (Ai AY (Ab (Ac (Ac (Aa 0) (fC (.int 1)) ixD) (Ac (Aa 1) (fC (.int 1)) ixD) ixD) (Ab (Ac (Aa 1) (fC (.int 2)) ixD) Ad))) AG)))))))))
def Dk (DO Bv KI:Fn):M Out:=
 (Ae (As 3 (Ac (fC (.int 1)) (Ac (Ai Bv (Ab (Aa 0) (Ab (fC (.int 0)) Ad))) (fC (.int 6)) Ba) AG))
 (Ae (DV 4 (AB Ad))
 (Ae (BV (CA (Ab (Aa 3) Ad)) (Ay 5)
   (Ae (As 6 (Ai Bv (Ab (Aa 0) (Ab (Ac (Aa 1) (Aa 5) AG) Ad))))
 (Ae (ifS (Aj (Ac (Ac (Ac (Ai Bv (Ab (Aa 0) (Ab (fC (.int 0)) Ad))) (fC (.int 6)) AU) (fC (.int 2)) Ba) (fC (.int 1)) (eqS id)))
   (As 6 (Ai KI (Ab (Aa 6) (Ab (Aa 5) Ad))))
   Ap)
 (Ae (As 7 (Ac (Aa 6) (fC (.int 5)) Ba))
 (Ae (As 6 (Ac (Aa 6) (fC (.int 5)) AU))
 (Ae (ifS (fOr (Fe (Aj (Ac (Aa 7) (fC (.int 0)) (eqS id))) (Aj (Ac (Aa 5) (fC (.int 0)) gtA))) (Fe (Aj (Aa 2)) (Aj (Ac (Aa 5) (Ac (Aa 3) (fC (.int 1)) Cl) (eqS id)))))
   (Ae (ownM 4 Bu (Ab (AX (Ab (fC (.str "end")) Ad)) Ad))
 (ret .cont))
   Ap)
 (Ae (DV 8 (AB Ad))
 (Ae (BV (CA (Ab (Ac (fC (.int 1)) (Ac (Aa 6) (fC (.int 3)) Ba) AG) Ad)) (Ay 9)
   (Ae (As 6 (Ac (Aa 6) (fC (.int 3)) AU))
 (Ae (As 10 (Ac (Aa 6) (Aa 3) Ba))
 (Ae (BD (Ai DO (Ab (Ac (Aa 6) (Aa 3) AU) (Ab (fC (.int 2)) Ad))) (unS 2 (AF (Ay 11) (AF (Ay 6) BY))))
 (ownM 8 Bu (Ab (AX (Ab (Ac (Ac (fC (.str "abc")) (Aa 9) ixD) (Ac (fC (.int 1)) (Ac (Aa 5) (fC (.int 3)) Ba) AG) B3) (Ab (Aa 11) (Ab (Aa 10) Ad)))) Ad))))))
 (ownM 4 Bu (Ab (AX (Ab (Ac (Aq (AB (Ab (fC (.str "left")) (Ab (fC (.str "right")) Ad)))) (Ac (Aa 6) (fC (.int 2)) Ba) ixD) (Ab (Aa 8) Ad))) Ad))))))))))
 (Am (Aa 4)))))
def Ct (DJ:Fn):M Out:=
 (Ae (As 3 (fC .non))
 (Ae (Ey (CT 3 (A4 "Side" DJ (Aa 0) (Ab (Aa 1) (Ab (Aa 2) Ad)))) (hAs "NoTalk" 4 (As 3 (AX (Ab (fC (.str "no")) (Ab (bnd (Aa 4) (H9 "at")) Ad)))) Rb))
 (Am (Aa 3))))
def Ep (AY DK AT:Fn):M Out:=
 (Ae (As 5 (Ac (Aa 1) (Ac (Aa 3) (fC (.str "state")) AW) ixD))
 (Ae (ifS (Aj (Ac (Ac (Aa 5) (fC (.int 0)) ixD) (Aa 2) (eqS λb=>!b)))
   (Ae (BV (DR (Aq (Cz 1 [] (DR (Aa 1)) (Ay 0) (Aj (Ac (Ac (Aa 0) (fC (.int 0)) ixD) (fC (.str "end")) (eqS λb=>!b))) (Aa 0)))) (unS 2 (AF (Ay 6) (AF (Ay 7) BY)))
   (ifS (Aj (Ac (Ai DK (Ab (Aa 0) (Ab (Ac (Ac (Aa 7) (fC (.int 0)) ixD) (fC (.int 0)) ixD) (Ab (Ac (Ai AT (Ab (Ac (Ac (Aa 7) (fC (.int 0)) ixD) (fC (.int 1)) ixD) (Ab (Aa 4) Ad))) (fC (.int 0)) ixD) Ad)))) (AX (Ab (fC (.str "no")) (Ab (fC (.int 0)) Ad))) (eqS λb=>!b)))
   (Am (fC (.bl false)))
   Ap))
 (Am (Ac (Ai DK (Ab (Aa 0) (Ab (fC (.str "none")) (Ab (fC .non) Ad)))) (AX (Ab (fC (.str "no")) (Ab (fC (.int 0)) Ad))) (eqS id))))
   Ap)
 (Ae (As 8 (Ac (Aa 4) (fB (Ab (Ac (Aa 5) (fC (.int 1)) ixD) Ad) AN) Ba))
 (Ae (BD (Ac (Ac (Aa 5) (fC (.int 1)) ixD) (Aa 8) ixD) (unS 3 (AF (Ay 9) (AF (Ay 10) (AF (Ay 11) BY)))))
 (Ae (ifS (Aj (Ac (Ac (Ac (Aa 4) (fC (.int 3)) AU) (fC (.int 4)) Ba) (fC (.int 1)) (eqS id)))
   (Am (DP (Ac (Ai DK (Ab (Aa 0) (Ab (Aa 9) (Ab (Aq (AB (Ab (fC (.str "no")) (Ab (fC (.str "value")) Ad)))) Ad)))) (AX (Ab (fC (.str "no")) (Ab (fC (.int 0)) Ad))) (eqS id)) (Ac (Ai DK (Ab (Aa 0) (Ab (Ac (Aa 9) (fC (.str "z")) AG) (Ab (fC .non) Ad)))) (AX (Ab (fC (.str "no")) (Ab (fC (.int 0)) Ad))) (eqS id))))
   Ap)
 (Ae (As 12 (Ac (Ai AT (Ab (Aa 10) (Ab (Ac (Aa 4) (fC (.int 12)) AU) Ad))) (fC (.int 0)) ixD))
 (Ae (BD (Aa 11) (C8 (Aa 3) (fC (.str "state"))))
 (Ae (As 13 (Ai DK (Ab (Aa 0) (Ab (Aa 9) (Ab (Aa 12) Ad)))))
 (Ae (B2 (objM Bu (Ac (Aa 3) (fC (.str "held")) AW) (Ab (Aq (AB (Ab (Aa 13) (Ab (Aq (fBF (Ab (Aa 13) Ad) Dh)) Ad)))) Ad)))
 (Am (Ac (Aa 13) (Ac (Aq (AB (Ab (Aa 8) Ad))) (Ai AY (Ab (Aa 10) (Ab (Aa 12) Ad))) AG) (eqS id))))))))))))
def EM (BL DJ AY Bh AT B6:Fn):M Out:=
 (Ae (As 6 (Ac (Aa 5) (fB (Ab (Ac (Ac (Aa 1) (Ac (Aa 4) (fC (.str "state")) AW) ixD) (fC (.int 1)) ixD) Ad) AN) Ba))
 (Ae (BD (Ac (Ac (Ac (Aa 1) (Ac (Aa 4) (fC (.str "state")) AW) ixD) (fC (.int 1)) ixD) (Aa 6) ixD) (unS 3 (AF (Ay 7) (AF (Ay 8) (AF (Ay 9) BY)))))
 (Ae (ifS (Aj (Ac (Ac (Ac (Aa 1) (Aa 9) ixD) (fC (.int 0)) ixD) (Aa 3) (eqS λb=>!b)))
   (Am (fC (.bl true)))
   Ap)
 (Ae (As 10 (Ac (Ac (Aa 5) (fC (.int 3)) AU) (fB (Ab (Ac (Ac (Aa 1) (Aa 9) ixD) (fC (.int 1)) ixD) Ad) AN) Ba))
 (Ae (BD (Ac (Ac (Ac (Aa 1) (Aa 9) ixD) (fC (.int 1)) ixD) (Aa 10) ixD) (unS 3 (AF (Ay 11) (AF (Ay 12) (AF (Ay 13) BY)))))
 (Ae (As 14 (Ac (Ai AT (Ab (Aa 12) (Ab (Ac (Aa 5) (fC (.int 9)) AU) Ad))) (fC (.int 0)) ixD))
 (Ae (As 15 (Ac (Aq (AB (Ab (Aa 10) Ad))) (Ai AY (Ab (Aa 12) (Ab (Aa 14) Ad))) AG))
 (Ae (ifS (fOr (Aj (Ac (A4 "Side" (Ed BL) (Aa 0) (Ab (Aq (fBF (Ab (Aa 15) Ad) Dh)) Ad)) (Aq (AB Ad)) (eqS λb=>!b))) (fOr (Aj (Ac (A4 "Side" Bh (Aa 0) (ret [])) (fB (Ab (Aa 15) Ad) AN) (eqS λb=>!b))) (Aj (Ac (A4 "Side" B6 (Aa 0) (ret [])) (Ac (Aa 4) (fC (.str "state")) AW) (eqS λb=>!b)))))
   (Am (fC (.bl false)))
   Ap)
 (Ae (As 16 (Ac (Ai AT (Ab (Aa 8) (Ab (Ac (Aa 5) (fC (.int 7)) AU) Ad))) (fC (.int 0)) ixD))
 (Ae (ifS (fOr (Aj (Ac (A4 "Side" (Ed DJ) (Aa 0) (Ab (Aa 7) (Ab (Aa 16) Ad))) (Ac (Aq (AB (Ab (Aa 6) Ad))) (Ai AY (Ab (Aa 8) (Ab (Aa 16) Ad))) AG) (eqS λb=>!b))) (Aj (Ac (A4 "Side" Bh (Aa 0) (ret [])) (fB (Ab (Aa 15) Ad) AN) (eqS λb=>!b))))
   (Am (fC (.bl false)))
   Ap)
 (Ae (BD (Aa 13) (C8 (Aa 4) (fC (.str "state"))))
 (Am (Ac (A4 "Side" (Ed BL) (Aa 0) (Ab (Aq (AB Ad)) Ad)) (Aq (AB (Ab (AX (Ab (Aa 3) (Ab (Aa 11) (Ab (Aa 14) Ad)))) Ad))) (eqS id))))))))))))))
def Ea (BL AY AT:Fn):M Out:=
 (Ae (As 5 (Aq (AB Ad)))
 (Ae (As 6 (Ac (Aa 1) (Ac (Aa 3) (fC (.str "state")) AW) ixD))
 (Ae (ifS (Fe (Aj (Ac (Ac (Aa 3) (fC (.str "left")) AW) (Aq (AB Ad)) (eqS id))) (Aj (Ac (Ac (Aa 6) (fC (.int 0)) ixD) (Aa 2) (eqS id))))
   (Ae (As 7 (Ac (Aa 4) (fB (Ab (Ac (Aa 6) (fC (.int 1)) ixD) Ad) AN) Ba))
 (Ae (BD (Ac (Ac (Aa 6) (fC (.int 1)) ixD) (Aa 7) ixD) (unS 3 (AF (Ay 8) (AF (Ay 9) (AF (Ay 10) BY)))))
 (Ae (As 11 (Ac (Ai AT (Ab (Aa 9) (Ab (Ac (Aa 4) (fC (.int 12)) AU) Ad))) (fC (.int 0)) ixD))
 (Ae (BD (Ac (Aq (AB (Ab (Aa 7) Ad))) (Ai AY (Ab (Aa 9) (Ab (Aa 11) Ad))) AG) (C8 (Aa 3) (fC (.str "left"))))
 (BD (Aq (AB (Ab (AX (Ab (Aa 2) (Ab (Aa 8) (Ab (Aa 11) Ad)))) (Ab (Aa 10) Ad)))) (C8 (Aa 3) (fC (.str "message"))))))))
   Ap)
 (Ae (As 12 (Ac (Ac (Aa 4) (fC (.int 3)) AU) (Ac (fB (Ab (Ac (Aa 3) (fC (.str "left")) AW) Ad) AN) (fC (.int 1)) AG) Ba))
 (Ae (As 13 (fSl (Ac (Aa 3) (fC (.str "left")) AW) fNo (Ht (Aa 12)) Iv))
 (Ae (BD (fSl (Ac (Aa 3) (fC (.str "left")) AW) (Ht (Aa 12)) fNo Iv) (C8 (Aa 3) (fC (.str "left"))))
 (Ae (BD (Ac (Ac (Aa 3) (fC (.str "wait")) AW) (Aa 12) AG) (C8 (Aa 3) (fC (.str "wait"))))
 (Ae (ifS (Fe (Aj (Ac (Aa 12) (fC (.int 0)) gtA)) (Aj (Ac (Ac (Aa 3) (fC (.str "left")) AW) (Aq (AB Ad)) (eqS id))))
   (Ae (As 5 (Aq (AB (Ab (Ac (Ac (Aa 3) (fC (.str "message")) AW) (fC (.int 0)) ixD) Ad))))
 (Ae (BD (Ac (Ac (Aa 3) (fC (.str "message")) AW) (fC (.int 1)) ixD) (C8 (Aa 3) (fC (.str "state"))))
 (BD (fC (.int 0)) (C8 (Aa 3) (fC (.str "wait"))))))
   Ap)
 (Ae (As 14 (Aq (fBF (Ab (Aa 13) Ad) Dh)))
 (Ae (As 15 (A4 "Side" (Ed BL) (Aa 0) (Ab (Aa 14) Ad)))
 (Ae (B2 (objM Bu (Ac (Aa 3) (fC (.str "held")) AW) (Ab (Aq (AB (Ab (Aa 15) (Ab (Aq (fBF (Ab (Aa 5) Ad) Dh)) Ad)))) Ad)))
 (Ae (B2 (objM Bu (Ac (Aa 3) (fC (.str "held")) AW) (Ab (Aq (AB (Ab (Aa 14) (Ab (Aa 13) Ad)))) Ad)))
 (Am (DP (Ac (Aa 15) (Aa 5) (eqS id)) (Ac (Aa 14) (Aa 13) (eqS id))))))))))))))))
def G1 (B6 Bh EH FI Fa Bv Ia IH:Fn):M Out:=
 (Ae (As 1 (Ai IH (Ab (Aa 0) (Ab (fC (.int 2)) (Ab (fC (.bl true)) Ad)))))
 (Ae (As 2 (Ac (Aq (AB (Ab (fC (.str "left")) (Ab (fC (.str "right")) Ad)))) (Ac (Ai Bv (Ab (Aa 0) (Ab (fC (.int 1)) Ad))) (fC (.int 2)) Ba) ixD))
 (Ae (As 3 (Ac (Aq (AB (Ab (fC (.str "right")) (Ab (fC (.str "left")) Ad)))) (Ac (Ai Bv (Ab (Aa 0) (Ab (fC (.int 1)) Ad))) (fC (.int 2)) Ba) ixD))
 (Ae (As 4 (Gc (AB Ad)))
 (Ae (BV (DR (Aa 1)) (Ay 5)
   (B2 (objM Bu (Aa 4) (Ab (fIf (Aj (Ac (Ac (Aa 5) (fC (.int 0)) ixD) (fC (.str "end")) (eqS id))) (AX (Ab (Ac (Aa 5) (fC (.int 0)) ixD) Ad)) (AX (Ab (Ac (Aa 5) (fC (.int 0)) ixD) (Ab (Gc (fBF (Ab (Ac (Aa 5) (fC (.int 1)) ixD) Ad) Dh)) Ad)))) Ad))))
 (Ae (As 6 (KW "Side" Ia (Ab (Aa 4) (Ab (Aa 2) Ad))))
 (Ae (IY (JI (Aa 4)) (Ay 5)
   (ifS (Aj (Ac (Ac (Aa 5) (fC (.int 0)) ixD) (fC (.str "end")) (eqS λb=>!b)))
   (B2 (L4 (Ac (Aa 5) (fC (.int 1)) ixD)))
   Ap))
 (Ae (B2 (L4 (Aa 4)))
 (Ae (As 7 (IP [("state",(fC (.int 0))),("left",(Aq (AB Ad))),("wait",(fC (.int 0))),("message",(fC .non)),("held",(Gc (AB Ad)))]))
 (Ae (BV (FD (Ab (fC (.int 11)) (Ab (fB (Ab (fC (.int 14)) (Ab (fB (Ab (fB (Ab (Aa 0) Ad) AN) (Ab (fC (.int 41)) Ad)) JQ) Ad)) JP) Ad))) (Ay 8)
   (Ae (As 9 (Ai Bv (Ab (Aa 0) (Ab (Aa 8) Ad))))
 (Ae (ifS (Fe (Aj (Ac (Ac (Aa 9) (fC (.int 10)) Ba) (fC (.int 4)) (eqS id))) (Aj (Ac (Ac (Ac (Aa 1) (Ac (Aa 7) (fC (.str "state")) AW) ixD) (fC (.int 0)) ixD) (Aa 2) (eqS id))))
   (ifS (BT (Aj (Ai EH (Ab (Aa 6) (Ab (Aa 1) (Ab (Aa 2) (Ab (Aa 3) (Ab (Aa 7) (Ab (Ac (Aa 9) (fC (.int 10)) AU) Ad)))))))))
   (Am (fC (.bl false)))
   Ap)
   (ifS (Aj (Ac (Ac (Aa 9) (fC (.int 2)) Ba) (fC (.int 0)) (eqS id)))
   (ifS (BT (Aj (Ai FI (Ab (Aa 6) (Ab (Aa 1) (Ab (Aa 2) (Ab (Aa 7) (Ab (Ac (Aa 9) (fC (.int 2)) AU) Ad))))))))
   (Am (fC (.bl false)))
   Ap)
   (ifS (BT (Aj (Ai Fa (Ab (Aa 6) (Ab (Aa 1) (Ab (Aa 3) (Ab (Aa 7) (Ab (Ac (Aa 9) (fC (.int 2)) AU) Ad))))))))
   (Am (fC (.bl false)))
   Ap)))
 (ifS (fOr (Aj (Ac (A4 "Side" B6 (Aa 6) (ret [])) (Ac (Aa 7) (fC (.str "state")) AW) (eqS λb=>!b))) (Aj (Ac (A4 "Side" Bh (Aa 6) (ret [])) (Ac (Aa 7) (fC (.str "wait")) AW) (eqS λb=>!b))))
   (Am (fC (.bl false)))
   Ap))))
 (Am (Ac (Aq (Ff 1 [] (JI (Ac (Aa 7) (fC (.str "held")) AW)) (Ay 0) (Aj (Ac (Ac (Aa 0) (fC (.int 0)) ixD) (Ac (Aa 0) (fC (.int 1)) ixD) (eqS λb=>!b))) (Aa 0))) (Aq (AB Ad)) (eqS id)))))))))))))
def DS (CW Jz:Fn):M Out:=
 (Am (A4 "Side" Jz (Aa 0) (Ab (Ai CW (Ab (Cs "side" (Aa 0)) Ad)) (Ab (Aa 1) Ad))))
def DG (CW GC:Fn):M Out:=
 (Am (A4 "Side" GC (Aa 0) (Ab (Ai CW (Ab (Cs "side" (Aa 0)) Ad)) Ad)))
def HK (Fb:Fn):M Out:=
 (B2 (Ai Fb (Ab (fC (.int 0)) Ad)))
def FL (Fb:Fn):M Out:=
 (B2 (Ai Fb (Ab (fC (.int 1)) Ad)))
def GD (Fb:Fn):M Out:=
 (B2 (Ai Fb (Ab (fC (.int 2)) Ad)))
end LW
namespace F2
open PySem L2
def W {α:Type}(m:M α)(t:T)(P:α->T->Prop):Prop:=∃a t',m t=some (a,t')/\P a t'
def Wf (g:Fn)(ds:List D)(S:List Ob)(P:D->List Ob->Prop):Prop:=∃r S',g ds S=some (r,S')/\P r S'
theorem W.mono {α:Type}{m:M α}{t:T}{P Q:α->T->Prop}(h:W m t P)(i:∀a t',P a t'->Q a t'):W m t Q:=by
 obtain ⟨a,t',e,p⟩:=h;exact ⟨a,t',e,i a t' p⟩
theorem Wf.mono {g:Fn}{ds:List D}{S:List Ob}{P Q:D->List Ob->Prop}(h:Wf g ds S P)(i:∀r S',P r S'->Q r S'):Wf g ds S Q:=by
 obtain ⟨a,t',e,p⟩:=h;exact ⟨a,t',e,i a t' p⟩
section
variable {α β:Type}
theorem Aw {m:M α}{t:T}{P:α->T->Prop}{a:α}{t':T}(e:m t=some (a,t')):W m t P↔P a t':=by
 constructor
 ·rintro ⟨a',t1,e',p⟩;rw [e] at e';cases e';exact p
 ·exact λp=>⟨a,t',e,p⟩
theorem D5 {m:M α}{t:T}{P:α->T->Prop}(e:m t=none):W m t P↔False:=by
 constructor
 ·rintro ⟨a',t1,e',p⟩;rw [e] at e';cases e'
 ·exact False.elim
@[simp] theorem W_ret {a:α} {t:T} {P:α->T->Prop}:W (ret a) t P↔P a t:=Aw rfl
@[simp] theorem W_fail {t:T} {P:α->T->Prop}:W (fail:M α) t P↔False:=D5 rfl
@[simp] theorem W_bnd {f:M α} {g:α->M β} {t:T} {P:β->T->Prop}:W (bnd f g) t P↔W f t λa t1=>W (g a) t1 P:=by
 constructor
 ·rintro ⟨b,t',e,p⟩;obtain ⟨a,t1,e1,e2⟩:=Af e;exact ⟨a,t1,e1,b,t',e2,p⟩
 ·rintro ⟨a,t1,e1,b,t',e2,p⟩;exact ⟨b,t',by unfold bnd;rw [e1];exact e2,p⟩
@[simp] theorem SS {c:Prop} [Decidable c] {f g:M α} {t:T} {P:α->T->Prop}:W (if c then f else g) t P↔if c then W f t P else W g t P:=by split <;> rfl
@[simp] theorem bf {n:Nat} {a:α} {t:T} {P:α->T->Prop}:W (lim n a) t P↔n<=LIM/\P a t:=by
 unfold lim;constructor
 ·rintro ⟨a',t',e,p⟩
  split at e
  ·cases e;exact ⟨by assumption,p⟩
  ·cases e
 ·rintro ⟨h,p⟩;exact ⟨a,t,by simp only [h,if_true],p⟩
end
variable {t:T}{env:List (Option Sl)}{S:List Ob}
@[simp] theorem W_fC {d:D} {P:D->T->Prop}:W (fC d) t P↔P d t:=Aw rfl
@[simp] theorem OC {i:Nat} {P:D->T->Prop}:W (Aa i) t P↔match t.env[i]? with
 | some (some (.val d))=>P d t
 | some (some (.own ds))=>P (.lst ds) ⟨t.env.set i (some (.val (.lst ds))),t.S⟩
 | _=>False:=by
 cases e:t.env[i]? with
 | none=>exact D5 (by unfold Aa;simp [e])
 | some o=>
   cases o with
   | none=>exact D5 (by unfold Aa;simp [e])
   | some sl=>
     cases sl with
     | val d=>exact Aw (by unfold Aa;simp [e])
     | own ds=>exact Aw (by unfold Aa;simp [e])
@[simp] theorem W_fBin {f g:M D} {h:D->D->M D} {P:D->T->Prop}:W (Ac f g h) t P↔W f t λx t1=>W g t1 λy t2=>W (h x y) t2 P:=by simp [Ac]
@[simp] theorem W_fUn {f:M D} {h:D->M D} {P:D->T->Prop}:W (fUn f h) t P↔W f t λx t1=>W (h x) t1 P:=by simp [fUn]
@[simp] theorem W_toB {b:Bool} {P:Bool->T->Prop}:W (toB (.bl b)) t P↔P b t:=Aw rfl
@[simp] theorem W_fTst {f:M D} {P:Bool->T->Prop}:W (Aj f) t P↔W f t λx t1=>W (toB x) t1 P:=by simp [Aj]
@[simp] theorem W_fChain {f g w:M D} {h h':D->D->M D} {P:D->T->Prop}:W (ED f g w h h') t P↔W f t λx t1=>W g t1 λy t2=>W (h x y) t2 λk t3=>W (toB k) t3 λk t4=>if k=true then W w t4 λz t5=>W (h' y z) t5 P else P (.bl false) t4:=by
 simp [ED]
@[simp] theorem W_fAnd {f g:M Bool} {P:Bool->T->Prop}:W (Fe f g) t P↔W f t λk t1=>if k=true then W g t1 P else P false t1:=by simp [Fe]
@[simp] theorem W_fOr {f g:M Bool} {P:Bool->T->Prop}:W (fOr f g) t P↔W f t λk t1=>if k=true then P true t1 else W g t1 P:=by simp [fOr]
@[simp] theorem W_fNot {f:M Bool} {P:Bool->T->Prop}:W (BT f) t P↔W f t λk t1=>P (!k) t1:=by simp [BT]
@[simp] theorem W_fAndV {f g:M D} {P:D->T->Prop}:W (DP f g) t P↔W f t λx t1=>W (toB x) t1 λk t2=>if k=true then W g t2 P else P (.bl false) t2:=by simp [DP]
@[simp] theorem aY {f g:M D} {P:D->T->Prop}:W (VW f g) t P↔W f t λx t1=>W (toB x) t1 λk t2=>if k=true then P (.bl true) t2 else W g t2 P:=by simp [VW]
@[simp] theorem W_fNotV {f:M D} {P:D->T->Prop}:W (IQ f) t P↔W f t λx t1=>W (toB x) t1 λk t2=>P (.bl (!k)) t2:=by simp [IQ]
@[simp] theorem W_fIf {f:M Bool} {g h:M D} {P:D->T->Prop}:W (fIf f g h) t P↔W f t λk t1=>if k=true then W g t1 P else W h t1 P:=by simp [fIf]
@[simp] theorem W_fNil {P:List D->T->Prop}:W Ad t P↔P [] t:=Aw rfl
@[simp] theorem W_fCons {f:M D} {g:M (List D)} {P:List D->T->Prop}:W (Ab f g) t P↔W f t λd t1=>W g t1 λds t2=>P (d :: ds) t2:=by simp [Ab]
@[simp] theorem W_fTup {f:M (List D)} {P:D->T->Prop}:W (AX f) t P↔W f t λds t1=>ds.length<=LIM/\P (.tup ds) t1:=by simp [AX]
@[simp] theorem W_fLst {f:M (List D)} {P:List D->T->Prop}:W (AB f) t P↔W f t λds t1=>ds.length<=LIM/\P ds t1:=by simp [AB]
@[simp] theorem W_fPure {f:M (List D)} {P:D->T->Prop}:W (Aq f) t P↔W f t λds t1=>P (.lst ds) t1:=by simp [Aq]
@[simp] theorem W_newOb {o:Ob} {P:D->T->Prop}:W (NU o) t P↔P (.obj t.S.length) ⟨t.env,t.S++[o]⟩:=Aw rfl
@[simp] theorem VC {f:M (List D)} {P:D->T->Prop}:W (Gc f) t P↔W f t λds t1=>W (NU (.lst ds)) t1 P:=by simp [Gc]
@[simp] theorem W_fCall {g:Fn} {f:M (List D)} {P:D->T->Prop}:W (Ai g f) t P↔W f t λds t1=>Wf g ds t1.S λr S'=>P r ⟨t1.env,S'⟩:=by
 unfold Ai;rw [W_bnd];constructor
 ·rintro ⟨ds,t1,e1,r,t',e2,p⟩;refine ⟨ds,t1,e1,?_⟩;dsimp only at e2
  cases e:g ds t1.S with
  | none=>rw [e] at e2;cases e2
  | some z=>obtain ⟨r',S'⟩:=z;rw [e] at e2;cases e2;exact ⟨r,_,e,p⟩
 ·rintro ⟨ds,t1,e1,r,S',e2,p⟩;exact ⟨ds,t1,e1,r,_,by simp only [e2],p⟩
@[simp] theorem W_fB {f:M (List D)} {h:List D->M D} {P:D->T->Prop}:W (fB f h) t P↔W f t λds t1=>W (h ds) t1 P:=by simp [fB]
@[simp] theorem W_fBF {f:M (List D)} {h:List D->M (List D)} {P:List D->T->Prop}:W (fBF f h) t P↔W f t λds t1=>W (h ds) t1 P:=by simp [fBF]
@[simp] theorem W_seqS {f g:M Out} {P:Out->T->Prop}:W (Ae f g) t P↔W f t λo t1=>match o with
 | .next=>W g t1 P
 | .brk=>P .brk t1
 | .cont=>P .cont t1
 | .ret d=>P (.ret d) t1:=by
 unfold Ae;constructor
 ·rintro ⟨o,t',e,p⟩;dsimp only at e
  cases e1:f t with
  | none=>rw [e1] at e;cases e
  | some z=>
    obtain ⟨o1,t1⟩:=z;rw [e1] at e;refine ⟨o1,t1,e1,?_⟩
    cases o1 with
    | next=>exact ⟨o,t',e,p⟩
    | brk=>cases e;exact p
    | cont=>cases e;exact p
    | ret d=>cases e;exact p
 ·rintro ⟨o,t1,e,p⟩
  cases o with
  | next=>obtain ⟨o,t',e',p⟩:=p;exact ⟨o,t',by simp only [e];exact e',p⟩
  | brk=>exact ⟨_,_,by simp only [e],p⟩
  | cont=>exact ⟨_,_,by simp only [e],p⟩
  | ret d=>exact ⟨_,_,by simp only [e],p⟩
@[simp] theorem W_skipS {P:Out->T->Prop}:W Ap t P↔P .next t:=Aw rfl
@[simp] theorem W_retS {f:M D} {P:Out->T->Prop}:W (Am f) t P↔W f t λd t1=>P (.ret d) t1:=by simp [Am]
@[simp] theorem W_dropS {f:M D} {P:Out->T->Prop}:W (B2 f) t P↔W f t λd t1=>P .next t1:=by simp [B2]
@[simp] theorem W_ifS {f:M Bool} {g h:M Out} {P:Out->T->Prop}:W (ifS f g h) t P↔W f t λk t1=>if k=true then W g t1 P else W h t1 P:=by simp [ifS]
@[simp] theorem W_putV {i:Nat} {d:D} {P:Unit->T->Prop}:W (Ay i d) t P↔P () ⟨t.env.set i (some (.val d)),t.S⟩:=Aw rfl
@[simp] theorem W_setS {i:Nat} {f:M D} {P:Out->T->Prop}:W (As i f) t P↔W f t λd t1=>P .next ⟨t1.env.set i (some (.val d)),t1.S⟩:=by
 simp only [As,W_bnd,W_ret,W_putV]
@[simp] theorem W_ownS {i:Nat} {f:M (List D)} {P:Out->T->Prop}:W (DV i f) t P↔W f t λds t1=>P .next ⟨t1.env.set i (some (.own ds)),t1.S⟩:=by
 unfold DV;rw [W_bnd];have:∀(ds:List D) (t1:T),W (λt:T=>some (Out.next,({ t with env:=t.env.set i (some (.own ds)) }:T))) t1 P↔P .next ⟨t1.env.set i (some (.own ds)),t1.S⟩:=λds t1=>Aw rfl;simp only [this]
@[simp] theorem W_asgS {f:M D} {g:D->M Unit} {P:Out->T->Prop}:W (BD f g) t P↔W f t λd t1=>W (g d) t1 λ_ t2=>P .next t2:=by simp [BD]
@[simp] theorem W_putNil {P:Unit->T->Prop}:W (BY []) t P↔P () t:=Aw rfl
@[simp] theorem W_putCons {f:D->M Unit} {g:List D->M Unit} {d:D} {ds:List D} {P:Unit->T->Prop}:W (AF f g (d :: ds)) t P↔W (f d) t λ_ t1=>W (g ds) t1 P:=by simp [AF]
@[simp] theorem W_unS_lst {n:Nat} {g:List D->M Unit} {ds:List D} {P:Unit->T->Prop}:W (unS n g (.lst ds)) t P↔ds.length=n/\W (g ds) t P:=by
 unfold unS;simp only [SS,W_fail];split <;> simp [*]
@[simp] theorem W_unS_tup {n:Nat} {g:List D->M Unit} {ds:List D} {P:Unit->T->Prop}:W (unS n g (.tup ds)) t P↔ds.length=n/\W (g ds) t P:=by
 unfold unS;simp only [SS,W_fail];split <;> simp [*]
@[simp] theorem W_forS {f:M (List D)} {st:D->M Unit} {b:M Out} {P:Out->T->Prop}:W (BV f st b) t P↔W f t λds t1=>W (CG st b ds) t1 P:=by simp [BV]
@[simp] theorem W_forL_nil {st:D->M Unit} {b:M Out} {P:Out->T->Prop}:W (CG st b []) t P↔P .next t:=Aw rfl
theorem W_forL_cons {st:D->M Unit}{b:M Out}{d:D}{r:List D}{P:Out->T->Prop}:W (CG st b (d :: r)) t P↔W (st d) t λ_ t1=>W b t1 λo t2=>match o with
 | .next=>W (CG st b r) t2 P
 | .cont=>W (CG st b r) t2 P
 | .brk=>P .next t2
 | .ret x=>P (.ret x) t2:=by
 constructor
 ·rintro ⟨o,t',e,p⟩;unfold CG at e
  cases e1:st d t with
  | none=>rw [e1] at e;cases e
  | some z=>
    obtain ⟨u,t1⟩:=z;rw [e1] at e
    try dsimp only at e
    refine ⟨u,t1,e1,?_⟩
    cases e2:b t1 with
    | none=>rw [e2] at e;cases e
    | some z=>
      obtain ⟨o2,t2⟩:=z;rw [e2] at e
      try dsimp only at e
      refine ⟨o2,t2,e2,?_⟩
      cases o2 with
      | next=>exact ⟨o,t',e,p⟩
      | cont=>exact ⟨o,t',e,p⟩
      | brk=>cases e;exact p
      | ret x=>cases e;exact p
 ·rintro ⟨u,t1,e1,o,t2,e2,p⟩
  cases o with
  | next=>obtain ⟨o,t',e',p⟩:=p;exact ⟨o,t',by unfold CG;simp only [e1,e2];exact e',p⟩
  | cont=>obtain ⟨o,t',e',p⟩:=p;exact ⟨o,t',by unfold CG;simp only [e1,e2];exact e',p⟩
  | brk=>exact ⟨_,_,by unfold CG;simp only [e1,e2],p⟩
  | ret x=>exact ⟨_,_,by unfold CG;simp only [e1,e2],p⟩
theorem Cn {st:D->M Unit}{b:M Out}{P:Out->T->Prop}(I:List D->T->Prop):∀(ds:List D) (t:T),I ds t->
 (∀d r t,I (d :: r) t->d∈ds->W (st d) t λ_ t1=>W b t1 λo t2=>match o with
   | .next=>I r t2
   | .cont=>I r t2
   | .brk=>P .next t2
   | .ret x=>P (.ret x) t2)->(∀t,I [] t->P .next t)->W (CG st b ds) t P
 | [],t,h,_,fin=>W_forL_nil.mpr (fin t h)
 | d :: r,t,h,turn,fin=>by
   rw [W_forL_cons];refine (turn d r t h ue2).mono λ_ t1 h1=>h1.mono λo t2 h2=>?_
   cases o with
   | next=>exact Cn I r t2 h2 (λd' r' t' h' m=>turn d' r' t' h' (ud2 _ m)) fin
   | cont=>exact Cn I r t2 h2 (λd' r' t' h' m=>turn d' r' t' h' (ud2 _ m)) fin
   | brk=>exact h2
   | ret x=>exact h2
@[simp] theorem W_fComp {n:Nat} {fr:List Nat} {f:M (List D)} {st:D->M Unit} {tst:M Bool} {elt:M D} {P:List D->T->Prop}:W (Cz n fr f st tst elt) t P↔W f t λds t1=>W (B7 st tst elt ds) ⟨cenv n fr t1.env,t1.S⟩ λxs t'=>xs.length<=LIM/\P xs ⟨t1.env,t'.S⟩:=by
 unfold Cz;rw [W_bnd];constructor
 ·rintro ⟨ds,t1,e1,xs,t',e2,p⟩;refine ⟨ds,t1,e1,?_⟩;dsimp only at e2
  cases e:B7 st tst elt ds ⟨cenv n fr t1.env,t1.S⟩ with
  | none=>rw [e] at e2;cases e2
  | some z=>
    obtain ⟨ys,t3⟩:=z;rw [e] at e2;dsimp only at e2
    split at e2
    ·cases e2;exact ⟨_,_,e,by assumption,p⟩
    ·cases e2
 ·rintro ⟨ds,t1,e1,xs,t',e2,h,p⟩;exact ⟨ds,t1,e1,xs,_,by simp only [e2,h,if_true],p⟩
@[simp] theorem W_compL_nil {st:D->M Unit} {tst:M Bool} {elt:M D} {P:List D->T->Prop}:W (B7 st tst elt []) t P↔P [] t:=Aw rfl
theorem Lh {st:D->M Unit}{tst:M Bool}{elt:M D}{d:D}{r:List D}{P:List D->T->Prop}:W (B7 st tst elt (d :: r)) t P↔W (st d) t λ_ t1=>W tst t1 λk t2=>
 if k=true then W elt t2 λx t3=>W (B7 st tst elt r) t3 λxs t4=>P (x :: xs) t4 else W (B7 st tst elt r) t2 P:=by
 rw [B7];simp
theorem ID {st:D->M Unit}{tst:M Bool}{elt:M D}{P:List D->T->Prop}(I:List D->List D->T->Prop):∀(ds:List D) (acc:List D) (t:T),I acc ds t->
 (∀acc d r t,I acc (d :: r) t->d∈ds->W (st d) t λ_ t1=>W tst t1 λk t2=>if k=true then W elt t2 λx t3=>I (acc++[x]) r t3 else I acc r t2)->
 (∀acc t,I acc [] t->P acc t)->W (B7 st tst elt ds) t λxs t'=>P (acc++xs) t'
 | [],acc,t,h,_,fin=>W_compL_nil.mpr (by rw [ui1];exact fin acc t h)
 | d :: r,acc,t,h,turn,fin=>by
   rw [Lh];have turn':∀acc d' r' t',I acc (d' :: r') t'->d'∈r->_:=λacc d' r' t' h' m=>turn acc d' r' t' h' (ud2 _ m);refine (turn acc d r t h ue2).mono λ_ t1 h1=>h1.mono λk t2 h2=>?_
   cases k with
   | true=>
     rw [if_pos rfl] at h2 ⊢;refine h2.mono λx t3 h3=>(ID I r (acc++[x]) t3 h3 turn' fin).mono λxs t4 h4=>?_;rw [uf6] at h4;exact h4
   | false=>
     rw [if_neg ue3] at h2 ⊢;exact ID I r acc t2 h2 turn' fin
theorem Ao {n m:Nat}{g:M Out}{ds:List D}{P:D->List Ob->Prop}(h:ds.length=n)(w:W g ⟨env0 m ds,S⟩ λo t=>match o with
 | .ret r=>P r t.S
 | .next=>P .non t.S
 | _=>False):Wf (fnOf n m g) ds S P:=by
 obtain ⟨o,t,e,p⟩:=w
 cases o with
 | ret r=>exact ⟨r,t.S,by unfold fnOf;rw [if_pos h,e],p⟩
 | next=>exact ⟨.non,t.S,by unfold fnOf;rw [if_pos h,e],p⟩
 | brk=>exact p.elim
 | cont=>exact p.elim
@[simp] theorem W_tTru {P:Bool->T->Prop}:W FR t P↔P true t:=Aw rfl
@[simp] theorem aX {P:D->T->Prop}:W ZB t P↔P .dic t:=Aw rfl
end F2
namespace F2
open PySem L2
variable {t:T}{P:D->T->Prop}
theorem KP {α β:Type}{o:Option β}{g:β->α×T}{Q:α->T->Prop}{m:M α}(e:m t=o.map g):W m t Q↔∃b,o=some b/\Q (g b).1 (g b).2:=by
 constructor
 ·rintro ⟨a,t',e',p⟩;rw [e] at e';obtain ⟨b,h1,h2⟩:=uc2.mp e';exact ⟨b,h1,by rw [h2];exact p⟩
 ·rintro ⟨b,h,p⟩;exact ⟨_,_,by rw [e,h];rfl,p⟩
theorem QC {α:Type}{c:Prop}[Decidable c]{z:α×T}{Q:α->T->Prop}{m:M α}(e:m t=if c then some z else none):W m t Q↔c/\Q z.1 z.2:=by
 constructor
 ·rintro ⟨a,t',e',p⟩;rw [e] at e'
  split at e'
  ·cases e';exact ⟨by assumption,p⟩
  ·cases e'
 ·rintro ⟨h,p⟩;exact ⟨_,_,by rw [e,if_pos h],p⟩
theorem Li {α β:Type}{o:Option β}(f:β->α){Q:α->T->Prop}{m:M α}(e:m t=o.map λb=>(f b,t)):W m t Q↔∃b,o=some b/\Q (f b) t:=KP (g:=λb=>(f b,t)) e
theorem Hm {α:Type}{c:Prop}[Decidable c]{a:α}{Q:α->T->Prop}{m:M α}(e:m t=if c then some (a,t) else none):W m t Q↔c/\Q a t:=QC (z:=(a,t)) e
@[simp] theorem W_ix_tup {ds:List D} {i:Int}:W (ixD (.tup ds) (.int i)) t P↔∃d,atI ds i=some d/\P d t:=Li id rfl
@[simp] theorem W_ix_lst {ds:List D} {i:Int}:W (ixD (.lst ds) (.int i)) t P↔∃d,atI ds i=some d/\P d t:=Li id rfl
@[simp] theorem W_ix_scr {ns:List Int} {i:Int}:W (ixD (.scr ns) (.int i)) t P↔∃n,atI ns i=some n/\P (.int n) t:=Li D.int rfl
@[simp] theorem W_ix_str {x:Str} {i:Int}:W (ixD (.str x) (.int i)) t P↔x.length<=LIM/\∃n,atI x.cps.toList i=some n/\P (.str ⟨#[n]⟩) t:=by
 by_cases h:x.length<=LIM
 ·have:ixD (.str x) (.int i) t=(atI x.cps.toList i).map λn=>(.str ⟨#[n]⟩,t):=by simp only [ixD,h,if_true]
  rw [KP this];simp [h]
 ·rw [D5 (by simp only [ixD,h,if_false])];simp [h]
@[simp] theorem W_ix_obj {k:Nat} {i:Int}:W (ixD (.obj k) (.int i)) t P↔∃ds,t.S[k]?=some (.lst ds)/\∃d,atI ds i=some d/\P d t:=by
 cases e:t.S[k]? with
 | none=>rw [D5 (by simp only [ixD,e])];simp
 | some o=>
   cases o with
   | dct _ | ins _ _=>rw [D5 (by simp only [ixD,e])];simp
   | lst ds=>
     have:ixD (.obj k) (.int i) t=(atI ds i).map λd=>(d,t):=by simp only [ixD,e]
     rw [KP this];simp
@[simp] theorem F7 {α:Type} {a:α} {r:List α}:atI (a :: r) 0=some a:=by simp [atI,ixN]
@[simp] theorem ST {α:Type} {a b:α} {r:List α}:atI (a :: b :: r) 1=some b:=by
 have:(1:Int) < ((a :: b :: r).length:Nat):=by simp;lia
 simp only [atI,ixN,this,if_true,show (0:Int)<=1 by decide];rfl
@[simp] theorem SU {α:Type} {a b c:α} {r:List α}:atI (a :: b :: c :: r) 2=some c:=by
 have:(2:Int) < ((a :: b :: c :: r).length:Nat):=by simp;lia
 simp only [atI,ixN,this,if_true,show (0:Int)<=2 by decide];rfl
@[simp] theorem W_len_lst {ds:List D}:W (AN [.lst ds]) t P↔P (.int ds.length) t:=Aw rfl
@[simp] theorem W_len_tup {ds:List D}:W (AN [.tup ds]) t P↔P (.int ds.length) t:=Aw rfl
@[simp] theorem W_len_scr {ds:List Int}:W (AN [.scr ds]) t P↔P (.int ds.length) t:=Aw rfl
@[simp] theorem W_len_str {x:Str}:W (AN [.str x]) t P↔x.length<=LIM/\P (.int x.length) t:=by simp [AN]
@[simp] theorem W_len_obj {k:Nat}:W (AN [.obj k]) t P↔∃ds,t.S[k]?=some (.lst ds)/\P (.int ds.length) t:=by
 cases e:t.S[k]? with
 | none=>rw [D5 (by simp only [AN,e])];simp
 | some o=>
   cases o with
   | dct _ | ins _ _=>rw [D5 (by simp only [AN,e])];simp
   | lst ds=>rw [Aw (a:=.int ds.length) (t':=t) (by simp only [AN,e])];simp
@[simp] theorem W_isi {d:D} {m:String}:W (CI [d,.ty m]) t P↔∃n,tyD d=some n/\∃b,Fk n m=some b/\P (.bl b) t:=by
 cases e:tyD d with
 | none=>rw [D5 (by simp only [CI,e])];simp
 | some n=>
   have:CI [d,.ty m] t=(Fk n m).map λb=>(.bl b,t):=by simp only [CI,e]
   rw [KP this];simp
noncomputable def Gj:D->Bool
 | .non=>true
 | _=>false
noncomputable def ZK (b:Bool):D->Bool
 | .bl c=>c == b
 | _=>false
@[simp] theorem W_is_non {x:D}:W (isC x .non) t P↔P (.bl (Gj x)) t:=Aw (by cases x <;> rfl)
@[simp] theorem aU {x:D} {b:Bool}:W (isC x (.bl b)) t P↔P (.bl (ZK b x)) t:=Aw (by cases x <;> rfl)
@[simp] theorem aT {x y:D}:W (Ph x y) t P↔W (isC x y) t λd t1=>W (toB d) t1 λb t2=>P (.bl (!b)) t2:=by
 unfold Ph;rw [W_bnd];constructor
 ·exact λh=>h.mono λd t1 h1=>by
   cases d with
   | bl b=>simpa using h1
   | _=>exact (W_fail.mp h1).elim
 ·exact λh=>h.mono λd t1 h1=>by
   cases d with
   | bl b=>simpa using h1
   | _=>obtain ⟨_,_,e,_⟩:=h1;cases e
@[simp] theorem W_add_int {i j:Int}:W (AG (.int i) (.int j)) t P↔P (.int (i + j)) t:=Aw rfl
@[simp] theorem W_sub_int {i j:Int}:W (Cl (.int i) (.int j)) t P↔P (.int (i - j)) t:=Aw rfl
@[simp] theorem W_lt_int {i j:Int}:W (ltA (.int i) (.int j)) t P↔P (.bl (decide (i < j))) t:=Aw rfl
@[simp] theorem W_le_int {i j:Int}:W (leA (.int i) (.int j)) t P↔P (.bl (decide (i<=j))) t:=Aw rfl
@[simp] theorem W_gt_int {i j:Int}:W (gtA (.int i) (.int j)) t P↔P (.bl (decide (j < i))) t:=Aw rfl
@[simp] theorem W_ge_int {i j:Int}:W (geA (.int i) (.int j)) t P↔P (.bl (decide (j<=i))) t:=Aw rfl
@[simp] theorem Zv {i j:Str}:W (ltA (.str i) (.str j)) t P↔P (.bl (decide (i.cps.toList < j.cps.toList))) t:=Aw rfl
@[simp] theorem Zt {i j:Str}:W (gtA (.str i) (.str j)) t P↔P (.bl (decide (j.cps.toList < i.cps.toList))) t:=Aw rfl
@[simp] theorem bg {i:Int}:W (ZO (.int i)) t P↔P (.int (-i)) t:=Aw rfl
@[simp] theorem W_fdiv {i j:Int}:W (AU (.int i) (.int j)) t P↔(0 < j/\j < 1073741824)/\P (.int (i / j)) t:=by
 rw [QC (m:=AU (.int i) (.int j)) (c:=KS i j=true) (z:=(.int (i / j),t)) rfl];simp [KS]
@[simp] theorem W_mod {i j:Int}:W (Ba (.int i) (.int j)) t P↔0 < j/\P (.int (i % j)) t:=by
 rw [QC (m:=Ba (.int i) (.int j)) (c:=decide (0 < j)=true) (z:=(.int (i % j),t)) rfl];simp
@[simp] theorem bh {i j:Int}:W (ZY (.int i) (.int j)) t P↔Ta i j=true/\P (.int (i ^ j.toNat)) t:=Hm rfl
@[simp] theorem W_mul_int {i j:Int}:W (B3 (.int i) (.int j)) t P↔EX i j=true/\P (.int (i * j)) t:=Hm rfl
@[simp] theorem W_mul_str {x:Str} {k:Int}:W (B3 (.str x) (.int k)) t P↔(Cg k=true/\x.length * k.toNat<=LIM/\k<=LIM/\x.length<=LIM)/\P (.str (Txt.mul x k)) t:=Hm rfl
theorem Ud {i j:Int}(h1 : -18446744073709551616 < i)(h2:i < 18446744073709551616):EX i j=true:=by simp [EX,h1,h2]
theorem M0 {i j:Int}(h1 : -18446744073709551616 < j)(h2:j < 18446744073709551616):EX i j=true:=by simp [EX,h1,h2]
theorem BH {k:Int}(h1 : -4611686018427387904<=k)(h2:k < 4611686018427387904):Cg k=true:=by simp [Cg,h1,h2]
@[simp] theorem W_add_str {x y:Str}:W (AG (.str x) (.str y)) t P↔x.length + y.length<=LIM/\P (.str (x++y)) t:=by
 have:AG (.str x) (.str y)=lim (x.length + y.length) (.str (x++y)):=rfl;rw [this];simp
@[simp] theorem W_add_lst {x y:List D}:W (AG (.lst x) (.lst y)) t P↔x.length + y.length<=LIM/\P (.lst (x++y)) t:=by
 have:AG (.lst x) (.lst y)=lim (x.length + y.length) (.lst (x++y)):=rfl;rw [this];simp
@[simp] theorem W_cat {x y:List D} {Q:List D->T->Prop}:W (GM (.lst x) (.lst y)) t Q↔x.length + y.length<=LIM/\Q (x++y) t:=by
 have:GM (.lst x) (.lst y)=lim (x.length + y.length) (x++y):=rfl;rw [this];simp
@[simp] theorem bb {i:Int}:W (Zx [.int i]) t P↔P (.int (if i < 0 then -i else i)) t:=Aw rfl
@[simp] theorem W_min {i j:Int}:W (JQ [.int i,.int j]) t P↔P (.int (if j < i then j else i)) t:=Aw rfl
@[simp] theorem W_max {i j:Int}:W (JP [.int i,.int j]) t P↔P (.int (if j > i then j else i)) t:=Aw rfl
@[simp] theorem Zo {i:Int}:W (JN [.int i]) t P↔P (.int i) t:=Aw rfl
@[simp] theorem W_int_bl {b:Bool}:W (JN [.bl b]) t P↔P (.int (if b then 1 else 0)) t:=Aw rfl
@[simp] theorem W_ord {x:Str}:W (Iq [.str x]) t P↔x.length=1/\P (.int (x.cps.getD 0 0:Nat)) t:=Hm rfl
@[simp] theorem Zq {ds:List D}:W (af [.lst ds]) t P↔P (.tup ds) t:=Aw rfl
@[simp] theorem W_lst_lst {ds:List D} {Q:List D->T->Prop}:W (Dh [.lst ds]) t Q↔Q ds t:=Aw rfl
@[simp] theorem Zp {ds:List D} {Q:List D->T->Prop}:W (Dh [.tup ds]) t Q↔Q ds t:=Aw rfl
@[simp] theorem W_eq_str {g:Bool->Bool} {x y:Str}:W (eqS g (.str x) (.str y)) t P↔P (.bl (g (x == y))) t:=Aw rfl
@[simp] theorem W_eq_int {g:Bool->Bool} {x y:Int}:W (eqS g (.int x) (.int y)) t P↔P (.bl (g (x == y))) t:=Aw rfl
@[simp] theorem aS {g:Bool->Bool} {x y:Bool}:W (eqS g (.bl x) (.bl y)) t P↔P (.bl (g (x == y))) t:=Aw rfl
@[simp] theorem W_eq_nil {g:Bool->Bool} {x:List D}:W (eqS g (.lst x) (.lst [])) t P↔P (.bl (g x.isEmpty)) t:=by
 refine Aw ?_
 cases x <;> rfl
theorem G5 {a b:String}:Str.ofString a=Str.ofString b↔a=b:=by
 constructor
 ·intro h;rw [Str.ofString_eq_toList,Str.ofString_eq_toList] at h;injection h with h
  have h:=congrArg Array.toList h;simp only at h;have hinj:∀xs ys:List Char,xs.map Char.toNat=ys.map Char.toNat->xs=ys:=by
   intro xs
   induction xs with
   | nil=>intro ys h;cases ys with | nil=>rfl | cons _ _=>simp at h
   | cons x xs ih=>
     intro ys h
     cases ys with
     | nil=>simp at h
     | cons y ys=>
       simp only [uj9,List.cons.injEq] at h;rw [ih ys h.2,Char.toNat_inj.mp h.1]
  exact String.toList_inj.mp (hinj _ _ (by simpa using h))
 ·exact λh=>by rw [h]
@[simp] theorem WH {a b:String}:(Str.ofString a == Str.ofString b)=(a == b):=by
 rw [Bool.eq_iff_iff,beq_iff_eq,beq_iff_eq,G5]
@[simp] theorem W_sl_lst {ds:List D} {lo hi:Option Int}:W (Iv (.lst ds) lo hi) t P↔P (.lst (Da ds lo hi)) t:=Aw rfl
@[simp] theorem Zw {ds:List Int} {lo hi:Option Int}:W (Iv (.scr ds) lo hi) t P↔P (.lst ((Da ds lo hi).map .int)) t:=Aw rfl
@[simp] theorem W_fSl {f:M D} {l u:M (Option Int)} {h:D->Option Int->Option Int->M D}:W (fSl f l u h) t P↔W f t λx t1=>W l t1 λlo t2=>W u t2 λhi t3=>W (h x lo hi) t3 P:=by simp [fSl]
@[simp] theorem W_fNo {Q:Option Int->T->Prop}:W fNo t Q↔Q none t:=Aw rfl
@[simp] theorem W_asI {i:Int} {Q:Option Int->T->Prop}:W (asI (.int i)) t Q↔Q (some i) t:=Aw rfl
@[simp] theorem W_fPart {f:M D} {Q:Option Int->T->Prop}:W (Ht f) t Q↔W f t λx t1=>W (asI x) t1 Q:=by simp [Ht]
@[simp] theorem W_fItA {f:M D} {Q:List D->T->Prop}:W (DR f) t Q↔W f t λx t1=>W (Dg x) t1 Q:=by simp [DR]
@[simp] theorem W_it_lst {ds:List D} {Q:List D->T->Prop}:W (Dg (.lst ds)) t Q↔Q ds t:=Aw rfl
@[simp] theorem W_it_tup {ds:List D} {Q:List D->T->Prop}:W (Dg (.tup ds)) t Q↔Q ds t:=Aw rfl
@[simp] theorem Zu {ds:List Int} {Q:List D->T->Prop}:W (Dg (.scr ds)) t Q↔Q (ds.map .int) t:=Aw rfl
@[simp] theorem W_it_str {x:Str} {Q:List D->T->Prop}:W (Dg (.str x)) t Q↔Q (x.cps.toList.map λc=>.str ⟨#[c]⟩) t:=Aw rfl
@[simp] theorem W_fRng1 {f:M (List D)} {Q:List D->T->Prop}:W (CA f) t Q↔W f t λx t1=>W (JW x) t1 Q:=by simp [CA]
@[simp] theorem W_fRng2 {f:M (List D)} {Q:List D->T->Prop}:W (FD f) t Q↔W f t λx t1=>W (JX x) t1 Q:=by simp [FD]
@[simp] theorem W_rng1 {j:Int} {Q:List D->T->Prop}:W (JW [.int j]) t Q↔Cg j=true/\Q (A7 0 j.toNat) t:=Hm rfl
@[simp] theorem W_rng2 {i j:Int} {Q:List D->T->Prop}:W (JX [.int i,.int j]) t Q↔(Cg i && Cg j)=true/\Q (A7 i (j - i).toNat) t:=Hm rfl
@[simp] theorem W_ownM {i:Nat} {h:List D->List D->Option (List D)} {g:M (List D)} {Q:Out->T->Prop}:W (ownM i h g) t Q↔(∃xs,t.env[i]?=some (some (.own xs)))/\W g t λds t1=>∃xs,t1.env[i]?=some (some (.own xs))/\∃ys,h xs ds=some ys/\Q .next ⟨t1.env.set i (some (.own ys)),t1.S⟩:=by
 constructor
 ·rintro ⟨o,t',e,p⟩;unfold ownM at e
  split at e
  ·next xs e0=>
   refine ⟨⟨xs,e0⟩,?_⟩;obtain ⟨ds,t1,e1,e⟩:=Af e;refine ⟨ds,t1,e1,?_⟩
   split at e
   ·next ys e2=>
    obtain ⟨zs,e3,e4⟩:=uc2.mp e
    cases e4
    exact ⟨ys,e2,zs,e3,p⟩
   ·cases e
  ·cases e
 ·rintro ⟨⟨xs,e0⟩,ds,t1,e1,ys,e2,zs,e3,p⟩;exact ⟨_,_,by unfold ownM bnd;simp only [e0,e1,e2,e3,ui6],p⟩
@[simp] theorem app1_one {xs:List D} {d:D} {ys:List D}:Bu xs [d]=some ys↔xs.length < LIM/\xs++[d]=ys:=by
 unfold Bu;split <;> simp [*]
@[simp] theorem bi {f g:M D} {d:D} {Q:Unit->T->Prop}:W (stD f g d) t Q↔W f t λo t1=>W g t1 λi t2=>W (Xw o i d) t2 Q:=by simp [stD]
end F2
namespace F2
open PySem L2
variable {t:T}{P:D->T->Prop}{Q:List D->T->Prop}{R:Out->T->Prop}{B:Bool->T->Prop}{U:Unit->T->Prop}
def EK (k:Bool)(A B:Prop):Prop:=if k=true then A else B
theorem Em {k:Bool}{A B:Prop}(h:k=true)(a:A):EK k A B:=by unfold EK;rw [if_pos h];exact a
theorem DF {k:Bool}{A B:Prop}(h:k=false)(b:B):EK k A B:=by unfold EK;rw [if_neg (by rw [h];exact ue3)];exact b
theorem BQ {k:Bool}{A B:Prop}(a:k=true->A)(b:k=false->B):EK k A B:=by cases h:k with
 | true=>exact Em rfl (a h)
 | false=>exact DF rfl (b h)
def Ex (g:M Out)(R:Out->T->Prop)(o:Out)(t1:T):Prop:=match o with
 | .next=>W g t1 R
 | o=>R o t1
variable {g:M Out}{t1:T}
theorem Bi (h:W g t1 R):Ex g R .next t1:=h
theorem So {d:D}(h:R (.ret d) t1):Ex g R (.ret d) t1:=h
theorem Ki {f:M Out}(h:W f t (Ex g R)):W (Ae f g) t R:=W_seqS.mpr (h.mono λo t1 h1=>by cases o <;> exact h1)
theorem Op (h:R .next t):W Ap t R:=W_skipS.mpr h
variable {f:M D}
theorem aK (h:W f t λd t1=>R (.ret d) t1):W (Am f) t R:=W_retS.mpr h
theorem Y1 (h:W f t λd t1=>R .next t1):W (B2 f) t R:=W_dropS.mpr h
theorem wIf {f:M Bool}{h:M Out}(w:W f t λk t1=>EK k (W g t1 R) (W h t1 R)):W (ifS f g h) t R:=W_ifS.mpr w
theorem XW {i:Nat}(h:W f t λd t1=>R .next ⟨t1.env.set i (some (.val d)),t1.S⟩):W (As i f) t R:=W_setS.mpr h
theorem aJ {i:Nat}{f:M (List D)}(h:W f t λd t1=>R .next ⟨t1.env.set i (some (.own d)),t1.S⟩):W (DV i f) t R:=W_ownS.mpr h
theorem aj {g:D->M Unit}(h:W f t λd t1=>W (g d) t1 λ_ t2=>R .next t2):W (BD f g) t R:=W_asgS.mpr h
theorem am {f:M (List D)}{st:D->M Unit}{b:M Out}(h:W f t λds t1=>W (CG st b ds) t1 R):W (BV f st b) t R:=W_forS.mpr h
theorem wC {d:D}(h:P d t):W (fC d) t P:=W_fC.mpr h
theorem Ez {i:Nat}{d:D}(e:t.env[i]?=some (some (.val d)))(h:P d t):W (Aa i) t P:=by rw [OC,e];exact h
variable {ds:List D}
theorem Zk {i:Nat}(e:t.env[i]?=some (some (.own ds)))(h:P (.lst ds) ⟨t.env.set i (some (.val (.lst ds))),t.S⟩):W (Aa i) t P:=by rw [OC,e];exact h
theorem Ke {g:M D}{h:D->D->M D}(w:W f t λx t1=>W g t1 λy t2=>W (h x y) t2 P):W (Ac f g h) t P:=W_fBin.mpr w
theorem wUn {h:D->M D}(w:W f t λx t1=>W (h x) t1 P):W (fUn f h) t P:=W_fUn.mpr w
theorem B1 {α β:Type}{f:M α}{g:α->M β}{K:β->T->Prop}(w:W f t λx t1=>W (g x) t1 K):W (bnd f g) t K:=W_bnd.mpr w
theorem Oq {b:Bool}(h:B b t):W (toB (.bl b)) t B:=W_toB.mpr h
theorem Os (h:W f t λx t1=>W (toB x) t1 B):W (Aj f) t B:=W_fTst.mpr h
theorem XI {g w:M D}{h h':D->D->M D}(q:W f t λx t1=>W g t1 λy t2=>W (h x y) t2 λk t3=>W (toB k) t3 λk t4=>EK k (W w t4 λz t5=>W (h' y z) t5 P) (P (.bl false) t4)):W (ED f g w h h') t P:=W_fChain.mpr q
theorem ag {f g:M Bool}(h:W f t λk t1=>EK k (W g t1 B) (B false t1)):W (Fe f g) t B:=W_fAnd.mpr h
theorem wOr {f g:M Bool}(h:W f t λk t1=>EK k (B true t1) (W g t1 B)):W (fOr f g) t B:=W_fOr.mpr h
theorem aH {f:M Bool}(h:W f t λk t1=>B (!k) t1):W (BT f) t B:=W_fNot.mpr h
theorem YU {g:M D}(h:W f t λx t1=>W (toB x) t1 λk t2=>EK k (W g t2 P) (P (.bl false) t2)):W (DP f g) t P:=W_fAndV.mpr h
theorem Za (h:W f t λx t1=>W (toB x) t1 λk t2=>P (.bl (!k)) t2):W (IQ f) t P:=W_fNotV.mpr h
theorem au {f:M Bool}{g h:M D}(w:W f t λk t1=>EK k (W g t1 P) (W h t1 P)):W (fIf f g h) t P:=W_fIf.mpr w
theorem Hf (h:Q [] t):W Ad t Q:=W_fNil.mpr h
theorem DE {g:M (List D)}(h:W f t λd t1=>W g t1 λds t2=>Q (d :: ds) t2):W (Ab f g) t Q:=W_fCons.mpr h
def Gk (n:Nat)(A:Prop):Prop:=n<=LIM/\A
variable {n:Nat}
theorem Bx {A:Prop}(h:n<=LIM)(a:A):Gk n A:=⟨h,a⟩
theorem aO {f:M (List D)}(h:W f t λds t1=>Gk ds.length (P (.tup ds) t1)):W (AX f) t P:=W_fTup.mpr h
theorem aD {f:M (List D)}(h:W f t λds t1=>Gk ds.length (Q ds t1)):W (AB f) t Q:=W_fLst.mpr h
theorem Zd {f:M (List D)}(h:W f t λds t1=>P (.lst ds) t1):W (Aq f) t P:=W_fPure.mpr h
theorem aI {f:M (List D)}(h:W f t λds t1=>P (.obj t1.S.length) ⟨t1.env,t1.S++[.lst ds]⟩):W (Gc f) t P:=by rw [VC];exact h.mono λds t1 h=>W_newOb.mpr h
theorem HH {g:Fn}{f:M (List D)}(h:W f t λds t1=>Wf g ds t1.S λr S'=>P r ⟨t1.env,S'⟩):W (Ai g f) t P:=W_fCall.mpr h
theorem wB {f:M (List D)}{h:List D->M D}(w:W f t λds t1=>W (h ds) t1 P):W (fB f h) t P:=W_fB.mpr w
theorem wBF {f:M (List D)}{h:List D->M (List D)}(w:W f t λds t1=>W (h ds) t1 Q):W (fBF f h) t Q:=W_fBF.mpr w
theorem Kg {i:Nat}{d:D}(h:U () ⟨t.env.set i (some (.val d)),t.S⟩):W (Ay i d) t U:=W_putV.mpr h
theorem Vm (h:U () t):W (BY []) t U:=W_putNil.mpr h
theorem SK {f:D->M Unit}{g:List D->M Unit}{d:D}(h:W (f d) t λ_ t1=>W (g ds) t1 U):W (AF f g (d :: ds)) t U:=W_putCons.mpr h
theorem aP {g:List D->M Unit}(e:ds.length=n)(h:W (g ds) t U):W (unS n g (.lst ds)) t U:=W_unS_lst.mpr ⟨e,h⟩
theorem aQ {g:List D->M Unit}(e:ds.length=n)(h:W (g ds) t U):W (unS n g (.tup ds)) t U:=W_unS_tup.mpr ⟨e,h⟩
theorem YZ {fr:List Nat}{f:M (List D)}{st:D->M Unit}{tst:M Bool}{elt:M D}(h:W f t λds t1=>W (B7 st tst elt ds) ⟨cenv n fr t1.env,t1.S⟩ λxs t'=>Gk xs.length (Q xs ⟨t1.env,t'.S⟩)):W (Cz n fr f st tst elt) t Q:=W_fComp.mpr h
theorem XX (h:B true t):W FR t B:=W_tTru.mpr h
variable {i:Int}
theorem ET {d:D}(e:atI ds i=some d)(h:P d t):W (ixD (.tup ds) (.int i)) t P:=W_ix_tup.mpr ⟨d,e,h⟩
theorem Bg {d:D}(e:atI ds i=some d)(h:P d t):W (ixD (.lst ds) (.int i)) t P:=W_ix_lst.mpr ⟨d,e,h⟩
theorem Om (h:P (.int ds.length) t):W (AN [.lst ds]) t P:=W_len_lst.mpr h
theorem Tn (h:P (.int ds.length) t):W (AN [.tup ds]) t P:=W_len_tup.mpr h
theorem Y5 {ds:List Int}(h:P (.int ds.length) t):W (AN [.scr ds]) t P:=W_len_scr.mpr h
theorem Tm {k:Nat}(e:t.S[k]?=some (.lst ds))(h:P (.int ds.length) t):W (AN [.obj k]) t P:=W_len_obj.mpr ⟨ds,e,h⟩
theorem K6 {x:Str}(e:x.length<=LIM)(h:P (.int x.length) t):W (AN [.str x]) t P:=W_len_str.mpr ⟨e,h⟩
theorem ax {d:D}{m n:String}{b:Bool}(e:tyD d=some n)(e':Fk n m=some b)(h:P (.bl b) t):W (CI [d,.ty m]) t P:=W_isi.mpr ⟨n,e,b,e',h⟩
theorem aw {x:D}(h:P (.bl (Gj x)) t):W (isC x .non) t P:=W_is_non.mpr h
variable {j:Int}
theorem YR (h:P (.int (i + j)) t):W (AG (.int i) (.int j)) t P:=W_add_int.mpr h
theorem Zi (h:P (.int (i - j)) t):W (Cl (.int i) (.int j)) t P:=W_sub_int.mpr h
theorem aE (h:P (.bl (decide (i < j))) t):W (ltA (.int i) (.int j)) t P:=W_lt_int.mpr h
theorem aC (h:P (.bl (decide (i<=j))) t):W (leA (.int i) (.int j)) t P:=W_le_int.mpr h
theorem ap (h:P (.bl (decide (j < i))) t):W (gtA (.int i) (.int j)) t P:=W_gt_int.mpr h
theorem ao (h:P (.bl (decide (j<=i))) t):W (geA (.int i) (.int j)) t P:=W_ge_int.mpr h
theorem Kf (h1:0 < j)(h2:j < 1073741824)(h:P (.int (i / j)) t):W (AU (.int i) (.int j)) t P:=W_fdiv.mpr ⟨⟨h1,h2⟩,h⟩
theorem Fz (h1:0 < j)(h:P (.int (i % j)) t):W (Ba (.int i) (.int j)) t P:=W_mod.mpr ⟨h1,h⟩
theorem On (h1:EX i j=true)(h:P (.int (i * j)) t):W (B3 (.int i) (.int j)) t P:=W_mul_int.mpr ⟨h1,h⟩
theorem To {x:Str}{k:Int}(h1:Cg k=true/\x.length * k.toNat<=LIM/\k<=LIM/\x.length<=LIM)(h:P (.str (Txt.mul x k)) t):W (B3 (.str x) (.int k)) t P:=W_mul_str.mpr ⟨h1,h⟩
theorem YT {x y:Str}(h:Gk (x.length + y.length) (P (.str (x++y)) t)):W (AG (.str x) (.str y)) t P:=W_add_str.mpr h
theorem YS {x y:List D}(h:Gk (x.length + y.length) (P (.lst (x++y)) t)):W (AG (.lst x) (.lst y)) t P:=W_add_lst.mpr h
theorem ak {x y:List D}(h:Gk (x.length + y.length) (Q (x++y) t)):W (GM (.lst x) (.lst y)) t Q:=W_cat.mpr h
theorem aG (h:P (.int (if j < i then j else i)) t):W (JQ [.int i,.int j]) t P:=W_min.mpr h
theorem aF (h:P (.int (if j > i then j else i)) t):W (JP [.int i,.int j]) t P:=W_max.mpr h
theorem Y3 {i:Bool}(h:P (.int (if i then 1 else 0)) t):W (JN [.bl i]) t P:=W_int_bl.mpr h
theorem XU {x:Str}(e:x.length=1)(h:P (.int (x.cps.getD 0 0:Nat)) t):W (Iq [.str x]) t P:=W_ord.mpr ⟨e,h⟩
theorem Y6 (h:Q ds t):W (Dh [.lst ds]) t Q:=W_lst_lst.mpr h
theorem SH {g:Bool->Bool}{x y:Str}(h:P (.bl (g (x == y))) t):W (eqS g (.str x) (.str y)) t P:=W_eq_str.mpr h
theorem XL {g:Bool->Bool}{x y:Int}(h:P (.bl (g (x == y))) t):W (eqS g (.int x) (.int y)) t P:=W_eq_int.mpr h
theorem XN {g:Bool->Bool}{x:List D}(h:P (.bl (g x.isEmpty)) t):W (eqS g (.lst x) (.lst [])) t P:=W_eq_nil.mpr h
theorem aM {lo hi:Option Int}(h:P (.lst (Da ds lo hi)) t):W (Iv (.lst ds) lo hi) t P:=W_sl_lst.mpr h
theorem wSl {l u:M (Option Int)}{h:D->Option Int->Option Int->M D}(w:W f t λx t1=>W l t1 λlo t2=>W u t2 λhi t3=>W (h x lo hi) t3 P):W (fSl f l u h) t P:=W_fSl.mpr w
variable {K:Option Int->T->Prop}
theorem wNo (h:K none t):W fNo t K:=W_fNo.mpr h
theorem ai (h:K (some i) t):W (asI (.int i)) t K:=W_asI.mpr h
theorem Zc (h:W f t λx t1=>W (asI x) t1 K):W (Ht f) t K:=W_fPart.mpr h
theorem ay (h:W f t λx t1=>W (Dg x) t1 Q):W (DR f) t Q:=W_fItA.mpr h
theorem az (h:Q ds t):W (Dg (.lst ds)) t Q:=W_it_lst.mpr h
theorem aB (h:Q ds t):W (Dg (.tup ds)) t Q:=W_it_tup.mpr h
theorem aA {x:Str}(h:Q (x.cps.toList.map λc=>.str ⟨#[c]⟩) t):W (Dg (.str x)) t Q:=W_it_str.mpr h
theorem Zf {f:M (List D)}(h:W f t λx t1=>W (JW x) t1 Q):W (CA f) t Q:=W_fRng1.mpr h
theorem Zg {f:M (List D)}(h:W f t λx t1=>W (JX x) t1 Q):W (FD f) t Q:=W_fRng2.mpr h
theorem Hg (e:Cg j=true)(h:Q (A7 0 j.toNat) t):W (JW [.int j]) t Q:=W_rng1.mpr ⟨e,h⟩
theorem SL (e:(Cg i && Cg j)=true)(h:Q (A7 i (j - i).toNat) t):W (JX [.int i,.int j]) t Q:=W_rng2.mpr ⟨e,h⟩
theorem Zb {i:Nat}{xs:List D}{h:List D->List D->Option (List D)}{g:M (List D)}(e:t.env[i]?=some (some (.own xs)))(w:W g t λds t1=>∃xs,t1.env[i]?=some (some (.own xs))/\∃ys,h xs ds=some ys/\R .next ⟨t1.env.set i (some (.own ys)),t1.S⟩):W (ownM i h g) t R:=W_ownM.mpr ⟨⟨xs,e⟩,w⟩
theorem ah {i:Nat}{xs:List D}{d:D}{A:List D->Prop}(e:t1.env[i]?=some (some (.own xs)))(w:Gk (xs.length + 1) (A (xs++[d]))):∃xs,t1.env[i]?=some (some (.own xs))/\∃ys,Bu xs [d]=some ys/\A ys:=
 ⟨xs,e,_,app1_one.mpr ⟨w.1,rfl⟩,w.2⟩
end F2
namespace F2
open PySem L2
variable {i:Nat}{g:Fn}{d':D}
section
variable {t:T}{P:D->T->Prop}{B:Bool->T->Prop}{Q:List D->T->Prop}
theorem Zj {n:Int}{ds:List D}{d:D}(e:t.env[i]?=some (some (.val (.tup ds))))(a:atI ds n=some d)(h:P d t):W (Ac (Aa i) (fC (.int n)) ixD) t P:=Ke (Ez e (wC (ET a h)))
theorem Y4 {x y:Str}{ds:List D}{g:Bool->Bool}(e:t.env[i]?=some (some (.val (.tup (.str y :: ds)))))(h:B (g (y == x)) t):W (Aj (Ac (Ac (Aa i) (fC (.int 0)) ixD) (fC (.str x)) (eqS g))) t B:=Os (Ke (Ke (Ez e (wC (ET F7 (wC (SH (Oq h))))))))
theorem XZ {x y:Str}{g:Bool->Bool}(e:t.env[i]?=some (some (.val (.str y))))(h:B (g (y == x)) t):W (Aj (Ac (Aa i) (fC (.str x)) (eqS g))) t B:=Os (Ke (Ez e (wC (SH (Oq h)))))
theorem XY {x y:Int}{g:Bool->Bool}(e:t.env[i]?=some (some (.val (.int y))))(h:B (g (y == x)) t):W (Aj (Ac (Aa i) (fC (.int x)) (eqS g))) t B:=Os (Ke (Ez e (wC (XL (Oq h)))))
theorem Vi {d:D}(e:t.env[i]?=some (some (.val d)))(h:Wf g [d] t.S λr S'=>P r ⟨t.env,S'⟩):W (Ai g (Ab (Aa i) Ad)) t P:=HH (DE (Ez e (Hf h)))
theorem Vj {j:Nat}{d:D}(e:t.env[i]?=some (some (.val d)))(e':t.env[j]?=some (some (.val d')))(h:Wf g [d,d'] t.S λr S'=>P r ⟨t.env,S'⟩):W (Ai g (Ab (Aa i) (Ab (Aa j) Ad))) t P:=HH (DE (Ez e (DE (Ez e' (Hf h)))))
theorem Vl {d:D}(e:t.env[i]?=some (some (.val d)))(h:Wf g [d,d'] t.S λr S'=>P r ⟨t.env,S'⟩):W (Ai g (Ab (Aa i) (Ab (fC d') Ad))) t P:=HH (DE (Ez e (DE (wC (Hf h)))))
theorem Vk {j k:Nat}{d d'':D}(e:t.env[i]?=some (some (.val d)))(e':t.env[j]?=some (some (.val d')))(e'':t.env[k]?=some (some (.val d'')))(h:Wf g [d,d',d''] t.S λr S'=>P r ⟨t.env,S'⟩):W (Ai g (Ab (Aa i) (Ab (Aa j) (Ab (Aa k) Ad)))) t P:=HH (DE (Ez e (DE (Ez e' (DE (Ez e'' (Hf h)))))))
end
end F2
set_option maxHeartbeats 4000000
namespace LW
open PySem L2 F2
set_option compiler.extract_closed false
local macro_rules | `(tactic| clear 31 $t*)=>`(tactic| with_reducible first $[| refine $t ?_]*)
local macro_rules | `(tactic| clear 32 $t*)=>`(tactic| ((with_reducible first $[| refine' $t ?wv ?_]*);(case wv=>exact rfl)))
local macro_rules | `(tactic| clear 33 $t*)=>`(tactic| ((with_reducible first $[| refine' $t ?wv ?_]*);(case wv=>decide)))
local macro_rules | `(tactic| walk_at "w1")=>`(tactic| first
 | clear 32 Y4 XZ Vi
 | clear 32 XY Vl
 | ((with_reducible refine' Zj ?wv ?wu ?_);(case wv=>exact rfl);(case wu=>first | exact rfl | exact F7 | exact ST | exact SU))
 | ((with_reducible refine' Vj ?wv ?wu ?_);(case wv=>exact rfl);(case wu=>exact rfl))
 | ((with_reducible refine' Vk ?wv ?wu ?wt ?_);(case wv=>exact rfl);(case wu=>exact rfl);(case wt=>exact rfl))
 | clear 31 Ki Bi So XW Ke wC DE Hf wIf Os Oq aK HH SH XL YR Zi Op wB wBF Zd aO aD aI aj am ag wOr aH YU Za au XI wUn aw aE aC ap ao Om Tn Y5 aG aF Y3 Y6 YT YS ak XN wSl wNo Zc ai aM ay az aB aA Zf Zg Kg Vm SK YZ XX aJ B1 Y1
 | clear 32 Ez Em aP Zb ah
 | clear 32 DF Zk aQ
 | ((with_reducible first | refine' ET ?wv ?_ | refine' Bg ?wv ?_);(case wv=>first | exact rfl | exact F7 | exact ST | exact SU))
 | ((with_reducible refine Bx ?wv ?_);(case wv=>exact Nat.le_of_ble_eq_true rfl))
 | ((with_reducible refine' ax ?wv ?wu ?_);(case wv=>exact rfl);(case wu=>exact rfl))
 | ((with_reducible refine Kf ?wv ?wu ?_);(case wv=>decide);(case wu=>decide))
 | clear 33 Fz Hg SL)
local macro_rules | `(tactic| right)=>`(tactic| repeat (walk_at "w1"))
structure DeckAt (k c:Nat)(S:List Ob):Prop where
 ne:k≠c
 at_:∃(cells:List Int) (par pos:Int),S[k]?=some (.lst [.obj c,.int par,.int pos])/\S[c]?=some (.lst (cells.map .int))/\cells≠[]/\0<=pos
def bq (k c:Nat)(S S':List Ob):Prop:=S'.length=S.length/\∀j:Nat,j≠k->j≠c->S'[j]?=S[j]?
variable {n:Nat}
theorem D0 {i:Int}(h0:0<=i)(h1:i < n):ixN n i=some i.toNat:=by simp [ixN,h0,h1]
variable {S:List Ob}
theorem T0 {k:Nat}{o o':Ob}(h:S[k]?=some o):(S.set k o')[k]?=some o':=by
 obtain ⟨hl,_⟩:=ua9.mp h;exact ub8 hl
inductive Sh where
 | nothing | number (lo hi:Int) | text (m:Int) | list (s:Sh) (m:Int) | pair (s r:Sh) | choice (ss:List Sh)
mutual
noncomputable def Sh.d:Sh->D
 | .nothing=>.tup [.str "nothing"]
 | .number lo hi=>.tup [.str "number",.int lo,.int hi]
 | .text m=>.tup [.str "text",.int m]
 | .list s m=>.tup [.str "list",s.d,.int m]
 | .pair s r=>.tup [.str "pair",s.d,r.d]
 | .choice ss=>.tup [.str "choice",.tup (shD ss)]
noncomputable def shD:List Sh->List D
 | []=>[]
 | s :: r=>s.d :: shD r
end
mutual
noncomputable def Sh.depth:Sh->Nat
 | .nothing=>1
 | .number _ _=>1
 | .text _=>1
 | .list s _=>s.depth + 1
 | .pair s r=>max s.depth r.depth + 1
 | .choice ss=>Ee ss + 1
noncomputable def Ee:List Sh->Nat
 | []=>0
 | s :: r=>max s.depth (Ee r)
end
theorem C1:∀ss:List Sh,(shD ss).length=ss.length
 | []=>rfl
 | s :: r=>by simp [shD,C1 r]
theorem E2:∀(ss:List Sh) (k:Nat),(shD ss)[k]?=(ss[k]?).map Sh.d
 | [],k=>by simp [shD]
 | s :: r,0=>by simp [shD]
 | s :: r,k + 1=>by simp [shD,E2 r k]
theorem Ce:∀(ss:List Sh) (k:Nat) (s:Sh),ss[k]?=some s->s.depth<=Ee ss
 | [],k,s,h=>by simp at h
 | s :: r,0,s',h=>by simp at h;subst h;simp [Ee];lia
 | s :: r,k + 1,s',h=>by
   have:=Ce r k s' (by simpa using h);simp [Ee];lia
theorem Sh.depth_pos (s:Sh):1<=s.depth:=by cases s <;> simp [Sh.depth]
noncomputable def Bm (n:Nat):Bool:=decide (32<=n) && decide (n<=126) && decide (n≠37)
noncomputable def GW:Str->Bool:=λo=>o == ("of" : Str)
mutual
def Ah:Sh->D->Bool
 | .nothing,d=>Gj d
 | .number lo hi,d=>match d with
   | .int i=>decide (lo<=i) && decide (i<=hi)
   | _=>false
 | .text m,d=>match d with
   | .str x=>decide ((x.length:Int)<=m) && x.cps.toList.all Bm
   | _=>false
 | .list s m,d=>match d with
   | .lst ds=>decide ((ds.length:Int)<=m) && ds.all λe=>Ah s e
   | _=>false
 | .pair s r,d=>match d with
   | .tup [a,b]=>Ah s a && Ah r b
   | _=>false
 | .choice ss,d=>match d with
   | .tup [.str o,.int k,x]=>GW o && (decide (0<=k) && decide (k < ss.length)) && IX ss k.toNat x
   | _=>false
def IX:List Sh->Nat->D->Bool
 | [],_,_=>false
 | s :: _,0,d=>Ah s d
 | _ :: r,k + 1,d=>IX r k d
end
theorem B9:∀(ss:List Sh) (k:Nat) (s:Sh) (d:D),ss[k]?=some s->IX ss k d=Ah s d
 | [],k,s,d,h=>by simp at h
 | s :: r,0,s',d,h=>by simp at h;subst h;simp [IX]
 | s :: r,k + 1,s',d,h=>by rw [IX];exact B9 r k s' d (by simpa using h)
mutual
noncomputable def okD:D->Bool
 | .str x=>decide (x.length<=90000)
 | .tup xs=>oks xs
 | .lst xs=>oks xs
 | .obj _=>false
 | .scr _=>false
 | .exc _ _=>false
 | .ty _=>false
 | _=>true
noncomputable def oks:List D->Bool
 | []=>true
 | d :: r=>okD d && oks r
end
theorem HA:∀{xs:List D},oks xs=true->∀d∈xs,okD d=true
 | x :: r,h,d,m=>by
   rw [oks,uh0] at h;rcases uj8.mp m with z | z
   ·subst z;exact h.1
   ·exact HA h.2 d z
abbrev Pure1 (f:Fn)(ds:List D)(r:D):Prop:=∀S,Wf f ds S λv S'=>v=r/\S'=S
variable {ds:List D}{r:D}
theorem Pure1.use {f:Fn}(h:Pure1 f ds r){S:List Ob}{P:D->List Ob->Prop}(p:P r S):Wf f ds S P:=(h S).mono λ_ _ ⟨e1,e2⟩=>by subst e1 e2;exact p
noncomputable def Pg:D->Bool
 | .int _=>true
 | _=>false
theorem LN {d:D}(h:okD d=true):Pure1 (fnOf 1 1 FP) [d] (.bl (Pg d)):=by
 intro S;refine Ao rfl ?_;unfold FP
 cases d <;> first | (simp [okD] at h;done) | (right;exact ⟨rfl,rfl⟩)
noncomputable def E3 (lo hi:Int):D->Bool
 | .int i=>decide (lo<=i) && decide (i<=hi)
 | _=>false
def MG (f:Fn):Prop:=∀d,okD d=true->Pure1 f [d] (.bl (Pg d))
def F6 (f:Fn):Prop:=∀d lo hi,okD d=true->Pure1 f [d,.int lo,.int hi] (.bl (E3 lo hi d))
variable {c:Fn}
theorem Qx (hc:MG c):F6 (fnOf 3 3 (Dm c)):=by
 intro d lo hi h S;refine Ao rfl ?_;unfold Dm;right;refine (hc d h).use ?_
 cases d with
 | int i=>
   right;refine BQ (λe=>?_) λe=>?_
   ·right;exact ⟨by simp only [E3,e,uk4],rfl⟩
   ·exact ⟨by simp only [E3,e,uj2],rfl⟩
 | _=>right;exact ⟨rfl,rfl⟩
def IC (f:Fn):Prop:=∀n:Nat,Pure1 f [.int n] (.bl (Bm n))
theorem NN:IC (fnOf 1 1 G0):=by
 intro n S;refine Ao rfl ?_;unfold G0;right;have c1:decide ((32:Int)<=n)=decide (32<=n):=decide_eq_decide.mpr (by lia);have c2:decide ((n:Int)<=126)=decide (n<=126):=decide_eq_decide.mpr (by lia);have c3:(!((n:Int) == 37))=decide (n≠37):=by
  by_cases h:n=37
  ·subst h;rfl
  ·have:¬((n:Int)=37):=by lia
   simp [h,this]
 rw [c1];refine BQ (λe=>?_) λe=>?_
 ·right;rw [c2];refine BQ (λe'=>?_) λe'=>?_
  ·right;exact ⟨by simp only [Bm,e,e',c3,uk4],rfl⟩
  ·exact ⟨by simp only [Bm,e,e',uj2,uj4],rfl⟩
 ·right;exact ⟨by simp only [Bm,e,uj2],rfl⟩
def Lf (f:Fn):Prop:=∀m d,okD d=true->Pure1 f [(Sh.text m).d,d] (.bl (Ah (.text m) d))
theorem LJ (hc:IC c):Lf (fnOf 2 3 (FO c)):=by
 intro m d h S;refine Ao rfl ?_;unfold FO;rw [Sh.d]
 cases d with
 | str x=>
   have hx:x.length<=LIM:=ul1 (by simpa [okD] using h) (show 90000<=LIM by decide);right;refine K6 hx ?_;right;refine BQ (λe=>?_) λe=>?_
   ·right;have:¬((x.length:Int)<=m):=by have:=ug2 e;lia
    exact ⟨by simp [Ah,this],rfl⟩
   ·right;have e':(x.length:Int)<=m:=by have:=of_decide_eq_false e;lia
    refine Cn (λr t=>t.S=S/\∃cs:List Nat,r=cs.map (λc=>D.str ⟨#[c]⟩)/\(x.cps.toList.all Bm=cs.all Bm)/\∃z,t.env=[some (.val (.tup [.str "text",.int m])),some (.val (.str x)),z]) _ _ ⟨rfl,x.cps.toList,rfl,rfl,_,rfl⟩ ?_ ?_
    ·rintro d r t ⟨hs,cs,hr,hall,z,ht⟩ _;obtain ⟨env,S2⟩:=t;subst hs ht
     cases cs with
     | nil=>simp at hr
     | cons c cs=>
       simp only [uj9,List.cons.injEq] at hr;obtain ⟨rfl,rfl⟩:=hr;right;refine XU rfl ?_;right;refine (hc c).use ?_;right;refine BQ (λq=>?_) λq=>?_
       ·right;have q':Bm c=false:=by simpa using q
        refine ⟨?_,rfl⟩;simp only [Ah,hall,uk2,q',uj2,uj4]
       ·right;have q':Bm c=true:=by simpa using q
        exact ⟨rfl,cs,rfl,by rw [hall,uk2,q',uk4],_,rfl⟩
    ·rintro t ⟨hs,cs,hr,hall,z,ht⟩;obtain ⟨env,S2⟩:=t;subst hs ht;have:cs=[]:=by cases cs with | nil=>rfl | cons _ _=>simp at hr
     subst this;right;exact ⟨by simp [Ah,e',hall],rfl⟩
 | obj _=>simp [okD] at h
 | scr _=>simp [okD] at h
 | ty _=>simp [okD] at h
 | exc _ _=>simp [okD] at h
 | _=>right;exact ⟨by simp [Ah],rfl⟩
def E4 (f:Fn)(n:Nat):Prop:=∀s:Sh,s.depth<=n->∀d,okD d=true->Pure1 f [s.d,d] (.bl (Ah s d))
def Ox (f:Fn)(n:Nat):Prop:=∀(s:Sh) (m:Int),s.depth<=n->∀d,okD d=true->Pure1 f [(Sh.list s m).d,d] (.bl (Ah (.list s m) d))
theorem LH (hc:E4 c n):Ox (fnOf 2 3 (FM c)) n:=by
 intro s m hs d h S;refine Ao rfl ?_;unfold FM;rw [Sh.d]
 cases d with
 | lst ds=>
   have hx:∀d∈ds,okD d=true:=HA (by simpa [okD] using h);right;refine BQ (λe=>?_) λe=>?_
   ·right;have:¬((ds.length:Int)<=m):=by have:=ug2 e;lia
    exact ⟨by simp [Ah,this],rfl⟩
   ·right;have e':(ds.length:Int)<=m:=by have:=of_decide_eq_false e;lia
    refine Cn (λr t=>t.S=S/\(ds.all (λe=>Ah s e)=r.all λe=>Ah s e)/\∃z,t.env=[some (.val (.tup [.str "list",s.d,.int m])),some (.val (.lst ds)),z]) _ _ ⟨rfl,rfl,_,rfl⟩ ?_ ?_
    ·rintro d r t ⟨hS,hall,z,ht⟩ hm;obtain ⟨env,S2⟩:=t;subst hS ht;right;refine (hc s hs d (hx d hm)).use ?_;right;refine BQ (λq=>?_) λq=>?_
     ·right;have q':Ah s d=false:=by simpa using q
      refine ⟨?_,rfl⟩;simp only [Ah,hall,uk2,q',uj2,uj4]
     ·right;have q':Ah s d=true:=by simpa using q
      exact ⟨rfl,by rw [hall,uk2,q',uk4],_,rfl⟩
    ·rintro t ⟨hS,hall,z,ht⟩;obtain ⟨env,S2⟩:=t;subst hS ht;right;exact ⟨by simp only [Ah,e',decide_true,hall,List.all_nil,uk4],rfl⟩
 | obj _=>simp [okD] at h
 | scr _=>simp [okD] at h
 | ty _=>simp [okD] at h
 | exc _ _=>simp [okD] at h
 | _=>right;exact ⟨by simp [Ah],rfl⟩
def OB (f:Fn)(n:Nat):Prop:=∀(s r:Sh),s.depth<=n->r.depth<=n->∀d,okD d=true->Pure1 f [(Sh.pair s r).d,d] (.bl (Ah (.pair s r) d))
theorem LI (hc:E4 c n):OB (fnOf 2 2 (FN c)) n:=by
 intro s r hs hr d h S;refine Ao rfl ?_;unfold FN;rw [Sh.d]
 cases d with
 | tup ds=>
   have hx:∀d∈ds,okD d=true:=HA (by simpa [okD] using h);right
   match ds,hx with
   | [],_=>right;exact ⟨by simp [Ah],rfl⟩
   | [a],_=>right;exact ⟨by simp [Ah],rfl⟩
   | [a,b],hx=>
     right;refine (hc s hs a (hx a (by simp))).use ?_;right;refine BQ (λe=>?_) λe=>?_
     ·right;refine (hc r hr b (hx b (by simp))).use ?_;exact ⟨by simp only [Ah,e,uk4],rfl⟩
     ·exact ⟨by simp only [Ah,e,uj2],rfl⟩
   | a :: b :: e :: l,_=>
     refine Em ?_ ?_
     ·show (!(((a :: b :: e :: l).length:Int) == 2))=true;simp;lia
     right;exact ⟨by simp [Ah],rfl⟩
 | obj _=>simp [okD] at h
 | scr _=>simp [okD] at h
 | ty _=>simp [okD] at h
 | exc _ _=>simp [okD] at h
 | _=>right;exact ⟨by simp [Ah],rfl⟩
def K9 (f:Fn)(n:Nat):Prop:=∀(ss:List Sh),Ee ss<=n->∀d,okD d=true->Pure1 f [(Sh.choice ss).d,d] (.bl (Ah (.choice ss) d))
theorem JL {c':Fn}(hc:E4 c n)(hw:F6 c'):K9 (fnOf 2 2 (EO c c')) n:=by
 intro ss hs d h S;refine Ao rfl ?_;unfold EO;rw [Sh.d]
 cases d with
 | tup ds=>
   have hx:∀d∈ds,okD d=true:=HA (by simpa [okD] using h);right
   match ds,hx with
   | [],_=>right;exact ⟨by simp [Ah],rfl⟩
   | [a],_=>right;exact ⟨by simp [Ah],rfl⟩
   | [a,b],_=>right;exact ⟨by simp [Ah],rfl⟩
   | [a,b,e],hx=>
     right;have ha:=hx a (by simp)
     cases a with
     | str o=>
       right;refine BQ (λq=>?_) λq=>?_
       ·right;have q':GW o=false:=by simpa [GW] using q
        refine ⟨?_,rfl⟩
        cases b <;> simp only [Ah,q',uj2]
       ·right;have q':GW o=true:=by simpa [GW] using q
        refine (hw b 0 _ (hx b (by simp))).use ?_;right
        cases b with
        | int k=>
          refine BQ (λq=>?_) λq=>?_
          ·right;refine ⟨?_,rfl⟩;have:(decide (0<=k) && decide (k < (ss.length:Int)))=false:=by
            have q2:k < 0\/((shD ss).length:Int) - 1 < k:=by simpa [E3] using q
            rw [C1] at q2;simp;lia
           simp only [Ah,this,uj2,uj4]
          ·have q2:0<=k/\k<=((shD ss).length:Int) - 1:=by simpa [E3] using q
           have q3:=q2;rw [C1] at q3;have hk:k.toNat < ss.length:=by lia
           have e1:ss[k.toNat]?=some ss[k.toNat]:=ub3 hk;have e2:atI (shD ss) k=some (ss[k.toNat]).d:=by
            unfold atI;rw [C1,D0 q3.1 (by lia)];simp [E2,e1]
           right;refine ET e2 ?_;right;refine (hc _ (ul1 (Ce ss _ _ e1) hs) e (hx e (by simp))).use ?_;refine ⟨?_,rfl⟩;have:(decide (0<=k) && decide (k < (ss.length:Int)))=true:=by simp;lia
           simp only [Ah,q',this,uk4,B9 ss _ _ e e1]
        | _=>
          right;exact ⟨by simp [Ah],rfl⟩
     | obj _=>simp [okD] at ha
     | scr _=>simp [okD] at ha
     | ty _=>simp [okD] at ha
     | exc _ _=>simp [okD] at ha
     | _=>right;exact ⟨by simp [Ah],rfl⟩
   | a :: b :: e :: f :: l,_=>
     refine Em ?_ ?_
     ·show (!(((a :: b :: e :: f :: l).length:Int) == 3))=true;simp;lia
     right;exact ⟨by simp [Ah],rfl⟩
 | obj _=>simp [okD] at h
 | scr _=>simp [okD] at h
 | ty _=>simp [okD] at h
 | exc _ _=>simp [okD] at h
 | _=>right;exact ⟨by simp [Ah],rfl⟩
variable {cc cp cl ct cw:Fn}
theorem TM (h1:K9 cc n)(h2:OB cp n)(h3:Ox cl n)(h4:Lf ct)(h5:F6 cw):E4 (fnOf 2 3 (LS cc cp cl ct cw)) (n + 1):=by
 intro s hs d h S;refine Ao rfl ?_;unfold LS
 cases s with
 | nothing=>
   rw [Sh.d];right;exact ⟨by rw [Ah],rfl⟩
 | number lo hi=>
   rw [Sh.d];right;refine (h5 d lo hi h).use ⟨?_,rfl⟩
   cases d <;> simp [Ah,E3]
 | text m=>
   rw [Sh.d];right;exact (h4 m d h).use ⟨rfl,rfl⟩
 | list s m=>
   rw [Sh.depth] at hs;have q:=h3 s m (by lia) d h;rw [Sh.d] at q ⊢;right;exact q.use ⟨rfl,rfl⟩
 | pair s r=>
   rw [Sh.depth] at hs;have q:=h2 s r (by lia) (by lia) d h;rw [Sh.d] at q ⊢;right;exact q.use ⟨rfl,rfl⟩
 | choice ss=>
   rw [Sh.depth] at hs;have q:=h1 ss (by lia) d h;rw [Sh.d] at q ⊢;right;exact q.use ⟨rfl,rfl⟩
theorem Kr (x:Array Nat):∀(n:Nat) (acc:Array Nat),((List.replicate n x).foldl (·++·) acc).toList=acc.toList++(List.replicate n x.toList).flatten
 | 0,acc=>by simp
 | n + 1,acc=>by
   rw [ud9,List.foldl_cons,Kr x n,ud9,uf5];simp
theorem Py {x:Str}{k:Int}:(Txt.mul x k).cps.toList=(List.replicate k.toNat x.cps.toList).flatten:=by
 unfold Txt.mul
 split
 ·have:k.toNat=0:=by lia
  rw [this];rfl
 ·split
  ·next h=>
   rw [Bool.or_eq_true] at h;rcases h with h | h
   ·have:k=1:=by simpa using h
    subst this;simp
   ·have:x.cps.toList=[]:=by
     have h':x.length=0:=by simpa using h
     exact ua2 (by simpa [Str.length] using h')
    rw [this];simp
  ·have:=Kr x.cps k.toNat #[];simpa using this
theorem EG (x:Str):x.length=x.cps.toList.length:=by simp [Str.length]
theorem Kk (x y:Str):(x++y).cps.toList=x.cps.toList++y.cps.toList:=by
 show (x.cps++y.cps).toList=_;simp
theorem UL {α:Type}(a:α)(k:Nat):(List.replicate k [a]).flatten=List.replicate k a:=by
 induction k with
 | zero=>rfl
 | succ k ih=>rw [ud9,uf5,ih,ud9];rfl
variable {elt:M D}
theorem FA {f:D->D}{fr:List (Option Sl)}{z:Option Sl}(h:∀d∈ds,W elt ⟨some (.val d) :: fr,S⟩ λx t'=>x=f d/\t'=⟨some (.val d) :: fr,S⟩) :
 W (B7 (Ay 0) FR elt ds) ⟨z :: fr,S⟩ λxs t'=>xs=ds.map f/\t'.S=S:=by
 refine (ID (P:=λxs t'=>xs=ds.map f/\t'.S=S) (λacc r t=>acc++r.map f=ds.map f/\∃z,t=⟨z :: fr,S⟩) ds [] _ ⟨rfl,z,rfl⟩ ?_ ?_).mono λxs t' h=>h
 ·rintro acc d r t ⟨h1,z,rfl⟩ hm;refine Kg (XX ?_);rw [if_pos rfl];refine (h d hm).mono λx t' z9=>?_;obtain ⟨e1,e2⟩:=z9;subst e1 e2;exact ⟨by rw [uf6];exact h1,_,rfl⟩
 ·rintro acc t ⟨h1,z,rfl⟩;exact ⟨by simpa using h1,rfl⟩
variable {tst:M Bool}
theorem Lg {p:D->Bool}{fr:List (Option Sl)}{z:Option Sl}(h:∀d∈ds,W tst ⟨some (.val d) :: fr,S⟩ λb t'=>b=p d/\t'=⟨some (.val d) :: fr,S⟩) :
 W (B7 (Ay 0) tst (Aa 0) ds) ⟨z :: fr,S⟩ λxs t'=>xs=ds.filter p/\t'.S=S:=by
 refine (ID (P:=λxs t'=>xs=ds.filter p/\t'.S=S) (λacc r t=>acc++r.filter p=ds.filter p/\∃z,t=⟨z :: fr,S⟩) ds [] _ ⟨rfl,z,rfl⟩ ?_ ?_).mono λxs t' h=>h
 ·rintro acc d r t ⟨h1,z,rfl⟩ hm;refine Kg ((h d hm).mono λb t' z9=>?_);obtain ⟨e1,e2⟩:=z9;subst e1 e2
  by_cases hp:p d=true
  ·rw [if_pos hp];refine Ez (d:=d) rfl ⟨?_,_,rfl⟩;rw [List.filter_cons,if_pos hp] at h1;rw [uf6];exact h1
  ·rw [if_neg hp];rw [List.filter_cons,if_neg hp] at h1;exact ⟨h1,_,rfl⟩
 ·rintro acc t ⟨h1,z,rfl⟩;exact ⟨by simpa using h1,rfl⟩
mutual
noncomputable def sz:D->Nat
 | .tup xs=>szs xs + 1
 | .lst xs=>szs xs + 1
 | _=>1
noncomputable def szs:List D->Nat
 | []=>0
 | d :: r=>sz d + szs r
end
theorem Vc {x y:Str}(h:x.cps.toList=y.cps.toList):x=y:=by
 cases x;cases y
 congr
 exact Array.toList_inj.mp h
mutual
noncomputable def wf:Sh->Bool
 | .nothing=>true
 | .number lo hi=>decide (-1000000000000000000 < lo) && decide (lo<=hi) && decide (hi < 1000000000000000000)
 | .text m=>decide (0<=m) && decide (m<=250)
 | .list s m=>decide (0<=m) && decide (m<=250) && wf s
 | .pair s r=>wf s && wf r
 | .choice ss=>decide (1<=ss.length) && decide (ss.length<=9) && wfs ss
noncomputable def wfs:List Sh->Bool
 | []=>true
 | s :: r=>wf s && wfs r
end
mutual
noncomputable def cnt:Sh->Nat
 | .list s _=>cnt s + 1
 | .pair s r=>cnt s + cnt r + 1
 | .choice ss=>VO ss + 1
 | _=>1
noncomputable def VO:List Sh->Nat
 | []=>0
 | s :: r=>cnt s + VO r
end
theorem D4:∀{ss:List Sh},wfs ss=true->∀s∈ss,wf s=true
 | x :: r,h,s,m=>by
   rw [wfs,uh0] at h;rcases uj8.mp m with z | z
   ·subst z;exact h.1
   ·exact D4 h.2 s z
theorem Kz:∀{ss:List Sh} {s:Sh},s∈ss->s.depth<=Ee ss
 | x :: r,s,m=>by
   rw [Ee];rcases uj8.mp m with z | z
   ·subst z;lia
   ·have:=Kz z;lia
def No (k c l:Nat)(S S':List Ob):Prop:=S'.length=S.length/\∀j:Nat,j≠k->j≠c->j≠l->S'[j]?=S[j]?
noncomputable def Oc (deep:Int):Int:=if deep < 2 then 0 else 2 * deep + 4
def bd (deep x:Int):Int:=if deep < 2 then 1 else max x 1 + Oc deep - (if deep + 1<=x then 1 else 0)
def tb (deep y i:Int):Int:=if deep=2 then i else if i=0 then 0 else y + Oc (deep - 1) + i - 1 - (if deep<=y then 1 else 0)
structure ShapeRes (k c l:Nat)(S:List Ob)(deep x:Int)(s:Sh)(S':List Ob):Prop where
 w:wf s=true
 dep:(s.depth:Int)<=max deep 1
 lft:S'[l]?=some (.lst [.int (x - cnt s)])
 one:x<=1->cnt s=1
 few:(cnt s:Int)<=max x 1 + Oc deep
 deck:DeckAt k c S'
 kp:No k c l S S'
 few2:(cnt s:Int)<=bd deep x
theorem LU {k:Int}:(Txt.mul ⟨#[n]⟩ k).cps.toList=List.replicate k.toNat n:=by rw [Py];exact UL n k.toNat
theorem LP {k:Int}:(Txt.mul ⟨#[n]⟩ k).length=k.toNat:=by rw [EG,LU,uc9]
theorem QG {k:Int}(h:Bm n=true):(Txt.mul ⟨#[n]⟩ k).cps.toList.all Bm=true:=by
 rw [LU,uh2];intro x hx;rw [List.eq_of_mem_replicate hx];exact h
structure Sep (ks:List (Nat×Nat)):Prop where
 sep:∀p∈ks,∀q∈ks,p=q\/(q.1≠p.1/\q.1≠p.2/\q.2≠p.1/\q.2≠p.2)
mutual
noncomputable def dpt:D->Nat
 | .lst ds=>QP ds + 1
 | .tup ds=>QP ds + 1
 | _=>1
noncomputable def QP:List D->Nat
 | []=>0
 | d :: r=>max (dpt d) (QP r)
end
mutual
noncomputable def smD:D->Bool
 | .str x=>decide (x.length<=300)
 | .int i=>decide (-1000000000000000000000000 < i) && decide (i < 1000000000000000000000000)
 | .tup xs=>decide (xs.length<=300) && sms xs
 | .lst xs=>decide (xs.length<=300) && sms xs
 | .obj _=>false
 | .scr _=>false
 | .ty _=>false
 | .exc _ _=>false
 | _=>true
noncomputable def sms:List D->Bool
 | []=>true
 | d :: r=>smD d && sms r
end
theorem GP {f:D->D->Option Bool}:∀{xs:List D},(∀d∈xs,f d d=some true)->Dc f xs xs=some true
 | [],_=>rfl
 | x :: r,h=>by
   rw [Dc,h x ue2,GP λd m=>h d (ud2 _ m)];rfl
variable {t:T}{P:D->T->Prop}
theorem C3 {d:D}{g:Bool->Bool}(h0:Ri d=false)(h:eqN EQD d d=some true)(p:P (.bl (g true)) t):W (eqS g d d) t P:=⟨_,_,by simp [eqS,h0,h],p⟩
structure ValueRes (k c l:Nat)(S:List Ob)(s:Sh)(r:D)(S':List Ob):Prop where
 fit:Ah s r=true
 lft:∃a b:Int,S'[l]?=some (.lst [.int a,.int b])
 deck:DeckAt k c S'
 kp:No k c l S S'
theorem HJ {f:M (List D)}{P:Out->T->Prop}(h:W f t λds t1=>P (.ret (.lst ds)) t1):W (Gu f) t P:=W_bnd.mpr (h.mono λ_ _ p=>W_ret.mpr p)
theorem F1 {g:Fn}{f:M (List D)}{P:List D->T->Prop}(h:W f t λds t1=>Wf g ds t1.S λr S'=>∃rs,r = .lst rs/\P rs ⟨t1.env,S'⟩):W (DL g f) t P:=by
 refine W_bnd.mpr (h.mono λds t1 z9=>?_);obtain ⟨r,S',e,rs,er,p⟩:=z9;subst er;exact ⟨rs,⟨t1.env,S'⟩,by simp only [e],p⟩
variable {i:Nat}{xs:List D}
theorem Vr {P:Out->T->Prop}(e:t.env[i]?=some (some (.own xs)))(h:P (.ret (.lst xs)) ⟨t.env.set i none,t.S⟩):W (F0 i) t P:=⟨_,_,by simp only [F0,e],h⟩
theorem YX {i:Int}(h:P (.int (Builtin.Int.intBits i:Nat)) t):W (IF (.int i)) t P:=⟨_,_,rfl,h⟩
theorem aL {i j:Int}(h0:0<=j)(h:P (.int (i / 2 ^ j.toNat)) t):W (Mj (.int i) (.int j)) t P:=⟨_,_,by simp [Mj,i2C,h0],h⟩
variable {ys:List D}{t1:T}
theorem al {A:List D->Prop}(e:t1.env[i]?=some (some (.own xs)))(l:xs.length + ys.length<=LIM)(w:A (xs++ys)):∃xs,t1.env[i]?=some (some (.own xs))/\∃zs,EJ xs [.lst ys]=some zs/\A zs:=
 ⟨xs,e,xs++ys,by simp [EJ,l],w⟩
theorem F5 {f:M Bool}{b:M Out}{P:Out->T->Prop}(I:Nat->T->Prop)(turn:∀n t,I n t->W f t λk t1=>match k with
 | true=>∃m,n=m + 1/\W b t1 λo t2=>match o with
   | .next=>I m t2
   | .cont=>I m t2
   | .brk=>P .next t2
   | .ret x=>P (.ret x) t2
 | false=>P .next t1):∀(fuel n:Nat) (t:T),n < fuel->I n t->W (CZ f b fuel) t P
 | 0,n,t,h,_=>absurd h (Nat.not_lt_zero _)
 | fuel + 1,n,t,h,i=>by
   obtain ⟨k,t1,e1,p⟩:=turn n t i
   cases k with
   | false=>exact ⟨_,_,by simp only [CZ,e1],p⟩
   | true=>
     obtain ⟨m,rfl,o,t2,e2,p⟩:=p
     cases o with
     | next=>obtain ⟨o,t',e',p⟩:=F5 I turn fuel m t2 (by lia) p;exact ⟨o,t',by simp only [CZ,e1,e2];exact e',p⟩
     | cont=>obtain ⟨o,t',e',p⟩:=F5 I turn fuel m t2 (by lia) p;exact ⟨o,t',by simp only [CZ,e1,e2];exact e',p⟩
     | brk=>exact ⟨_,_,by simp only [CZ,e1,e2],p⟩
     | ret x=>exact ⟨_,_,by simp only [CZ,e1,e2],p⟩
noncomputable def wid (n:Nat):Nat:=if n=0 then 0 else n.log2 / 8 + 1
theorem Pq (h:2<=n):n.log2=(n / 2).log2 + 1:=by rw [Nat.log2_def,if_pos h]
theorem Rn (h:n < 2):n.log2=0:=by rw [Nat.log2_def,if_neg (by lia)]
theorem LQ:∀(k:Nat) {n:Nat},2 ^ k<=n->n.log2=(n / 2 ^ k).log2 + k
 | 0,n,_=>by rw [Nat.pow_zero,Nat.div_one,Nat.add_zero]
 | k + 1,n,h=>by
   have h2:2 ^ k * 2<=n:=by rw [<-ul4];exact h
   have h3:2<=n / 2 ^ k:=(Nat.le_div_iff_mul_le (Nat.pow_pos (by decide))).mpr (by rw [Nat.mul_comm];exact h2);rw [LQ k (ul1 (Nat.le_mul_of_pos_right _ (by decide)) h2),Pq h3,uc4,<-ul4,uk5,Nat.add_comm 1 k]
theorem Rl (h:256<=n):n.log2=(n / 256).log2 + 8:=LQ 8 h
theorem Rm (h:n < 256):n.log2 < 8:=by
 by_cases z:n=0
 ·subst z;rw [Rn (by lia)];lia
 ·exact (Nat.log2_lt z).mpr h
theorem GA (h:0 < n):wid n=wid (n / 256) + 1:=by
 unfold wid;rw [if_neg (by lia)]
 by_cases z:n < 256
 ·have:=Rm z;rw [if_pos (by lia)];lia
 ·rw [if_neg (by lia),Rl (by lia)];lia
theorem Hh:∀(k n:Nat),n < 256 ^ k->wid n<=k
 | 0,n,h=>by
   have:n=0:=by simpa using h
   subst this;decide
 | k + 1,n,h=>by
   by_cases z:n=0
   ·subst z;exact um0 _
   ·rw [GA (by lia)];have:=Hh k (n / 256) (Nat.div_lt_of_lt_mul (by rw [ul4] at h;lia));lia
theorem QI (n:Nat):((Builtin.Int.intBits (n:Int):Nat) + 7) / 8=wid n:=by
 unfold Builtin.Int.intBits wid
 by_cases z:n=0
 ·subst z;rfl
 ·have:((n:Int) == 0)=false:=by simp;exact z
  rw [this,if_neg (by simp),if_neg z,Int.natAbs_natCast];lia
noncomputable def nb:Nat->Nat->List D
 | 0,_=>[]
 | w + 1,n=>nb w (n / 256)++[.int ((n % 256:Nat):Int)]
theorem LV:∀w n,(nb w n).length=w
 | 0,n=>rfl
 | w + 1,n=>by rw [nb,ue6,LV];rfl
theorem PB:∀w n:Nat,(List.range w).map (λk=>D.int ((n / 2 ^ (8 * (w - 1 - k)) % 256:Nat):Int))=nb w n
 | 0,n=>rfl
 | w + 1,n=>by
   rw [List.range_succ,ui7,nb,<-PB w (n / 256)]
   congr 1
   ·refine ue0 λk hk=>?_;rw [uj1] at hk;have e:8 * (w + 1 - 1 - k)=8 + 8 * (w - 1 - k):=by lia
    rw [e,Nat.pow_add,uc4]
   ·simp
mutual
def Ax:Sh->D->List D
 | .nothing,_=>[]
 | .number lo hi,d=>match d with
   | .int i=>nb (wid (hi - lo).toNat) (i - lo).toNat
   | _=>[]
 | .text _,d=>match d with
   | .str x=>.int (x.length:Nat) :: x.cps.toList.map λn=>D.int (n:Nat)
   | _=>[]
 | .list s _,d=>match d with
   | .lst ds=>.int (ds.length:Nat) :: (ds.map λd=>Ax s d).flatten
   | _=>[]
 | .pair s r,d=>match d with
   | .tup [a,b]=>Ax s a++Ax r b
   | _=>[]
 | .choice ss,d=>match d with
   | .tup [_,.int k,x]=>.int k :: IG ss k.toNat x
   | _=>[]
def IG:List Sh->Nat->D->List D
 | [],_,_=>[]
 | s :: _,0,d=>Ax s d
 | _ :: r,k + 1,d=>IG r k d
end
theorem DX:∀(ss:List Sh) (k:Nat) (s:Sh) (d:D),ss[k]?=some s->IG ss k d=Ax s d
 | [],k,s,d,h=>by simp at h
 | s :: r,0,s',d,h=>by simp at h;subst h;simp [IG]
 | s :: r,k + 1,s',d,h=>by rw [IG];exact DX r k s' d (by simpa using h)
def Hi (f:Fn)(n:Nat):Prop:=∀(s:Sh),s.depth<=n->wf s=true->∀d,Ah s d=true->(Ax s d).length<=LIM->Pure1 f [s.d,d] (.lst (Ax s d))
def GG (f:Fn):Prop:=∀(n j:Nat),j<=1000->Pure1 f [.int n,.int j] (.int ((n / 2 ^ (8 * j):Nat):Int))
theorem T7:GG (fnOf 2 2 G2):=by
 intro n j hj S;refine Ao rfl ?_;unfold G2;right;refine On (Ud (by decide) (by decide)) ?_;refine aL (by lia) ?_;refine ⟨?_,rfl⟩;have:(8 * (j:Int)).toNat=8 * j:=by lia
 rw [this];simp
def IE (f:Fn):Prop:=∀n:Nat,n < 256 ^ 9->Pure1 f [.int n] (.int (wid n:Nat))
theorem SN:IE (fnOf 1 1 ER):=by
 intro n _ S;refine Ao rfl ?_;unfold ER;right;refine YX ?_;right;refine ⟨?_,rfl⟩;rw [<-QI];simp
def Lc (f:Fn):Prop:=∀(n w:Nat),w<=1000->Pure1 f [.int n,.int w] (.lst (nb w n))
theorem Na (i:Int)(n:Nat):A7 i n=(List.range n).map λk:Nat=>D.int (i + k):=by
 rfl
theorem Ui (hc:GG c):Lc (fnOf 2 2 (Es c)):=by
 intro n w hw S;have hL:LIM=100000:=rfl;refine Ao rfl ?_;unfold Es;refine HJ ?_;right;refine SL (by rw [BH (by decide) (by decide),BH (by lia) (by lia)];rfl) ?_;refine (FA (f:=λd=>match d with | .int k=>.int ((n / 2 ^ (8 * (w - k.toNat)) % 256:Nat):Int) | _=>d) (fr:=[some (.val (.int n)),some (.val (.int w))]) ?_).mono ?_
 ·intro d m;rw [Na] at m;obtain ⟨k,hk,rfl⟩:=ul5.mp m;rw [uj1] at hk;right;have e:((w:Int) - (1 + (k:Int)))=((w - (1 + k):Nat):Int):=by lia
  rw [e];refine (hc n (w - (1 + k)) (by lia)).use ?_;right;refine ⟨?_,rfl⟩;have e2:(1 + (k:Int)).toNat=1 + k:=by lia
  dsimp only;rw [e2];simp
 ·rintro xs t' ⟨rfl,hS⟩;have hn:((w:Int) + 1 - 1).toNat=w:=by lia
  rw [Na,hn];refine Bx (by simp only [uh9,List.length_range,hL];lia) ?_;refine ⟨?_,hS⟩;rw [<-PB w n,List.map_map]
  congr 1
  refine ue0 λk hk=>?_;rw [uj1] at hk;have e2:(1 + (k:Int)).toNat=1 + k:=by lia
  have e3:w - (1 + k)=w - 1 - k:=by lia
  simp only [Function.comp,e2,e3]
theorem Nk {lo hi:Int}(h:wf (.number lo hi)=true):(hi - lo).toNat < 256 ^ 9:=by
 simp only [wf,uh0,ug1] at h;have:(256:Nat) ^ 9=4722366482869645213696:=by decide
 lia
theorem OL (x:Str):(x.cps.toList.map λc=>D.str ⟨#[c]⟩).map (λd=>match d with | .str y=>D.int (y.cps.getD 0 0:Nat) | _=>d)=x.cps.toList.map λn=>D.int (n:Nat):=by
 rw [List.map_map];refine ue0 λn _=>?_;rfl
variable {cn:Fn}
theorem TL (hc:Hi c n)(hw:IE cw)(hn:Lc cn):Hi (fnOf 2 5 (Eb c cw cn)) (n + 1):=by
 intro s hs hwf d hf hlen S;have hL:LIM=100000:=rfl;refine Ao rfl ?_;unfold Eb
 cases s with
 | nothing=>
   rw [Sh.d];right;refine HJ ?_;right;exact ⟨by rw [Ax],rfl⟩
 | number lo hi=>
   have hsp:=Nk hwf;have hwd:=Hh 9 _ hsp;simp only [wf,uh0,ug1] at hwf
   cases d <;> simp [Ah] at hf
   rename_i i;rw [Sh.d];right;refine HJ (F1 ?_);right;have e1:hi - lo=(((hi - lo).toNat:Nat):Int):=by lia
   have e2:i - lo=(((i - lo).toNat:Nat):Int):=by lia
   rw [e1,e2];refine (hw _ hsp).use ?_;right;refine (hn _ _ (by lia)).use ?_;exact ⟨_,rfl,by rw [Ax],rfl⟩
 | text q=>
   simp only [wf,uh0,ug1] at hwf
   cases d <;> simp [Ah] at hf
   rename_i x;rw [Sh.d];right;refine HJ ?_;refine B1 ?_;right;refine K6 (by rw [hL];lia) ?_;right;refine (FA (f:=λd=>match d with | .str y=>D.int (y.cps.getD 0 0:Nat) | _=>d) (fr:=[]) ?_).mono ?_
   ·intro d m;obtain ⟨k,hk,rfl⟩:=ul5.mp m;right;refine XU rfl ?_;exact ⟨rfl,rfl⟩
   ·rintro xs t' ⟨rfl,hS⟩;rw [OL];have hl:x.cps.toList.length<=250:=by rw [<-EG];lia
    refine Bx (by rw [uh9,hL];lia) ?_;right;refine Bx (by simp only [uh9,ug4,ui5,hL];lia) ?_;exact ⟨by rw [Ax];rfl,hS⟩
 | list s q=>
   simp only [wf,uh0,ug1] at hwf;rw [Sh.depth] at hs
   cases d <;> simp only [Ah,ue7] at hf
   rename_i ds;rw [uh0,ug1,uh2] at hf;rw [Ax] at hlen ⊢;rw [Sh.d];right;refine Cn (λr t=>∃(z:Option Sl) (acc:List D),t=⟨[some (.val (.tup [.str "list",s.d,.int q])),some (.val (.lst ds)),some (.val (.str "list")),some (.own acc),z],S⟩/\acc++(r.map λd=>Ax s d).flatten = .int (ds.length:Nat) :: (ds.map λd=>Ax s d).flatten) _ _ ⟨_,_,rfl,rfl⟩ ?_ ?_
   ·rintro d r t ⟨z,acc,rfl,hacc⟩ m;rw [uj9,uf5,<-uf6] at hacc;have hl:acc.length + (Ax s d).length<=LIM:=by
     have:=congrArg List.length hacc;rw [ue6,ue6] at this;lia
    right;refine F1 ?_;right;refine (hc s (uc5 hs) hwf.2 d (hf.2 d m) (ul1 (Nat.le_add_left _ _) hl)).use ⟨_,rfl,?_⟩;right;refine al rfl hl ?_;exact ⟨_,_,rfl,hacc⟩
   ·rintro t ⟨z,acc,rfl,hacc⟩;rw [ul3,List.flatten_nil,ui1] at hacc;right;refine Vr rfl ?_;exact ⟨by rw [hacc],rfl⟩
 | pair s r=>
   simp only [wf,uh0] at hwf;rw [Sh.depth] at hs;unfold Ah at hf
   split at hf
   case h_2=>cases hf
   case h_1 a b=>
    rw [uh0] at hf;rw [Ax] at hlen ⊢;rw [ue6] at hlen;rw [Sh.d];right;refine HJ ?_;refine B1 ?_;right;refine F1 ?_;right;refine (hc s (ul1 (Nat.le_max_left _ _) (uc5 hs)) hwf.1 a hf.1 (ul1 (uh1 _ _) hlen)).use ⟨_,rfl,?_⟩;refine B1 ?_;right;refine F1 ?_;right;refine (hc r (ul1 (Nat.le_max_right _ _) (uc5 hs)) hwf.2 b hf.2 (ul1 (Nat.le_add_left _ _) hlen)).use ⟨_,rfl,?_⟩;right;refine Bx hlen ?_;exact ⟨rfl,rfl⟩
 | choice ss=>
   simp only [wf,uh0,ug1] at hwf;rw [Sh.depth] at hs;unfold Ah at hf
   split at hf
   case h_2=>cases hf
   case h_1 o k x=>
    simp only [uh0,ug1] at hf;obtain ⟨⟨ho,k0,k1⟩,hf⟩:=hf;have hk:k.toNat < ss.length:=by lia
    have e1:ss[k.toNat]?=some ss[k.toNat]:=ub3 hk;have hl:=C1 ss;have e2:atI (shD ss) k=some (ss[k.toNat]).d:=by
     unfold atI;rw [D0 k0 (by lia)];show (shD ss)[k.toNat]?=_;rw [E2,e1];rfl
    rw [B9 ss _ _ _ e1] at hf;rw [Ax] at hlen ⊢;rw [DX ss _ _ _ e1] at hlen ⊢;rw [ug4] at hlen;rw [Sh.d];right;refine HJ ?_;right;refine F1 ?_;right;refine ET e2 ?_;right;refine (hc _ (ul1 (Ce ss _ _ e1) (uc5 hs)) (D4 hwf.2 _ (uh4 hk)) x hf (Nat.le_of_succ_le hlen)).use ⟨_,rfl,?_⟩;right;refine Bx (by simp only [ug4,ui5];lia) ?_;exact ⟨rfl,rfl⟩
theorem Ji (a:Int)(n:Nat):(A7 a n).length=n:=by simp [A7]
variable {j:Nat}
theorem JU {a:Int}{d:D}{r:List D}(e:d :: r=(A7 a n).drop j):d = .int (a + j)/\r=(A7 a n).drop (j + 1)/\j < n:=by
 have hj:j < (A7 a n).length:=by
  rcases ul6 j (A7 a n).length with h | h
  ·exact h
  ·rw [uc6 h] at e;cases e
 rw [ub1 hj] at e;injection e with e1 e2
 rw [Ji] at hj;refine ⟨?_,e2,hj⟩;rw [e1];simp [A7]
noncomputable def sgs:Str:=" !\"#$ &'()*+,-./0123456789:;<=>?@ABCDEFGHIJKLMNOPQRSTUVWXYZ[\\]^_`abcdefghijklmnopqrstuvwxyz{|}~"
theorem Xu {c:Nat}(h:Bm c=true):atI sgs.cps.toList ((c:Int) - 32)=some c:=by
 have hl:sgs.cps.toList.length=95:=by decide +kernel
 have hall:(List.range 127).all (λc=>!Bm c || decide (sgs.cps.toList[c - 32]?=some c))=true:=by decide +kernel
 have h':=h;simp only [Bm,uh0,ug1] at h';have:=uh2.mp hall c (uj1.mpr (by lia));rw [h,Bool.not_true,uk3,ug1] at this;rw [show ((c:Int) - 32)=((c - 32:Nat):Int) by lia];exact Ho this
variable {f:M D}{n':Str}
section
variable {t:T}{P:D->T->Prop}{R:Out->T->Prop}
def SD (h:D->M Out)(R:Out->T->Prop)(o:Out)(t1:T):Prop:=match o with
 | .ret (.exc n ds)=>n∈Be/\W (h (.exc n ds)) t1 R
 | o=>R o t1
theorem aN {b:M Out}{h:D->M Out}(w:W b t (SD h R)):W (Ey b h) t R:=by
 obtain ⟨o,t1,e,q⟩:=w;have rest:∀d,Bb d=false->o = .ret d->W (Ey b h) t R:=λd hd ho=>by
  subst ho;refine ⟨.ret d,t1,?_,?_⟩
  ·unfold Ey;rw [e];cases d <;> first | rfl | cases hd
  ·cases d <;> first | exact q | cases hd
 cases o with
 | next=>exact ⟨.next,t1,by unfold Ey;rw [e],q⟩
 | brk=>exact ⟨.brk,t1,by unfold Ey;rw [e],q⟩
 | cont=>exact ⟨.cont,t1,by unfold Ey;rw [e],q⟩
 | ret d=>
   cases d with
   | exc n ds=>
     obtain ⟨hn,o2,t2,e2,q2⟩:=q;exact ⟨o2,t2,by unfold Ey;rw [e];dsimp only;rw [if_pos hn,e2],q2⟩
   | _=>exact rest _ rfl rfl
theorem Qi {h:D->M Out}(q:R .next t1):SD h R .next t1:=q
theorem Vf {h:D->M Out}{n:Str}(e:n∈Be)(q:W (h (.exc n ds)) t1 R):SD h R (.ret (.exc n ds)) t1:=⟨e,q⟩
def xK (d:D)(A B:Prop):Prop:=if Bb d=true then A else B
theorem Zm {d:D}{A B:Prop}(e:Bb d=false)(b:B):xK d A B:=by unfold xK;rw [if_neg (by rw [e];decide)];exact b
theorem Zl {d:D}{A B:Prop}(e:Bb d=true)(a:A):xK d A B:=by unfold xK;rw [if_pos e];exact a
theorem Zh (w:W f t λd t1=>xK d (R (.ret d) t1) (R .next ⟨t1.env.set i (some (.val d)),t1.S⟩)):W (CT i f) t R:=by
 refine B1 (w.mono λd t1 q=>?_);unfold xK at q
 split at q
 ·next h=>rw [if_pos h];exact ⟨_,_,rfl,q⟩
 ·next h=>rw [if_neg h];exact ⟨_,_,rfl,q⟩
theorem wNx (w:W f t λd t1=>Bb d=false/\P d t1):W (nxD f) t P:=by
 refine B1 (w.mono λd t1 z9=>?_);obtain ⟨h,q⟩:=z9;rw [if_neg (by rw [h];decide)];exact ⟨_,_,rfl,q⟩
theorem YY {g:M D}{h:D->M D}(w:W g t λy t1=>xK y (P y t1) (W (h y) t1 λd t2=>Bb d=false/\P d t2)):W (Jy g h) t P:=by
 refine B1 (w.mono λy t1 q=>?_);unfold xK at q
 split at q
 ·next z=>rw [if_pos z];exact ⟨_,_,rfl,q⟩
 ·next z=>rw [if_neg z];exact wNx q
theorem YW {g:M D}{h:D->D->M D}(w:W f t λx t1=>W (Jy g (h x)) t1 P):W (Hr f g h) t P:=B1 w
theorem Vo {n:Str}{f:M (List D)}(w:W f t λds t1=>∃d,ds=[d]/\R (.ret (.exc n [d])) t1):W (Hc n f) t R:=
 B1 (w.mono λds t1 ⟨d,e,q⟩=>by subst e;exact ⟨_,_,rfl,q⟩)
theorem Vn {n:Str}{f:M (List D)}(w:W f t λds t1=>ds.length<=1000/\R (.ret (.exc n [])) t1):W (Hb n f) t R:=
 B1 (w.mono λds t1 ⟨e,q⟩=>by rw [if_pos e];exact ⟨_,_,rfl,q⟩)
theorem Vp {n:Str}(w:W f t λd t1=>R (.ret (.exc n [d])) t1):W (Hc n (Ab f Ad)) t R:=Vo (DE (w.mono λd t1 q=>Hf ⟨d,rfl,q⟩))
theorem Vq {n:Str}(w:W f t λ_ t1=>R (.ret (.exc n [])) t1):W (Hb n (Ab f Ad)) t R:=Vn (DE (w.mono λd t1 q=>Hf ⟨by show 1<=1000;decide,q⟩))
theorem aq {n:Str}{s:M Out}{r:D->M Out}(e:Ef n n'=true)(w:W s { t with env:=t.env.set i (some (.val (.exc n ds))) } λo t2=>R o (unE i t2)):W (hAs n' i s r (.exc n ds)) t R:=by
 obtain ⟨o,t2,e1,q⟩:=w;exact ⟨o,unE i t2,by unfold hAs;dsimp only;rw [if_pos e,e1],q⟩
theorem ar {n:Str}{s:M Out}{r:D->M Out}(e:Ef n n'=true)(w:W s t R):W (hNo n' s r (.exc n ds)) t R:=by
 obtain ⟨o,t2,e1,q⟩:=w;exact ⟨o,t2,by unfold hNo;dsimp only;rw [if_pos e,e1],q⟩
theorem Y2 {n:Str}{s:M Out}{r:D->M Out}(e:Ef n n'=false)(w:W (r (.exc n ds)) t R):W (hNo n' s r (.exc n ds)) t R:=by
 obtain ⟨o,t2,e1,q⟩:=w;exact ⟨o,t2,by unfold hNo;dsimp only;rw [if_neg (by rw [e];decide),e1],q⟩
theorem YV {m n:Str}{d:D}(e:m∈Be)(l:((Ii m).zip ds).lookup n=some d)(q:P d t):W (H9 n (.exc m ds)) t P:=⟨_,_,by unfold H9;dsimp only;rw [if_pos e,l];rfl,q⟩
theorem KQ {g:Fn}{Q:D->List Ob->Prop}(w:Wf g ds S λr S'=>Bb r=false/\Q r S'):Wf (Ed g) ds S Q:=by
 obtain ⟨r,S',e,h,q⟩:=w;exact ⟨r,S',by unfold Ed;rw [e];dsimp only;rw [if_neg (by rw [h];decide)],q⟩
end
theorem Kh {n:Str}{g:M D}{R:Out->T->Prop}(w:W f t λa t1=>W g t1 λb t2=>R (.ret (.exc n [a,b])) t2):W (Dp n (Ab f (Ab g Ad))) t R:=
 B1 (DE (w.mono λa t1 q=>DE (q.mono λb t2 q=>Hf ⟨_,_,rfl,q⟩)))
local macro_rules | `(tactic| walk_at "x1")=>`(tactic| first
 | walk_at "w1" | clear 31 aN Zh wNx YW YY Qi | clear 33 Vf | clear 32 Zm | clear 32 Zl | clear 31 Vp Vq | clear 33 aq | clear 33 ar | clear 33 Y2 | ((with_reducible refine' YV ?wv ?wu ?_);(case wv=>decide);(case wu=>exact rfl)))
local macro_rules | `(tactic| left)=>`(tactic| repeat (walk_at "x1"))
inductive Rd where
 | done (v:D)
 | need (ok:Nat->Bool) (nx:Nat->Rd)
inductive RR where
 | told (v:D) (a:Nat)
 | short
 | broken (a:Nat)
noncomputable def Rd.run:Rd->List Nat->Nat->RR
 | .done v,_,a=>.told v a
 | .need ok nx,w,a=>match w[a]? with
   | none=>.short
   | some b=>if ok b=true then (nx b).run w (a + 1) else .broken a
noncomputable def Rd.bnd:Rd->(D->Rd)->Rd
 | .done v,k=>k v
 | .need ok nx,k=>.need ok λb=>(nx b).bnd k
def RR.thn (r:RR)(w:List Nat)(k:D->Rd):RR:=match r with
 | .told v a=>(k v).run w a
 | .short=>.short
 | .broken a=>.broken a
variable {w:List Nat}{a:Nat}
theorem Ck {ok:Nat->Bool}{nx:Nat->Rd}(h:w[a]?=none):(Rd.need ok nx).run w a = .short:=by rw [Rd.run,h]
variable {b:Nat}
theorem Bo {ok:Nat->Bool}{nx:Nat->Rd}(h:w[a]?=some b):(Rd.need ok nx).run w a=if ok b=true then (nx b).run w (a + 1) else .broken a:=by rw [Rd.run,h]
theorem D2 (k:D->Rd)(w:List Nat):∀(p:Rd) (a:Nat),(p.bnd k).run w a=(p.run w a).thn w k:=by
 intro p
 induction p with
 | done v=>intro a;rfl
 | need ok nx ih=>
   intro a;rw [Rd.bnd]
   cases h:w[a]? with
   | none=>rw [Ck h,Ck h];rfl
   | some b=>
     rw [Bo h,Bo h]
     by_cases q:ok b=true
     ·rw [if_pos q,if_pos q];exact ih b (a + 1)
     ·rw [if_neg q,if_neg q];rfl
variable {v:D}
theorem Ka:∀(p:Rd) (a:Nat),a<=w.length->p.run w a = .told v b->a<=b/\b<=w.length:=by
 intro p
 induction p with
 | done v'=>intro a ha h;cases h;exact ⟨ul9 _,ha⟩
 | need ok nx ih=>
   intro a ha h
   cases e:w[a]? with
   | none=>rw [Ck e] at h;cases h
   | some c=>
     rw [Bo e] at h;have hl:=(ua9.mp e).1
     by_cases q:ok c=true
     ·rw [if_pos q] at h;have:=ih c (a + 1) hl h;lia
     ·rw [if_neg q] at h;cases h
def Rd.good:Rd->Prop
 | .done _=>True
 | .need ok nx=>(ok 0=true\/ok 32=true)/\∀b,ok b=true->(nx b).good
noncomputable def Gq (lo:Int)(M:Nat):Nat->Nat->Rd
 | 0,x=>.done (.int (lo + x))
 | r + 1,x=>.need (λb=>decide (x * 256 + b<=M / 2 ^ (8 * r))) λb=>Gq lo M r (x * 256 + b)
def G7:Nat->List Nat->Rd
 | 0,cs=>.done (.str ⟨cs.toArray⟩)
 | n + 1,cs=>.need Bm λc=>G7 n (cs++[c])
def Gp (p:Rd):Nat->List D->Rd
 | 0,ds=>.done (.lst ds)
 | n + 1,ds=>p.bnd λv=>Gp p n (ds++[v])
def pSh:Nat->Sh->Rd
 | 0,_=>.done .non
 | _ + 1,.nothing=>.done .non
 | _ + 1,.number lo hi=>Gq lo (hi - lo).toNat (wid (hi - lo).toNat) 0
 | _ + 1,.text q=>.need (λb=>decide ((b:Int)<=q)) λb=>G7 b []
 | n + 1,.list s q=>.need (λb=>decide ((b:Int)<=q)) λb=>Gp (pSh n s) b []
 | n + 1,.pair s r=>(pSh n s).bnd λv=>(pSh n r).bnd λu=>.done (.tup [v,u])
 | n + 1,.choice ss=>.need (λb=>decide (b < ss.length)) λb=>(pSh n (ss.getD b .nothing)).bnd λv=>.done (.tup [.str "of",.int b,v])
mutual
noncomputable def plD:D->Bool
 | .lst xs=>pls xs
 | .tup xs=>pls xs
 | .obj _=>false
 | .scr _=>false
 | .ty _=>false
 | .exc _ _=>false
 | .dic=>false
 | _=>true
noncomputable def pls:List D->Bool
 | []=>true
 | d :: r=>plD d && pls r
end
noncomputable def pos (i:Int):Int:=if 0 < i then i else 0
structure ValueRes2 (k c l:Nat)(S:List Ob)(s:Sh)(a b:Int)(r:D)(S':List Ob):Prop where
 fit:Ah s r=true
 lft:∃a' b':Int,S'[l]?=some (.lst [.int a',.int b'])/\((Ax s r).length:Int)<=9 * (a - a') + (pos b - pos b')/\pos b'<=pos b/\1<=a - a'/\a - a'<=cnt s + (14 * (s.depth:Int)) * pos a
 deck:DeckAt k c S'
 kp:No k c l S S'
mutual
noncomputable def szE:D->Nat
 | .lst xs=>1 + Sw xs
 | .tup xs=>1 + Sw xs
 | _=>1
noncomputable def Sw:List D->Nat
 | []=>0
 | d :: r=>szE d + Sw r
end
structure VOk (s:Sh)(v:D):Prop where
 fit:Ah s v=true
 len:(Ax s v).length<=14809
local macro_rules | `(tactic| walk_at "y1")=>`(tactic| first
 | walk_at "x1" | clear 31 Kh)
local macro_rules | `(tactic| symm)=>`(tactic| repeat (walk_at "y1"))
noncomputable def wD (w:List Nat):List D:=w.map λ(n:Nat)=>D.int (n:Int)
theorem Br (w:List Nat):(wD w).length=w.length:=by unfold wD;rw [uh9]
theorem Qq (h:w[a]?=some b):(wD w)[a]?=some (.int (b:Int)):=by unfold wD;rw [uf3,h];rfl
abbrev exS:D:=.exc "Short" []
abbrev exB (a:Nat):D:=.exc "Broken" [.int (a:Int),.non]
noncomputable def rrD:RR->D
 | .told v b=>.tup [v,.int (b:Int)]
 | .short=>exS
 | .broken a=>exB a
noncomputable def byX:Option Nat->D
 | none=>exS
 | some b=>.int (b:Int)
noncomputable def upX (m:Int)(a:Nat):Option Nat->D
 | none=>exS
 | some b=>if (b:Int)<=m then .int (b:Int) else exB a
def sgX (a:Nat):Option Nat->D
 | none=>exS
 | some c=>if Bm c=true then .str ⟨#[c]⟩ else exB a
def RX (c:Fn)(s:Sh)(p:Rd):Prop:=∀(w:List Nat) (a:Nat),a<=w.length->Pure1 c [s.d,.lst (wD w),.int (a:Int)] (rrD (p.run w a))
noncomputable def seg (w:List Nat)(a b:Nat):List Nat:=(w.drop a).take (b - a)
theorem Mt (x y:List Nat):wD (x++y)=wD x++wD y:=by unfold wD;rw [ui7]
theorem M1:∀(r y:Nat),nb (r + 1) y = .int ((y / 256 ^ r % 256:Nat):Int) :: nb r y
 | 0,y=>by rw [nb,nb,nb,Nat.pow_zero,Nat.div_one];rfl
 | r + 1,y=>by
   rw [show nb (r + 1 + 1) y=nb (r + 1) (y / 256)++[.int ((y % 256:Nat):Int)] from rfl,M1 r (y / 256),List.cons_append,show nb (r + 1) y=nb r (y / 256)++[.int ((y % 256:Nat):Int)] from rfl,uc4,show 256 * 256 ^ r=256 ^ (r + 1) by rw [ul4,Nat.mul_comm]]
variable {kvs:List (Key×D)}
theorem HI {x:Str}{d:D}(e:t.S[n]?=some (.dct kvs))(e2:A0 kvs (.inr x)=some d)(h:P d t):W (AW (.obj n) (.str x)) t P:=
 ⟨d,t,by simp only [AW,e,e2];rfl,h⟩
variable {U:Unit->T->Prop}
theorem Qv {g:M D}{d:D}(h:W f t λo t1=>W g t1 λi t2=>W (DC o i d) t2 U):W (C8 f g d) t U:=B1 (h.mono λo t1 h1=>B1 h1)
theorem DW {x:Str}{d:D}(e:t.S[n]?=some (.dct kvs))(hl:kvs.length < LIM)(h:U () ⟨t.env,t.S.set n (.dct (Bw kvs (.inr x) d))⟩):W (DC (.obj n) (.str x) d) t U:=
 ⟨(),_,by simp only [DC,e,if_pos hl],h⟩
theorem Y0 {l:List (Str×M D)}(h:W (DM l) ⟨t.env,t.S++[.dct []]⟩ λps t1=>t1.S[t.S.length]?=some (.dct [])/\ps.length<=15/\P (.obj t.S.length) ⟨t1.env,t1.S.set t.S.length (.dct (D1 ps))⟩):W (IP l) t P:=by
 obtain ⟨ps,t1,e1,e2,e3,p⟩:=h;refine ⟨_,_,?_,p⟩;unfold IP bnd;simp only [e1];unfold EZ;simp only [e2,if_pos e3]
theorem Qs {Q:List (Key×D)->T->Prop}(h:Q [] t):W (DM []) t Q:=⟨_,_,rfl,h⟩
theorem Eg {k:Str}{r:List (Str×M D)}{Q:List (Key×D)->T->Prop}(h:W f t λd t1=>W (DM r) t1 λps t2=>Q ((.inr k,d) :: ps) t2):W (DM ((k,f) :: r)) t Q:=
 B1 (h.mono λd t1 h1=>B1 (h1.mono λps t2 h2=>⟨_,_,rfl,h2⟩))
structure St where
 rest:Int
 mixed:Bool
 turn:Int
noncomputable def St.ob (s:St):Ob:=.dct [(.inr (Str.ofString "rest"),.int s.rest),(.inr (Str.ofString "mixed"),.bl s.mixed),(.inr (Str.ofString "turn"),.int s.turn)]
noncomputable def take (s:St)(m:Int):Int×St:=
 if s.mixed=false then (s.rest % m,⟨s.rest / m,s.mixed,s.turn⟩)
 else
  let stir:=(s.rest % 2147483579 + 70001 * (s.turn + 1)) % 2147483579
  let rest:=(stir * stir % 2147483563 * 50021 + 7) % 2147483579
  (rest / 5 % m,⟨rest,s.mixed,s.turn + 1⟩)
theorem Ev (a:Int)(n:Nat):(A7 a n).length=n:=by simp [A7]
inductive GS where
 | fin
 | st (side:Str) (ws:List (Str×Sh×Int))
def wdD (w:Str×Sh×Int):D:=.tup [.str w.1,w.2.1.d,.int w.2.2]
def GS.d:GS->D
 | .fin=>.tup [.str (Str.ofString "end")]
 | .st side ws=>.tup [.str side,.lst (ws.map wdD)]
noncomputable def GS.isFin:GS->Bool
 | .fin=>true
 | _=>false
theorem Ew {a:Int}{d:D}{r:List D}(e:d :: r=(A7 a n).drop j):d = .int (a + j)/\r=(A7 a n).drop (j + 1)/\j < n:=by
 have hj:j < (A7 a n).length:=by
  rcases ul6 j (A7 a n).length with h | h
  ·exact h
  ·rw [uc6 h] at e;cases e
 rw [ub1 hj] at e;injection e with e1 e2
 rw [Ev] at hj;refine ⟨?_,e2,hj⟩;rw [e1];simp [A7]
structure WOk (n:Int)(w:Str×Sh×Int):Prop where
 ok:wf w.2.1=true
 dep:w.2.1.depth<=3
 lo:0<=w.2.2
 hi:w.2.2 < n
 nm:w.1.length<=90000
inductive GSOk (n:Int):GS->Prop
 | fin:GSOk n .fin
 | st {side:Str} {ws:List (Str×Sh×Int)}:(side=Str.ofString "left"\/side=Str.ofString "right")->0 < ws.length->ws.length<=9->(ws.map (·.1)).Nodup->(∀w∈ws,WOk n w)->GSOk n (.st side ws)
structure GOk (g:List GS):Prop where
 ne:0 < g.length
 le:g.length<=30
 all:∀x∈g,GSOk g.length x
def Js (f:Fn):Prop:=∀(n:Int) (x:GS),GSOk n x->Pure1 f [x.d] (.bl x.isFin)
theorem Ku:Js (fnOf 1 1 Dl):=by
 intro n x hx S;refine Ao rfl ?_;unfold Dl
 cases hx with
 | fin=>
   rw [GS.d];right;exact ⟨by simp [GS.isFin],rfl⟩
 | st hs _ _ _ _=>
   rw [GS.d];right;refine ⟨?_,rfl⟩;rcases hs with rfl | rfl <;> simp [GS.isFin]
def GS.words:GS->D
 | .fin=>.tup []
 | .st _ ws=>.lst (ws.map wdD)
noncomputable def GS.ws:GS->List (Str×Sh×Int)
 | .fin=>[]
 | .st _ ws=>ws
def Jw (f:Fn):Prop:=∀(n:Int) (x:GS),GSOk n x->Pure1 f [x.d] x.words
variable {ce:Fn}
theorem SO (he:Js ce):Jw (fnOf 1 1 (Gm ce)):=by
 intro n x hx S;refine Ao rfl ?_;unfold Gm
 cases x with
 | fin=>
   right;refine (he n .fin hx).use ?_;right;exact ⟨rfl,rfl⟩
 | st side ws=>
   right;refine (he n (.st side ws) hx).use ?_;rw [GS.d];right;exact ⟨rfl,rfl⟩
noncomputable def L5:Option Nat->D
 | some i=>.int i
 | none=>.non
def F4 (f:Fn):Prop:=∀(n:Int) (x:GS) (nm:Str),GSOk n x->Pure1 f [x.d,.str nm] (L5 (x.ws.findIdx? λw=>w.1 == nm))
theorem GU {α:Type}{p:α->Bool}{l:List α}(h:∀i (hi:i < l.length),i < j->p l[i]=false){x:α}(hx:l[j]?=some x)(hp:p x=true):l.findIdx? p=some j:=by
 obtain ⟨hj,e⟩:=ua9.mp hx;rw [ua0];exact ⟨hj,by rw [e];exact hp,λi hi=>by simpa using h i (by lia) hi⟩
theorem JS (hw:Jw cw):F4 (fnOf 2 4 (EQ cw)):=by
 intro n x nm hx S;refine Ao rfl ?_;unfold EQ;right;refine (hw n x hx).use ?_;have key:∀(ws:List (Str×Sh×Int)) (d:D),ws.length<=9->(∀(t:T) (P:D->T->Prop),P (.int ws.length) t->W (AN [d]) t P)->(∀(t:T) (P:D->T->Prop) (i:Nat) (w:Str×Sh×Int),ws[i]?=some w->P (wdD w) t->W (ixD d (.int i)) t P)->
  W (Ae (BV (CA (Ab (fB (Ab (Aa 2) Ad) AN) Ad)) (Ay 3)
  (ifS (Aj (Ac (Ac (Ac (Aa 2) (Aa 3) ixD) (fC (.int 0)) ixD) (Aa 1) (eqS id)))
  (Am (Aa 3))
  Ap))
 (Am (fC .non))) ⟨[some (.val x.d),some (.val (.str nm)),some (.val d),none],S⟩ λo t=>match o with
   | .ret r=>r=L5 (ws.findIdx? λw=>w.1 == nm)/\t.S=S
   | .next=>D.non=L5 (ws.findIdx? λw=>w.1 == nm)/\t.S=S
   | _=>False:=by
   intro ws d hl len ix;right;refine len _ _ ?_;right;refine Hg (BH (by lia) (by lia)) ?_;refine Cn (λr t=>∃(j:Nat) (e3:Option Sl),(∀i (hi:i < ws.length),i < j->(ws[i].1 == nm)=false)/\j<=ws.length/\r=(A7 0 ((ws.length:Nat):Int).toNat).drop j/\t=⟨[some (.val x.d),some (.val (.str nm)),some (.val d),e3],S⟩) _ _ ⟨0,none,λi hi h=>absurd h (by lia),by lia,rfl,rfl⟩ ?_ ?_
   ·rintro d' r t ⟨j,e3,hj,hjl,hr,rfl⟩ _;obtain ⟨rfl,hr',hjn⟩:=Ew hr;rw [uf4] at hjn;have e:ws[j]?=some ws[j]:=ub3 hjn;rw [Int.zero_add];right;refine ix _ _ j _ e ?_;unfold wdD;right;refine BQ (λq=>?_) λq=>?_
    ·right;refine ⟨?_,rfl⟩;rw [GU hj e q];rfl
    ·right;refine ⟨j + 1,_,λi hi hij=>?_,by lia,hr',rfl⟩;rcases ul6 i j with h | h
     ·exact hj i hi h
     ·have:i=j:=by lia
      subst this;exact q
   ·rintro t ⟨j,e3,hj,hjl,hr,rfl⟩;have hj':j=ws.length:=by
     have:=congrArg List.length hr;rw [ui5,ug7,Ev,uf4] at this;lia
    subst hj';right;refine ⟨?_,rfl⟩;rw [List.findIdx?_eq_none_iff.mpr]
    ·rfl
    ·intro w hw';obtain ⟨i,hi,rfl⟩:=List.mem_iff_getElem.mp hw';exact hj i hi hi
 cases hx with
 | fin=>
   refine Bi ?_;refine key [] (.tup []) (by decide) (λt P h=>Tn h) λt P i w e h=>?_;simp at e
 | @st side ws h1 h2 h3 h4 h5=>
   refine Bi ?_;refine key ws (.lst (ws.map wdD)) h3 (λt P h=>Om (by rw [uh9];exact h)) λt P i w e h=>?_;obtain ⟨hi,_⟩:=ua9.mp e;refine Bg ?_ h;unfold atI;rw [D0 (by lia) (by rw [uh9];lia)];show (ws.map wdD)[(i:Int).toNat]?=_;rw [uf4,uf3,e];rfl
noncomputable def GS.side:GS->Str
 | .fin=>Str.ofString "end"
 | .st s _=>s
noncomputable def Au (g:List GS)(q:Nat):GS:=g.getD q .fin
def wdAt (g:List GS)(q p:Nat):Str×Sh×Int:=(Au g q).ws.getD p (Str.ofString "",.nothing,0)
def nextQ (g:List GS)(q p:Nat):Nat:=(wdAt g q p).2.2.toNat
def Do (g:List GS)(q p:Nat)(v:D):D:=.tup [.str (Au g q).side,.str (wdAt g q p).1,v]
abbrev Mv:=Nat×D
def EV (g:List GS):Nat->List Mv->Nat
 | q,[]=>q
 | q,(p,_) :: r=>EV g (nextQ g q p) r
def Hz (g:List GS):Nat->List Mv->List D
 | _,[]=>[]
 | q,(p,v) :: r=>Do g q p v :: Hz g (nextQ g q p) r
structure MvOk (g:List GS)(q:Nat)(p:Nat)(v:D):Prop where
 lt:q < g.length
 pl:p < (Au g q).ws.length
 fit:Ah (wdAt g q p).2.1 v=true
def okQ (g:List GS):Nat->List Mv->Prop
 | _,[]=>True
 | q,(p,v) :: r=>MvOk g q p v/\okQ g (nextQ g q p) r
variable {g:List GS}
theorem Dw (h:GOk g){q:Nat}(hq:q < g.length):GSOk g.length (Au g q):=by
 unfold Au;rw [ua8,ub3 hq];exact h.all _ (uh4 hq)
variable {q:Nat}
theorem BP (hq:q < g.length):atI (g.map GS.d) q=some (Au g q).d:=by
 unfold atI;rw [D0 (by lia) (by rw [uh9];lia)];show (g.map GS.d)[(q:Int).toNat]?=_;unfold Au;rw [uf4,uf3,ua8,ub3 hq];rfl
variable {p:Nat}
theorem FF (hp:p < (Au g q).ws.length):∃side ws,Au g q = .st side ws/\p < ws.length/\ws[p]?=some (wdAt g q p):=by
 unfold wdAt
 cases e:Au g q with
 | fin=>rw [e] at hp;simp [GS.ws] at hp
 | st side ws=>
   rw [e] at hp;have hp:p < ws.length:=hp;refine ⟨side,ws,rfl,hp,?_⟩;show ws[p]?=some (ws.getD p _);rw [ua8,ub3 hp];rfl
theorem Ei {ws:List (Str×Sh×Int)}{w:Str×Sh×Int}(e:ws[p]?=some w):atI (ws.map wdD) p=some (wdD w):=by
 obtain ⟨hp,_⟩:=ua9.mp e;unfold atI;rw [D0 (by lia) (by rw [uh9];lia)];show (ws.map wdD)[(p:Int).toNat]?=_;rw [uf4,uf3,e];rfl
theorem EY (h:GOk g){q p:Nat}(hq:q < g.length)(hp:p < (Au g q).ws.length):WOk g.length (wdAt g q p):=by
 obtain ⟨side,ws,e,hp',e2⟩:=FF hp;have:=Dw h hq;rw [e] at this
 cases this with
 | st _ _ _ _ h5=>exact h5 _ (ud4 e2)
theorem E1 (h:GOk g){q p:Nat}(hq:q < g.length)(hp:p < (Au g q).ws.length):nextQ g q p < g.length:=by
 have:=EY h hq hp;unfold nextQ;have h1:=this.lo;have h2:=this.hi;lia
theorem NI {ws:List (Str×Sh×Int)}(nd:(ws.map (·.1)).Nodup){p:Nat}{w:Str×Sh×Int}(e:ws[p]?=some w):(ws.findIdx? λx=>x.1 == w.1)=some p:=by
 obtain ⟨hp,ep⟩:=ua9.mp e;refine GU (λi hi hip=>?_) e (by simp);rw [<-ep];have hne:¬ws[i].1=ws[p].1:=λz=>by
  have h1:i < (ws.map (·.1)).length:=by rw [uh9];exact hi
  have h2:p < (ws.map (·.1)).length:=by rw [uh9];exact hp
  have:(ws.map (·.1))[i]=(ws.map (·.1))[p]:=by rw [List.getElem_map,List.getElem_map];exact z
  have:=(ug3 nd).mp this;lia
 simpa using hne
theorem M2:∀{xs:List D},(∀d∈xs,okD d=true)->oks xs=true
 | [],_=>by rw [oks]
 | d :: r,h=>by rw [oks,h d ue2,M2 λx m=>h x (ud2 _ m)];rfl
theorem El:∀(n:Nat) (s:Sh),s.depth<=n->wf s=true->∀v,Ah s v=true->okD v=true
 | 0,s,h,_,_,_=>absurd s.depth_pos (by lia)
 | n + 1,s,hd,hw,v,h=>by
   cases s with
   | nothing=>cases v <;> first | rfl | (simp [Ah,Gj] at h;done)
   | number lo hi=>cases v <;> first | rfl | (simp [Ah] at h;done)
   | text q=>
     simp only [wf,uh0,ug1] at hw
     cases v <;> simp only [Ah,ue7] at h
     simp only [uh0,ug1] at h;rw [okD,ug1];lia
   | list s q=>
     rw [Sh.depth] at hd;simp only [wf,uh0,ug1] at hw
     cases v <;> simp only [Ah,ue7] at h
     simp only [uh0,ug1,uh2] at h;rw [okD];exact M2 λd m=>El n s (by lia) hw.2 d (h.2 d m)
   | pair a b=>
     rw [Sh.depth] at hd;simp only [wf,uh0] at hw;unfold Ah at h
     split at h
     ·rw [uh0] at h;rw [okD,oks,oks,oks,El n a (by lia) hw.1 _ h.1,El n b (by lia) hw.2 _ h.2];rfl
     ·cases h
   | choice ss=>
     rw [Sh.depth] at hd;simp only [wf,uh0,ug1] at hw;unfold Ah at h
     split at h
     ·next o k x=>
      simp only [uh0,ug1] at h;have hk:k.toNat < ss.length:=by lia
      have e1:ss[k.toNat]?=some ss[k.toNat]:=ub3 hk;have h2:=h.2;rw [B9 ss _ _ _ e1] at h2;have ho:o=("of" : Str):=eq_of_beq h.1.1;have hx:=El n _ (ul1 (Ce ss _ _ e1) (by lia)) (D4 hw.2 _ (uh4 hk)) x h2;subst ho;have hl:okD (.str ("of" : Str))=true:=by decide +kernel
      rw [okD,oks,oks,oks,oks,hl,hx];rfl
     ·cases h
def HX (f:Fn):Prop:=∀(g:List GS) (q p:Nat) (v:D),GOk g->MvOk g q p v->Pure1 f [(Au g q).d,Do g q p v] (.int p)
theorem KM {cf:Fn}(hf:E4 cf 3)(hp:F4 cp):HX (fnOf 2 3 (Dn cf cp)):=by
 intro g q p v hg hm S;refine Ao rfl ?_;unfold Dn;obtain ⟨side,ws,e,hpl,ew⟩:=FF hm.pl;have hgs:=Dw hg hm.lt;have hw:=EY hg hm.lt hm.pl;have hfit:=hm.fit;unfold Do;rw [e] at hgs ⊢;generalize wdAt g q p=w at ew hw hfit ⊢;have hov:okD v=true:=El 3 w.2.1 hw.dep hw.ok v hfit;show W _ ⟨[some (.val (.tup [.str side,.lst (ws.map wdD)])),some (.val (.tup [.str side,.str w.1,v])),none],S⟩ _;right;refine DF (by simp) ?_;right;have hpn:=hp g.length (.st side ws) w.1 hgs;have hidx:((GS.st side ws).ws.findIdx? λx=>x.1 == w.1)=some p:=by
  cases hgs with
  | st _ _ _ h4 _=>exact NI h4 ew
 rw [hidx] at hpn;refine hpn.use ?_;show Ex _ _ .next ⟨[some (.val (.tup [.str side,.lst (ws.map wdD)])),some (.val (.tup [.str side,.str w.1,v])),some (.val (.int p))],S⟩;right;refine Bg (Ei ew) ?_;unfold wdD;right;refine (hf w.2.1 hw.dep v hov).use ?_;rw [hfit];right;exact ⟨rfl,rfl⟩
def Lb (f:Fn):Prop:=∀(g:List GS) (q p:Nat),GOk g->q < g.length->p < (Au g q).ws.length->Pure1 f [.lst (g.map GS.d),.tup [.int q,.int p]] (.int (nextQ g q p))
theorem Uf:Lb (fnOf 2 2 Fq):=by
 intro g q p hg hq hp S;refine Ao rfl ?_;unfold Fq;obtain ⟨side,ws,e,hpl,ew⟩:=FF hp;have hw:=EY hg hq hp;have hlo:=hw.lo;right;refine Bg (BP hq) ?_;rw [e,GS.d];right;refine Bg (Ei ew) ?_;unfold wdD;right;refine ⟨?_,rfl⟩;unfold nextQ
 congr 1
 lia
abbrev kR:Key:=.inr (Str.ofString "rest")
abbrev kM:Key:=.inr (Str.ofString "mixed")
abbrev kC:Key:=.inr (Str.ofString "count")
abbrev Yz (a b c:D):List (Key×D):=[(kR,a),(kM,b),(kC,c)]
def Room (k r:Nat)(S:List Ob):Prop:=∃(a c:Int) (b:Bool),S[k]?=some (.dct (Yz (.int a) (.bl b) (.int c)))/\0<=c/\c + r<=1000000000000000000000000000000
theorem AL {k:Nat}{o o':Ob}(h:S[k]?=some o):(S.set k o')[k]?=some o':=T0 h
theorem Dv {x:Ob}:(S++[x])[S.length]?=some x:=by simp
noncomputable def cs:Nat->Nat
 | 0=>10
 | d + 1=>10 + 3 * cs d
structure Drawn (k r:Nat)(dp:Nat)(v:D)(S':List Ob):Prop where
 ex:∃s:Sh,v=s.d/\s.depth<=dp/\wf s=true
 pool:Room k r S'
variable {ss:List Sh}
theorem YD {k:Nat}(h:k < ss.length):atI (shD ss) (k:Int)=some (ss[k]).d:=by
 unfold atI;rw [D0 (by lia) (by rw [C1];lia)];show (shD ss)[(k:Int).toNat]?=_;rw [uf4,E2,ub3 h];rfl
noncomputable def vB:Nat->Nat
 | 0=>10
 | m + 1=>10 + vB m * 3
structure Val (k r:Nat)(s:Sh)(c:Nat)(v:D)(S':List Ob):Prop where
 fit:Ah s v=true
 len:(Ax s v).length<=c
 pool:Room k r S'
def hd1 (x:Str):Option Nat:=x.cps.toList.head?
def okB (g:List GS):Nat->List Mv->Prop
 | _,[]=>True
 | q,(p,v) :: r=>(Ax (wdAt g q p).2.1 v).length<=400/\okB g (nextQ g q p) r
structure TOk (g:List GS)(mv:List Mv):Prop where
 ok:okQ g 0 mv
 bd:okB g 0 mv
 len:mv.length<=60
theorem Jq {k:Nat}{h:List D->List D->Option (List D)}{g:M (List D)}(w:W f t λo t1=>o = .obj k/\∃xs0,t1.S[k]?=some (.lst xs0)/\W g t1 λds t2=>∃xs ys,t2.S[k]?=some (.lst xs)/\h xs ds=some ys/\P .non ⟨t2.env,t2.S.set k (.lst ys)⟩):W (objM h f g) t P:=by
 unfold objM;refine W_bnd.mpr (w.mono λo t1 z9=>?_);obtain ⟨e,xs0,e1,w⟩:=z9;subst e;obtain ⟨ds,t2,e2,xs,ys,e3,e4,p⟩:=w;refine ⟨_,_,?_,p⟩;simp only [e1,bnd,e2,e3,e4];rfl
def Bc (g:List GS)(sd:Str):Nat->List Mv->List D
 | _,[]=>[]
 | q,(p,v) :: r=>(if (Au g q).side=sd then .int p :: Ax (wdAt g q p).2.1 v else [])++Bc g sd (nextQ g q p) r
abbrev kL:Key:=.inr (Str.ofString "left")
abbrev kRt:Key:=.inr (Str.ofString "right")
theorem kLR:¬kL=kRt:=by intro h;injection h with h;rw [G5] at h;exact absurd h (by decide)
theorem sLR:¬Str.ofString "left" = Str.ofString "right":=λh=>kLR (congrArg Sum.inr h)
abbrev sL:Str:=Str.ofString "left"
abbrev sR:Str:=Str.ofString "right"
structure Wr (K A B:Nat)(S:List Ob)(xs ys:List D):Prop where
 k:S[K]?=some (.dct [(kL,.obj A),(kRt,.obj B)])
 a:S[A]?=some (.lst xs)
 b:S[B]?=some (.lst ys)
 ab:A≠B
 ka:K≠A
 kb:K≠B
def FrO (F:List (Nat×Ob))(k:Nat)(S:List Ob):Prop:=∀p∈F,p.1≠k/\S[p.1]?=some p.2
def bp (F:List (Nat×Ob))(S:List Ob):Prop:=∀p∈F,S[p.1]?=some p.2
def X3 (F:List (Nat×Ob))(k r:Nat)(S:List Ob):Prop:=Room k r S/\FrO F k S
structure ValF (F:List (Nat×Ob))(k r:Nat)(s:Sh)(c:Nat)(v:D)(S':List Ob):Prop where
 fit:Ah s v=true
 len:(Ax s v).length<=c
 pool:X3 F k r S'
noncomputable def GS.sd:GS->Str
 | .fin=>Str.ofString "end"
 | .st s _=>s
inductive Odd (x:GS):D->Prop
 | non:Odd x .non
 | lst {ds:List D}:Odd x (.lst ds)
 | two {a b:D}:Odd x (.tup [a,b])
 | four {a b c d:D}:Odd x (.tup [a,b,c,d])
 | sideN {b c:D}:Odd x (.tup [.non,b,c])
 | side {s:Str} {b c:D}:¬s=x.sd->Odd x (.tup [.str s,b,c])
 | nmN {s:Str} {c:D}:Odd x (.tup [.str s,.non,c])
 | nmI {s:Str} {i:Int} {c:D}:Odd x (.tup [.str s,.int i,c])
 | nm {s nm:Str} {c:D}:(x.ws.findIdx? λw=>w.1 == nm)=none->Odd x (.tup [.str s,.str nm,c])
 | val {s nm:Str} {c:D} {p:Nat} {w:Str×Sh×Int}:(x.ws.findIdx? λw=>w.1 == nm)=some p->x.ws[p]?=some w->okD c=true->Ah w.2.1 c=false->Odd x (.tup [.str s,.str nm,c])
def Rq (n:Nat)(d:D):Prop:=∀m,n<=m->eqN m d d=some true
theorem Rq.mono {m:Nat}{d:D}(h:Rq n d)(e:n<=m):Rq m d:=λk hk=>h k (ul1 e hk)
theorem Mc {i:Int}:Rq n (.int i):=λm _=>by cases m <;> (show some (i == i)=some true;rw [uh5])
theorem Jj {i:Str}:Rq n (.str i):=λm _=>by cases m <;> (show some (i == i)=some true;rw [uh5])
theorem Xn:Rq n .non:=λm _=>by cases m <;> rfl
theorem Mf (h:∀x∈xs,Rq n x):Rq (n + 1) (.tup xs):=λm hm=>by
 obtain ⟨k,rfl⟩:∃k,m=k + 1:=Nat.exists_eq_add_of_le' (by lia);have e:Dc (eqN k) xs xs=some true:=GP λx hx=>h x hx k (by lia);rw [eqN,e];simp
theorem Me (h:∀x∈xs,Rq n x):Rq (n + 1) (.lst xs):=λm hm=>by
 obtain ⟨k,rfl⟩:∃k,m=k + 1:=Nat.exists_eq_add_of_le' (by lia);rw [eqN,if_pos rfl];exact GP λx hx=>h x hx k (by lia)
def mB:Nat->Nat
 | 0=>0
 | m + 1=>10 + vB m * 2 + mB m * 2
structure Mis (n:Nat)(s:Sh)(v:D):Prop where
 ok:okD v=true
 no:Ah s v=false
 rq:Rq n v
structure Fit (n:Nat)(s:Sh)(v:D):Prop where
 ok:okD v=true
 fit:Ah s v=true
 rq:Rq n v
def Gr (S S':List Ob):Prop:=S.length<=S'.length/\∀i,i < S.length->S'[i]?=S[i]?
theorem Gr.app {ex:List Ob}:Gr S (S++ex):=⟨by rw [ue6];lia,λi h=>ub0 h⟩
theorem Gr.set {S S':List Ob}{k:Nat}{o:Ob}(a:Gr S S')(h:S.length<=k):Gr S (S'.set k o):=⟨by rw [ui8];exact a.1,λi hi=>by rw [ud3 (by lia)];exact a.2 i hi⟩
theorem Gr.get {S S':List Ob}{k:Nat}{o:Ob}(a:Gr S S')(h:S[k]?=some o):S'[k]?=some o:=by rw [a.2 k (ua9.mp h).1];exact h
abbrev lr (a b:D):List (Key×D):=[(kL,a),(kRt,b)]
abbrev dP (a b:Nat):List (Key×D):=lr (.int a) (.int b)
noncomputable def onS {α:Type}(s:Str)(a b:α):α:=if s=sL then a else b
inductive Sr where
 | stop
 | brk (k:Nat) (s:Str)
 | next (m:D) (h a b:Nat)
def msgR (side:Str)(ws:List (Str×Sh×Int))(w:List Nat)(p:Nat):RR×Nat:=match w[p]? with
 | none=>(.short,0)
 | some c=>match ws[c]? with
   | none=>(.broken p,0)
   | some wd=>((pSh 3 wd.2.1).run w (p + 1),c)
def ES (side:Str)(ws:List (Str×Sh×Int))(w:List Nat)(p:Nat):D:=match msgR side ws w p with
 | (.short,_)=>.non
 | (.broken k,_)=>.exc "Broken" [.int k,.str side]
 | (.told v e,c)=>.tup [.tup [.str side,.str (ws.getD c (Str.ofString "",.nothing,0)).1,v],.int (ws.getD c (Str.ofString "",.nothing,0)).2.2,.int e]
def EB (g:List GS)(wl wr:List Nat)(h a b:Nat):Sr:=match Au g h with
 | .fin=>.stop
 | .st side ws=>match msgR side ws (onS side wl wr) (onS side a b) with
   | (.short,_)=>.stop
   | (.broken k,_)=>.brk k side
   | (.told v e,c)=>.next (.tup [.str side,.str (ws.getD c (Str.ofString "",.nothing,0)).1,v]) (ws.getD c (Str.ofString "",.nothing,0)).2.2.toNat (onS side e a) (onS side b e)
abbrev Rs:=List D×Nat×Nat×Nat×Option (Nat×Str)
def Eh (g:List GS)(wl wr:List Nat):Nat->Nat->Nat->Nat->List D->Rs
 | 0,h,a,b,t=>(t,h,a,b,none)
 | f + 1,h,a,b,t=>match EB g wl wr h a b with
   | .stop=>(t,h,a,b,none)
   | .brk k s=>(t,h,a,b,some (k,s))
   | .next m h' a' b'=>Eh g wl wr f h' a' b' (t++[m])
structure Pl (g:List GS)(wl wr:List Nat)(h a b:Nat):Prop where
 h:h < g.length
 a:a<=wl.length
 b:b<=wr.length
variable {h:Nat}
theorem Qd {wl wr:List Nat}(hg:GOk g)(p:Pl g wl wr h a b){m:D}{h' a' b':Nat}(e:EB g wl wr h a b = .next m h' a' b'):Pl g wl wr h' a' b'/\a + b < a' + b':=by
 have hgs:=Dw hg p.h;unfold EB at e
 cases eg:Au g h with
 | fin=>rw [eg] at e;cases e
 | st side ws=>
   rw [eg] at e hgs
   cases hgs with
   | @st _ _ hs1 hs2 hs3 hs4 hs5=>
   dsimp only at e;unfold msgR at e
   cases hb:(onS side wl wr)[onS side a b]? with
   | none=>rw [hb] at e;cases e
   | some c=>
     rw [hb] at e;dsimp only at e
     cases hw:ws[c]? with
     | none=>rw [hw] at e;cases e
     | some wd=>
       rw [hw] at e;dsimp only at e;obtain ⟨hpl,_⟩:=ua9.mp hb;have hwo:=hs5 wd (ud4 hw);have hlo:=hwo.lo;have hhi:=hwo.hi;have hgd:ws.getD c (Str.ofString "",.nothing,0)=wd:=by rw [ua8,hw];rfl
       cases er:(pSh 3 wd.2.1).run (onS side wl wr) (onS side a b + 1) with
       | short=>rw [er] at e;cases e
       | broken k=>rw [er] at e;cases e
       | told v x=>
         rw [er] at e;dsimp only at e;rw [hgd] at e;injection e with e1 e2 e3 e4
         obtain ⟨l1,l2⟩:=Ka _ _ hpl er;have pa:=p.a;have pb:=p.b;subst e2;unfold onS at e3 e4 l1 l2
         by_cases q:side=sL
         ·rw [if_pos q] at e3 e4 l1 l2;exact ⟨⟨by lia,by lia,by lia⟩,by lia⟩
         ·rw [if_neg q] at e3 e4 l1 l2;exact ⟨⟨by lia,by lia,by lia⟩,by lia⟩
theorem XS {x:Str}{neg:Bool}(e:t.S[n]?=some (.dct kvs))(h:P (.bl (if neg then !(A0 kvs (.inr x)).isSome else (A0 kvs (.inr x)).isSome)) t):W (inS neg (.str x) (.obj n)) t P:=
 ⟨_,_,by simp only [inS,e],h⟩
theorem XJ (e:t.S[n]?=some (.dct kvs))(h:P (.obj t.S.length) ⟨t.env,t.S++[.dct kvs]⟩):W (Hq [.obj n]) t P:=
 ⟨_,_,by simp only [Hq,e],h⟩
theorem t9 {a0 a1 a2 a3 a6 e7 e8:Option Sl}{X Y:List D}{x y:D}(h1:X=Y)(h2:x=y):(⟨[a0,a1,a2,a3,some (.own X),some (.val x),a6,e7,e8],S⟩:T)=⟨[a0,a1,a2,a3,some (.own Y),some (.val y),a6,e7,e8],S⟩:=by subst h1 h2;rfl
def isB (l:List D):Prop:=∀d∈l,∃x:Nat,d = .int (x:Int)/\x < 256
theorem Pf:∀{l:List D},isB l->∃w:List Nat,l=wD w/\∀x∈w,x < 256
 | [],_=>⟨[],rfl,λx z=>nomatch z⟩
 | d :: r,h=>by
   obtain ⟨x,rfl,hx⟩:=h d ue2;obtain ⟨w,rfl,hw⟩:=Pf λd m=>h d (ud2 _ m);refine ⟨x :: w,rfl,λy hy=>?_⟩;rcases uj8.mp hy with rfl | hy
   ·exact hx
   ·exact hw y hy
theorem JO {a b:List D}(ha:isB a)(hb:isB b):isB (a++b):=λd h=>(uh7.mp h).elim (ha d) (hb d)
theorem Fj {x:Nat}{b:List D}(hx:x < 256)(hb:isB b):isB (.int (x:Int) :: b):=λd h=>by
 rcases uj8.mp h with rfl | h
 ·exact ⟨x,rfl,hx⟩
 ·exact hb d h
theorem Pz:∀(w n:Nat),isB (nb w n)
 | 0,n=>λd h=>nomatch h
 | w + 1,n=>JO (Pz w _) (Fj (Nat.mod_lt _ (by decide)) λd h=>nomatch h)
theorem E9:∀(n:Nat) (s:Sh),s.depth<=n->wf s=true->∀v,Ah s v=true->isB (Ax s v)
 | 0,s,h,_,_,_=>absurd s.depth_pos (by lia)
 | n + 1,s,hs,hw,v,hf=>by
   cases s with
   | nothing=>rw [Ax];exact λd h=>nomatch h
   | number lo hi=>
     cases v <;> simp [Ah] at hf
     rw [Ax];exact Pz _ _
   | text q=>
     simp only [wf,uh0,ug1] at hw
     cases v <;> simp only [Ah,ue7] at hf
     rename_i x;simp only [uh0,ug1,uh2] at hf;rw [Ax];refine Fj (by lia) λd h=>?_;obtain ⟨c,hc,rfl⟩:=ul5.mp h;have:=hf.2 c hc;simp only [Bm,uh0,ug1] at this;exact ⟨c,rfl,by lia⟩
   | list s q=>
     simp only [wf,uh0,ug1] at hw;rw [Sh.depth] at hs
     cases v <;> simp only [Ah,ue7] at hf
     rename_i ds;simp only [uh0,ug1,uh2] at hf;rw [Ax];refine Fj (by lia) λd h=>?_;obtain ⟨l,hl,hd⟩:=List.mem_flatten.mp h;obtain ⟨e,he,rfl⟩:=ul5.mp hl;exact E9 n s (by lia) hw.2 e (hf.2 e he) d hd
   | pair s r=>
     simp only [wf,uh0] at hw;rw [Sh.depth] at hs;unfold Ah at hf
     split at hf
     ·rw [uh0] at hf;rw [Ax];exact JO (E9 n s (by lia) hw.1 _ hf.1) (E9 n r (by lia) hw.2 _ hf.2)
     ·cases hf
   | choice ss=>
     simp only [wf,uh0,ug1] at hw;rw [Sh.depth] at hs;unfold Ah at hf
     split at hf
     ·next o k x=>
      simp only [uh0,ug1] at hf;obtain ⟨j,rfl⟩:=ub7 hf.1.2.1;have hj:j < ss.length:=by have:=hf.1.2.2;lia
      have e1:ss[j]?=some ss[j]:=ub3 hj;have h2:=hf.2;rw [uf4,B9 ss _ _ _ e1] at h2;rw [Ax,uf4,DX ss _ _ _ e1];exact Fj (by lia) (E9 n _ (ul1 (Ce ss _ _ e1) (by lia)) (D4 hw.2 _ (uh4 hj)) x h2)
     ·cases hf
theorem VQ:Da (wD w) none (some (a:Int))=wD (w.take a):=by
 unfold Da;rw [HT.Nd,HT.Mh,uj5,Nat.sub_zero];unfold wD;rw [List.map_take];exact (List.take_eq_take_min ..).symm
theorem VR:Da (wD w) (some (a:Int)) none=wD (w.drop a):=by
 unfold Da;rw [HT.Nd,HT.Mh];unfold wD;rw [List.map_drop,uh9,uc3 (by rw [ug7,uh9];lia)]
 by_cases h:a<=w.length
 ·rw [Nat.min_eq_left h]
 ·rw [Nat.min_eq_right (by lia),List.drop_of_length_le (by rw [uh9];lia),List.drop_of_length_le (by rw [uh9];lia)]
structure Mvs (g:List GS)(wl wr:List Nat)(mv:List Mv)(h a b:Nat)(t:List D):Prop where
 t:t=Hz g 0 mv
 ok:okQ g 0 mv
 h:EV g 0 mv=h
 a:Bc g sL 0 mv=wD (wl.take a)
 b:Bc g sR 0 mv=wD (wr.take b)
def Agr (c:Nat)(w w2:List Nat):Prop:=∀i,i < c->w2[i]?=w[i]?
def Nr (f:Fn):Prop:=∀(g:List GS) (q p:Nat) (v:D),GOk g->MvOk g q p v->(Ax (wdAt g q p).2.1 v).length<=50000->Pure1 f [(Au g q).d,.int p,v] (.lst (.int p :: Ax (wdAt g q p).2.1 v))
theorem WB (hc:Hi c 3):Nr (fnOf 3 3 (Ec c)):=by
 intro g q p v hg hm hb S;have hL:LIM=100000:=rfl;refine Ao rfl ?_;unfold Ec;obtain ⟨side,ws,e,hpl,ew⟩:=FF hm.pl;have hw:=EY hg hm.lt hm.pl;have hfit:=hm.fit;rw [e,GS.d];right;refine F1 ?_;right;refine Bg (Ei ew) ?_;unfold wdD;right;refine (hc _ hw.dep hw.ok v hfit (by lia)).use ?_;refine ⟨_,rfl,?_⟩;right;refine Bx (by rw [hL];show 1 + _<=_;lia) ?_;exact ⟨rfl,rfl⟩
def At (w:List Nat)(a:Nat)(xs:List D):Prop:=∃p q,wD w=p++(xs++q)/\p.length=a
theorem At.left (h:At w a (xs++ys)):At w a xs:=by
 obtain ⟨p,q,e,l⟩:=h;exact ⟨p,ys++q,by rw [e,uf6],l⟩
theorem At.right (h:At w a (xs++ys)):At w (a + xs.length) ys:=by
 obtain ⟨p,q,e,l⟩:=h;exact ⟨p++xs,q,by rw [e,uf6,uf6],by rw [ue6,l]⟩
theorem At.head {c:Nat}(h:At w a (.int (c:Int) :: xs)):w[a]?=some c/\At w (a + 1) xs:=by
 refine ⟨?_,At.right (xs:=[.int (c:Int)]) h⟩;obtain ⟨p,q,e,l⟩:=h;have e1:(wD w)[a]?=some (.int (c:Int)):=by rw [e,ua5 (by lia),l,ul7];rfl
 unfold wD at e1;rw [uf3] at e1
 cases e2:w[a]? with
 | none=>rw [e2] at e1;cases e1
 | some x=>
   rw [e2] at e1;injection e1 with e1
   injection e1 with e1
   rw [show x=c by lia]
theorem LZ {lo:Int}{M:Nat}{w:List Nat}:∀(r x y a:Nat),y / 256 ^ r=x->y<=M->At w a (nb r y)->(Gq lo M r x).run w a = .told (.int (lo + y)) (a + r)
 | 0,x,y,a,hx,hy,h=>by
   rw [Nat.pow_zero,Nat.div_one] at hx;subst hx;rfl
 | r + 1,x,y,a,hx,hy,h=>by
   rw [M1] at h;obtain ⟨h1,h2⟩:=h.head;have e:x * 256 + y / 256 ^ r % 256=y / 256 ^ r:=by
    rw [<-hx,ul4,<-uc4];lia
   rw [Gq,Bo h1,if_pos (uj6 (by rw [e,Nat.pow_mul];exact Nat.div_le_div_right hy)),LZ r _ y (a + 1) e.symm hy h2]
   congr 1
   lia
theorem Ml {w:List Nat}:∀(xs cs:List Nat) (a:Nat),(∀c∈xs,Bm c=true)->At w a (xs.map λ(n:Nat)=>D.int (n:Int))->(G7 xs.length cs).run w a = .told (.str ⟨(cs++xs).toArray⟩) (a + xs.length)
 | [],cs,a,_,_=>by rw [ui1];rfl
 | x :: r,cs,a,hs,h=>by
   obtain ⟨h1,h2⟩:=At.head h;rw [ug4,G7,Bo h1,if_pos (hs x ue2),Ml r (cs++[x]) (a + 1) (λc hc=>hs c (ud2 _ hc)) h2,uf6]
   congr 1
   lia
theorem LR {w:List Nat}{s:Sh}{p:Rd}(hp:∀(v:D) (a:Nat),Ah s v=true->At w a (Ax s v)->p.run w a = .told v (a + (Ax s v).length)):∀(es ds:List D) (a:Nat),(∀e∈es,Ah s e=true)->At w a (es.map λd=>Ax s d).flatten->(Gp p es.length ds).run w a = .told (.lst (ds++es)) (a + ((es.map λd=>Ax s d).flatten).length)
 | [],ds,a,_,_=>by rw [ui1];rfl
 | e :: r,ds,a,hf,h=>by
   rw [uj9,uf5] at h;rw [ug4,Gp,D2,hp e a (hf e ue2) h.left,RR.thn,LR hp r (ds++[e]) _ (λx hx=>hf x (ud2 _ hx)) h.right,uf6,uj9,uf5,ue6]
   congr 1
   lia
theorem Qw:∀(k n:Nat),wid n<=k->n < 256 ^ k
 | 0,n,h=>by
   by_cases z:n=0
   ·subst z;decide
   ·rw [GA (by lia)] at h;lia
 | k + 1,n,h=>by
   by_cases z:n=0
   ·subst z;exact Nat.pow_pos (by decide)
   ·rw [GA (by lia)] at h;have:=Qw k (n / 256) (by lia);rw [Nat.div_lt_iff_lt_mul (by decide)] at this;rw [ul4];exact this
theorem T4 {o:Str}(h:GW o=true):o=Str.ofString "of":=by
 unfold GW at h;simpa using h
theorem back:∀(n:Nat) (s:Sh),s.depth<=n->wf s=true->∀(w:List Nat) (v:D) (a:Nat),Ah s v=true->At w a (Ax s v)->(pSh n s).run w a = .told v (a + (Ax s v).length)
 | 0,s,hs,_,_,_,_,_,_=>absurd s.depth_pos (by lia)
 | n + 1,s,hs,hwf,w,v,a,hf,h=>by
   cases s with
   | nothing=>
     have:v = .non:=by cases v <;> simp [Ah,Gj] at hf <;> rfl
     subst this;rfl
   | number lo hi=>
     simp only [wf,uh0,ug1] at hwf
     cases v with
     | int i=>
       simp only [Ah,uh0,ug1] at hf;rw [Ax] at h ⊢;rw [pSh,LZ (wid (hi - lo).toNat) 0 (i - lo).toNat a ?_ (by lia) h,LV]
       ·congr 2;lia
       ·exact Nat.div_eq_of_lt (Nat.lt_of_le_of_lt (show (i - lo).toNat<=(hi - lo).toNat by lia) (Qw _ _ (ul9 _)))
     | _=>simp [Ah] at hf
   | text q=>
     cases v with
     | str x=>
       simp only [Ah,uh0,ug1,uh2] at hf;rw [Ax] at h ⊢;obtain ⟨h1,h2⟩:=At.head h;rw [pSh,Bo h1,if_pos (uj6 hf.1)];have hl:x.length=x.cps.toList.length:=rfl;rw [hl,Ml x.cps.toList [] (a + 1) hf.2 h2,List.nil_append,ug4,uh9]
       congr 1
       lia
     | _=>simp [Ah] at hf
   | list s q=>
     simp only [wf,uh0,ug1] at hwf;rw [Sh.depth] at hs
     cases v with
     | lst ds=>
       rw [Ah,uh0,ug1,uh2] at hf;rw [Ax] at h ⊢;obtain ⟨h1,h2⟩:=At.head h;rw [pSh,Bo h1,if_pos (uj6 hf.1),LR (λv a=>back n s (by lia) hwf.2 w v a) ds [] (a + 1) hf.2 h2,List.nil_append,ug4]
       congr 1
       lia
     | _=>simp [Ah] at hf
   | pair s r=>
     simp only [wf,uh0] at hwf;rw [Sh.depth] at hs;unfold Ah at hf
     split at hf
     ·rw [uh0] at hf;rw [Ax] at h ⊢;rw [pSh,D2,back n s (by lia) hwf.1 w _ a hf.1 h.left,RR.thn,D2,back n r (by lia) hwf.2 w _ _ hf.2 h.right,RR.thn,Rd.run,ue6,uk5]
     ·cases hf
   | choice ss=>
     simp only [wf,uh0,ug1] at hwf;rw [Sh.depth] at hs;unfold Ah at hf
     split at hf
     ·next o k x=>
      simp only [uh0,ug1] at hf;obtain ⟨j,rfl⟩:=ub7 hf.1.2.1;have hj:j < ss.length:=by have:=hf.1.2.2;lia
      have e1:ss[j]?=some ss[j]:=ub3 hj;have h2:=hf.2;rw [uf4,B9 ss _ _ _ e1] at h2;rw [Ax,uf4,DX ss _ _ _ e1] at h ⊢;obtain ⟨h3,h4⟩:=At.head h;have ho:o=Str.ofString "of":=T4 hf.1.1;subst ho;rw [pSh,Bo h3,if_pos (uj6 hj),ua8,e1,Option.getD_some,D2,back n _ (ul1 (Ce ss _ _ e1) (by lia)) (D4 hwf.2 _ (uh4 hj)) w x (a + 1) h2 h4,RR.thn,Rd.run,ug4]
      congr 1
      lia
     ·cases hf
theorem SA {c:Nat}:∀(p:Rd) (a:Nat),p.run w a = .told v b->a<=c->c < b->p.run (w.take c) a = .short:=by
 intro p
 induction p with
 | done v'=>intro a h h1 h2;rw [Rd.run] at h;cases h;lia
 | need ok nx ih=>
   intro a h h1 h2
   cases e:w[a]? with
   | none=>rw [Ck e] at h;cases h
   | some x=>
     rw [Bo e] at h
     by_cases q:ok x=true
     ·rw [if_pos q] at h
      by_cases hac:a < c
      ·rw [Bo (b:=x) (by rw [ue9,if_pos hac];exact e),if_pos q];exact ih x (a + 1) h hac h2
      ·exact Ck (by rw [ue9,if_neg hac])
     ·rw [if_neg q] at h;cases h
theorem FH {wl wr:List Nat}{t:List D}(e:EB g wl wr h a b = .stop):∀F,Eh g wl wr F h a b t=(t,h,a,b,none)
 | 0=>rfl
 | F + 1=>by unfold Eh;rw [e]
def Wir (S:List Ob)(d:D)(w:List Nat):Prop:=d = .lst (wD w)\/∃k,d = .obj k/\S[k]?=some (.lst (wD w))
def PureS (S:List Ob)(f:Fn)(ds:List D)(r:D):Prop:=Wf f ds S λr' S'=>r'=r/\S'=S
theorem PureS.use {f:Fn}(h:PureS S f ds r){P:D->List Ob->Prop}(p:P r S):Wf f ds S P:=h.mono λ_ _ ⟨e1,e2⟩=>by subst e1 e2;exact p
theorem K7 {d:D}(h:Wir t.S d w)(p:P (.int (w.length:Nat)) t):W (AN [d]) t P:=by
 rcases h with rfl | ⟨k,rfl,e⟩
 ·refine Om ?_;rw [Br];exact p
 ·refine Tm e ?_;rw [Br];exact p
theorem SJ {d:D}(h:Wir t.S d w)(e:w[a]?=some b)(p:P (.int (b:Int)) t):W (ixD d (.int (a:Int))) t P:=by
 rcases h with rfl | ⟨k,rfl,e'⟩
 ·exact Bg (Ho (Qq e)) p
 ·exact W_ix_obj.mpr ⟨_,e',_,Ho (Qq e),p⟩
def BXw (f:Fn):Prop:=∀(S:List Ob) (wv:D) (w:List Nat) (a:Nat),Wir S wv w->PureS S f [wv,.int (a:Int)] (byX w[a]?)
theorem VM:BXw (fnOf 2 2 Fm):=by
 intro S wv w a hv;refine Ao rfl ?_;unfold Fm;have hl:=Br w
 cases h:w[a]? with
 | none=>
   have:=ub2.mp h;symm;refine K7 hv ?_;symm;refine Em (uj6 (by lia)) ?_;symm;exact ⟨rfl,rfl⟩
 | some b=>
   obtain ⟨hj,_⟩:=ua9.mp h;symm;refine K7 hv ?_;symm;refine DF (uj0 (by lia)) ?_;symm;refine SJ hv h ?_;exact ⟨rfl,rfl,rfl⟩
def UXw (f:Fn):Prop:=∀(S:List Ob) (wv:D) (m:Int) (w:List Nat) (a:Nat),Wir S wv w->PureS S f [.int m,wv,.int (a:Int)] (upX m a w[a]?)
theorem XH (hc:BXw c):UXw (fnOf 3 4 (D9 c)):=by
 intro S wv m w a hv;refine Ao rfl ?_;unfold D9;have hb:=hc S wv w a hv
 cases h:w[a]? with
 | none=>
   rw [h,byX] at hb;symm;refine hb.use ?_;symm;exact ⟨rfl,rfl⟩
 | some b=>
   rw [h,byX] at hb;symm;refine hb.use ?_;symm;rw [upX]
   by_cases q:(b:Int)<=m
   ·rw [if_pos q];refine DF (uj0 (by lia)) ?_;symm;exact ⟨rfl,rfl,rfl⟩
   ·rw [if_neg q];refine Em (uj6 (by lia)) ?_;symm;exact ⟨rfl,rfl⟩
def SXw (f:Fn):Prop:=∀(S:List Ob) (wv:D) (w:List Nat) (a:Nat),Wir S wv w->PureS S f [wv,.int (a:Int)] (sgX a w[a]?)
variable {cb:Fn}
theorem Xz {cs:Fn}(hs:IC cs)(hb:BXw cb):SXw (fnOf 2 3 (Fp cs cb)):=by
 intro S wv w a hv;refine Ao rfl ?_;unfold Fp;have hb:=hb S wv w a hv
 cases h:w[a]? with
 | none=>
   rw [h,byX] at hb;symm;refine hb.use ?_;symm;exact ⟨rfl,rfl⟩
 | some c=>
   rw [h,byX] at hb;symm;refine hb.use ?_;symm;refine (hs c).use ?_;rw [sgX]
   by_cases q:Bm c=true
   ·rw [if_pos q,q];symm;refine W_ix_str.mpr ⟨by decide +kernel,c,Xu q,?_⟩;exact ⟨rfl,rfl,rfl⟩
   ·have q':Bm c=false:=by simpa using q
    rw [if_neg q,q'];symm;exact ⟨rfl,rfl⟩
theorem Xm (hl:GG cl)(hb:BXw cb)(hw:IE cw){lo hi:Int}(hwf:wf (.number lo hi)=true)(w:List Nat)(a:Nat){S:List Ob}{wv:D}(hv:Wir S wv w):PureS S (fnOf 3 7 (CN cl cb cw)) [(Sh.number lo hi).d,wv,.int (a:Int)] (rrD ((Gq lo (hi - lo).toNat (wid (hi - lo).toNat) 0).run w a)):=by
 have hsp:=Nk hwf;have hwd:=Hh 9 _ hsp;refine Ao rfl ?_;unfold CN;rw [Sh.d];have em:hi - lo=(((hi - lo).toNat:Nat):Int):=by
  simp only [wf,uh0,ug1] at hwf;lia
 have hww:=λS P p=>(hw (hi - lo).toNat hsp).use (S:=S) (P:=P) p;rw [<-em] at hww;generalize (hi - lo).toNat=M at *;generalize hW:wid M=n at *;symm;refine hww _ _ ?_;rw [em];symm;refine Hg (BH (by lia) (by lia)) ?_;refine Cn (λr t=>∃(j x:Nat) (e6:Option Sl),j<=n/\r=(A7 0 ((n:Nat):Int).toNat).drop j/\(Gq lo M n 0).run w a=(Gq lo M (n - j) x).run w (a + j)/\t=⟨[some (.val (.tup [.str "number",.int lo,.int hi])),some (.val wv),some (.val (.int a)),some (.val (.int M)),some (.val (.int n)),some (.val (.int x)),e6],S⟩) _ _ ⟨0,0,none,um0 _,rfl,rfl,rfl⟩ ?_ ?_
 ·rintro d r t ⟨j,x,e6,hj,hr,hrun,rfl⟩ _;obtain ⟨rfl,hr',hjn⟩:=JU hr;rw [uf4] at hjn;rw [Int.zero_add];obtain ⟨e,he⟩:∃e,n - j=e + 1:=⟨n - j - 1,by lia⟩;rw [he,Gq] at hrun;have hby:=hb S wv w (a + j) hv;symm;refine On (M0 (by decide) (by decide)) ?_;symm;rw [show ((a:Int) + (j:Int))=((a + j:Nat):Int) by lia]
  cases h:w[a + j]? with
  | none=>
    rw [h,byX] at hby;rw [Ck h] at hrun;refine hby.use ?_;symm;exact ⟨by rw [hrun];rfl,rfl⟩
  | some b=>
    rw [h,byX] at hby;rw [Bo h] at hrun;refine hby.use ?_;symm;refine ⟨rfl,?_⟩;symm;rw [show ((n:Int) - 1 - (j:Int))=((e:Nat):Int) by lia,show ((x:Int) * 256 + (b:Int))=((x * 256 + b:Nat):Int) by lia];refine (hl M e (by lia)).use ?_;symm
    by_cases q:x * 256 + b<=M / 2 ^ (8 * e)
    ·rw [if_pos (uj6 q)] at hrun;refine DF (uj0 (by lia)) ?_;symm;exact ⟨j + 1,x * 256 + b,_,hjn,hr',by rw [show n - (j + 1)=e by lia,hrun,uk5],rfl⟩
    ·rw [if_neg (by rw [ug1];exact q)] at hrun;refine Em (uj6 (by lia)) ?_;symm;exact ⟨by rw [hrun];rfl,rfl⟩
 ·rintro t ⟨j,x,e6,hj,hr,hrun,rfl⟩;have hj':j=n:=by
   have:=congrArg List.length hr;rw [ui5,ug7,Ji,uf4] at this;lia
  subst hj';rw [ul7,Gq,Rd.run] at hrun;symm;exact ⟨rfl,by rw [hrun];rfl,rfl⟩
variable {cu:Fn}
theorem UP {ca:Fn}(ha:SXw ca)(hu:UXw cu){q:Int}(hwf:wf (.text q)=true)(n:Nat)(w:List Nat)(a:Nat){S:List Ob}{wv:D}(hv:Wir S wv w):PureS S (fnOf 3 7 (DA ca cu)) [(Sh.text q).d,wv,.int (a:Int)] (rrD ((pSh (n + 1) (.text q)).run w a)):=by
 have hL:LIM=100000:=rfl;refine Ao rfl ?_;unfold DA;rw [Sh.d,pSh];simp only [wf,uh0,ug1] at hwf;have hup:=hu S wv q w a hv;symm
 cases h:w[a]? with
 | none=>
   rw [h,upX] at hup;rw [Ck h];refine hup.use ?_;symm;exact ⟨rfl,rfl⟩
 | some b=>
   rw [h,upX] at hup;rw [Bo h]
   by_cases hb:(b:Int)<=q
   ·rw [if_pos hb] at hup;rw [if_pos (uj6 hb)];refine hup.use ?_;symm;refine Hg (BH (by lia) (by lia)) ?_;refine Cn (λr t=>∃(j:Nat) (y:Str) (e6:Option Sl),j<=b/\r=(A7 0 ((b:Nat):Int).toNat).drop j/\y.cps.toList.length=j/\(G7 b []).run w (a + 1)=(G7 (b - j) y.cps.toList).run w (a + 1 + j)/\t=⟨[some (.val (.tup [.str "text",.int q])),some (.val wv),some (.val (.int a)),some (.val (.int b)),some (.val (.int ((a:Int) + 1))),some (.val (.str y)),e6],S⟩) _ _ ⟨0,Str.ofString "",none,um0 _,rfl,by decide +kernel,by rw [Nat.sub_zero,Nat.add_zero,show (Str.ofString "").cps.toList=[] by decide +kernel],rfl⟩ ?_ ?_
    ·rintro d r t ⟨j,y,e6,hj,hr,hyl,hrun,rfl⟩ _;obtain ⟨rfl,hr',hjn⟩:=JU hr;rw [uf4] at hjn;rw [Int.zero_add];obtain ⟨e,he⟩:∃e,b - j=e + 1:=⟨b - j - 1,by lia⟩;rw [he,G7] at hrun;have hsg:=ha S wv w (a + 1 + j) hv;symm;rw [show ((a:Int) + 1 + (j:Int))=((a + 1 + j:Nat):Int) by lia]
     cases h2:w[a + 1 + j]? with
     | none=>
       rw [h2,sgX] at hsg;rw [Ck h2] at hrun;refine hsg.use ?_;symm;exact ⟨by rw [hrun];rfl,rfl⟩
     | some c=>
       rw [h2,sgX] at hsg;rw [Bo h2] at hrun
       by_cases hc:Bm c=true
       ·rw [if_pos hc] at hsg hrun;refine hsg.use ?_;symm;refine Bx (by rw [EG y,hyl,hL];show j + 1<=_;lia) ?_;refine ⟨rfl,?_⟩;symm;refine ⟨j + 1,_,_,hjn,hr',?_,?_,rfl⟩
        ·rw [Kk,ue6,hyl];rfl
        ·rw [hrun,Kk,show b - (j + 1)=e by lia,uk5 (a + 1)]
       ·rw [if_neg hc] at hsg hrun;refine hsg.use ?_;symm;exact ⟨by rw [hrun];rfl,rfl⟩
    ·rintro t ⟨j,y,e6,hj,hr,hyl,hrun,rfl⟩;have hj':j=b:=by
      have:=congrArg List.length hr;rw [ui5,ug7,Ji,uf4] at this;lia
     subst hj';rw [ul7,G7,Rd.run] at hrun;have ey:(⟨y.cps.toList.toArray⟩:Str)=y:=Vc (by simp);rw [ey] at hrun;symm;refine ⟨rfl,?_,rfl⟩;rw [hrun,rrD,show ((a:Int) + 1 + (j:Int))=((a + 1 + j:Nat):Int) by lia]
   ·rw [if_neg hb] at hup;rw [if_neg (by rw [ug1];exact hb)];refine hup.use ?_;symm;exact ⟨rfl,rfl⟩
def RXw (c:Fn)(s:Sh)(p:Rd):Prop:=∀(S:List Ob) (wv:D) (w:List Nat) (a:Nat),Wir S wv w->a<=w.length->PureS S c [s.d,wv,.int (a:Int)] (rrD (p.run w a))
variable {s:Sh}
theorem UM {p:Rd}{q:Int}(hu:UXw cu)(hq2:q<=250)(hc:RXw c s p)(w:List Nat)(a:Nat){S:List Ob}{wv:D}(hv:Wir S wv w):PureS S (fnOf 3 8 (Dy c cu)) [(Sh.list s q).d,wv,.int (a:Int)] (rrD ((Rd.need (λb=>decide ((b:Int)<=q)) λb=>Gp p b []).run w a)):=by
 have hL:LIM=100000:=rfl;refine Ao rfl ?_;unfold Dy;rw [Sh.d];have hup:=hu S wv q w a hv;symm
 cases h:w[a]? with
 | none=>
   rw [h,upX] at hup;rw [Ck h];refine hup.use ?_;symm;exact ⟨rfl,rfl⟩
 | some b=>
   have hal:=(ua9.mp h).1;rw [h,upX] at hup;rw [Bo h]
   by_cases hb:(b:Int)<=q
   ·rw [if_pos hb] at hup;rw [if_pos (uj6 hb)];refine hup.use ?_;symm;refine Hg (BH (by lia) (by lia)) ?_;refine Cn (λr t=>∃(j a':Nat) (ds:List D) (e6 e7:Option Sl),j<=b/\r=(A7 0 ((b:Nat):Int).toNat).drop j/\ds.length=j/\a'<=w.length/\(Gp p b []).run w (a + 1)=(Gp p (b - j) ds).run w a'/\t=⟨[some (.val (.tup [.str "list",s.d,.int q])),some (.val wv),some (.val (.int a)),some (.val (.int b)),some (.val (.int (a':Int))),some (.own ds),e6,e7],S⟩) _ _ ⟨0,a + 1,[],none,none,um0 _,rfl,rfl,hal,rfl,rfl⟩ ?_ ?_
    ·rintro d r t ⟨j,a',ds,e6,e7,hj,hr,hdl,ha',hrun,rfl⟩ _;obtain ⟨rfl,hr',hjn⟩:=JU hr;rw [uf4] at hjn;obtain ⟨e,he⟩:∃e,b - j=e + 1:=⟨b - j - 1,by lia⟩;rw [he,Gp,D2] at hrun;have hcc:=hc S wv w a' hv ha'
     cases h2:p.run w a' with
     | short=>
       rw [h2] at hrun hcc;symm;refine hcc.use ?_;rw [rrD];symm;exact ⟨by rw [hrun];rfl,rfl⟩
     | broken k=>
       rw [h2] at hrun hcc;symm;refine hcc.use ?_;rw [rrD];symm;exact ⟨by rw [hrun];rfl,rfl⟩
     | told v a2=>
       have hle:=Ka p a' ha' h2;rw [h2] at hrun hcc;symm;refine hcc.use ?_;rw [rrD];symm;refine Bx (by rw [hdl,hL];lia) ?_;symm;exact ⟨j + 1,a2,ds++[v],_,_,hjn,hr',by rw [ue6,hdl];rfl,hle.2,by rw [hrun,show b - (j + 1)=e by lia];rfl,rfl⟩
    ·rintro t ⟨j,a',ds,e6,e7,hj,hr,hdl,ha',hrun,rfl⟩;have hj':j=b:=by
      have:=congrArg List.length hr;rw [ui5,ug7,Ji,uf4] at this;lia
     subst hj';rw [ul7,Gp,Rd.run] at hrun;symm;exact ⟨rfl,by rw [hrun];rfl,rfl⟩
   ·rw [if_neg hb] at hup;rw [if_neg (by rw [ug1];exact hb)];refine hup.use ?_;symm;exact ⟨rfl,rfl⟩
theorem UO {r:Sh}{p p':Rd}(hs:RXw c s p)(hr:RXw c r p')(w:List Nat)(a:Nat){S:List Ob}{wv:D}(hv:Wir S wv w)(ha:a<=w.length):PureS S (fnOf 3 5 (Dz c)) [(Sh.pair s r).d,wv,.int (a:Int)] (rrD ((p.bnd λv=>p'.bnd λu=>.done (.tup [v,u])).run w a)):=by
 refine Ao rfl ?_;unfold Dz;rw [Sh.d,D2];have h1:=hs S wv w a hv ha
 cases e1:p.run w a with
 | short=>
   rw [e1] at h1;symm;refine h1.use ?_;rw [rrD];symm;exact ⟨rfl,rfl⟩
 | broken k=>
   rw [e1] at h1;symm;refine h1.use ?_;rw [rrD];symm;exact ⟨rfl,rfl⟩
 | told v a'=>
   have hle:=Ka p a ha e1;rw [e1] at h1;have h2:=hr S wv w a' hv hle.2;rw [RR.thn,D2];symm;refine h1.use ?_;rw [rrD];symm;refine h2.use ?_
   cases e2:p'.run w a' with
   | short=>rw [rrD];symm;exact ⟨rfl,rfl⟩
   | broken k=>rw [rrD];symm;exact ⟨rfl,rfl⟩
   | told u a2=>rw [rrD];symm;exact ⟨rfl,rfl,rfl⟩
theorem P3 {p:Nat->Rd}(hu:UXw cu)(hc:∀(k:Nat) (h:k < ss.length),RXw c ss[k] (p k))(w:List Nat)(a:Nat){S:List Ob}{wv:D}(hv:Wir S wv w):PureS S (fnOf 3 5 (CL c cu)) [(Sh.choice ss).d,wv,.int (a:Int)] (rrD ((Rd.need (λb=>decide (b < ss.length)) λb=>(p b).bnd λv=>.done (.tup [.str "of",.int b,v])).run w a)):=by
 refine Ao rfl ?_;unfold CL;rw [Sh.d];have hup:=hu S wv ((ss.length:Int) - 1) w a hv;symm;rw [C1];refine hup.use ?_
 cases h:w[a]? with
 | none=>
   rw [Ck h,upX];symm;exact ⟨rfl,rfl⟩
 | some b=>
   have hal:=(ua9.mp h).1;rw [Bo h,upX]
   by_cases hb:b < ss.length
   ·rw [if_pos (show (b:Int)<=(ss.length:Int) - 1 by lia),if_pos (uj6 hb),D2];have e0:ss[b]?=some ss[b]:=ub3 hb;have hsd:atI (shD ss) (b:Int)=some ss[b].d:=Ho (by rw [E2,e0];rfl);have h2:=hc b hb S wv w (a + 1) hv hal;symm;refine ET hsd ?_;symm;rw [show ((a:Int) + 1)=((a + 1:Nat):Int) by lia];refine h2.use ?_
    cases e2:(p b).run w (a + 1) with
    | short=>rw [rrD];symm;exact ⟨rfl,rfl⟩
    | broken k=>rw [rrD];symm;exact ⟨rfl,rfl⟩
    | told u a2=>rw [rrD];symm;exact ⟨rfl,rfl,rfl⟩
   ·rw [if_neg (show ¬(b:Int)<=(ss.length:Int) - 1 by lia),if_neg (by rw [ug1];exact hb)];symm;exact ⟨rfl,rfl⟩
def GH (f:Fn)(n:Nat):Prop:=∀s:Sh,s.depth<=n->wf s=true->RXw f s (pSh n s)
theorem P4 (hn:∀lo hi,wf (.number lo hi)=true->RXw cn (.number lo hi) (pSh (n + 1) (.number lo hi)))(ht:∀q,wf (.text q)=true->RXw ct (.text q) (pSh (n + 1) (.text q)))
 (hl:∀s q,q<=250->s.depth<=n->wf s=true->RXw cl (.list s q) (pSh (n + 1) (.list s q))) (hp:∀s r,s.depth<=n->r.depth<=n->wf s=true->wf r=true->RXw cp (.pair s r) (pSh (n + 1) (.pair s r)))
 (hc:∀ss:List Sh,(∀(k:Nat) (h:k < ss.length),ss[k].depth<=n/\wf ss[k]=true)->RXw cc (.choice ss) (pSh (n + 1) (.choice ss))):GH (fnOf 3 4 (C6 cc cp cl ct cn)) (n + 1):=by
 intro s hs hwf S wv w a hv ha;refine Ao rfl ?_;unfold C6
 cases s with
 | nothing=>
   rw [Sh.d,pSh,Rd.run,rrD];symm;exact ⟨rfl,rfl,rfl⟩
 | number lo hi=>
   have h:=hn lo hi hwf S wv w a hv ha;rw [Sh.d] at h ⊢;symm;exact h.use ⟨rfl,rfl⟩
 | text q=>
   have h:=ht q hwf S wv w a hv ha;rw [Sh.d] at h ⊢;symm;exact h.use ⟨rfl,rfl⟩
 | list s q=>
   simp only [wf,uh0,ug1] at hwf;rw [Sh.depth] at hs;have h:=hl s q hwf.1.2 (by lia) hwf.2 S wv w a hv ha;rw [Sh.d] at h ⊢;symm;exact h.use ⟨rfl,rfl⟩
 | pair s r=>
   simp only [wf,uh0] at hwf;rw [Sh.depth] at hs;have h:=hp s r (by lia) (by lia) hwf.1 hwf.2 S wv w a hv ha;rw [Sh.d] at h ⊢;symm;exact h.use ⟨rfl,rfl⟩
 | choice ss=>
   simp only [wf,uh0,ug1] at hwf;rw [Sh.depth] at hs;have h:=hc ss (λk hk=>⟨ul1 (Ce ss _ _ (ub3 hk)) (by lia),D4 hwf.2 _ (uh4 hk)⟩) S wv w a hv ha;rw [Sh.d] at h ⊢;symm;exact h.use ⟨rfl,rfl⟩
theorem N6 {ca cl':Fn}(e1:cc=fnOf 3 5 (CL c cu))(e2:cp=fnOf 3 5 (Dz c))(e3:cl=fnOf 3 8 (Dy c cu))(e4:ct=fnOf 3 7 (DA ca cu))(e5:cn=fnOf 3 7 (CN cl' cb cw))
 (hu:UXw cu) (ha:SXw ca) (hl':GG cl') (hb:BXw cb) (hw:IE cw) (hc:GH c n):GH (fnOf 3 4 (C6 cc cp cl ct cn)) (n + 1):=by
 subst e1 e2 e3 e4 e5;refine P4 (λlo hi h S wv w a hv _=>?_) (λq h S wv w a hv _=>UP ha hu h n w a hv) (λs q h2 hd h S wv w a hv _=>?_) (λs r d1 d2 w1 w2 S wv w a hv ha=>?_) λss h S wv w a hv _=>?_
 ·rw [pSh];exact Xm hl' hb hw h w a hv
 ·rw [pSh];exact UM hu h2 (hc s hd h) w a hv
 ·rw [pSh];exact UO (hc s d1 w1) (hc r d2 w2) w a hv ha
 ·rw [pSh];refine P3 hu (p:=λb=>pSh n (ss.getD b .nothing)) (λk hk=>?_) w a hv;show RXw c ss[k] (pSh n (ss.getD k .nothing));rw [ua8,ub3 hk,Option.getD_some];exact hc _ (h k hk).1 (h k hk).2
variable {S':List Ob}
theorem Wir.gr {d:D}(h:Wir S d w)(g:Gr S S'):Wir S' d w:=h.imp id λ⟨k,e1,e2⟩=>⟨k,e1,g.get e2⟩
def Qz (f:Fn):Prop:=∀(S:List Ob) (wv:D) (n:Int) (side:Str) (ws:List (Str×Sh×Int)) (w:List Nat) (p:Nat),Wir S wv w->GSOk n (.st side ws)->p<=w.length->w.length<=50000->PureS S f [(GS.st side ws).d,wv,.int p] (ES side ws w p)
theorem Ua (hc:GH c 3):Qz (fnOf 3 6 (Et c)):=by
 intro S wv n side ws w p hv hgs hp hwl
 cases hgs with
 | @st _ _ hs1 hs2 hs3 hs4 hs5=>
 refine Ao rfl ?_;unfold Et;rw [GS.d]
 cases hb:w[p]? with
 | none=>
   have hpl:¬p < w.length:=by rw [ub2] at hb;lia
   rw [show ES side ws w p = .non by unfold ES msgR;rw [hb]];symm;refine K7 hv ?_;symm;refine Em (by simp;lia) ?_;symm;refine ⟨rfl,?_⟩;symm;exact ⟨rfl,rfl⟩
 | some cc=>
   obtain ⟨hpl,_⟩:=ua9.mp hb;symm;refine K7 hv ?_;symm;refine DF (by simp;lia) ?_;symm;refine SJ hv hb ?_;symm;rw [uh9]
   cases hw:ws[cc]? with
   | none=>
     have hcl:¬cc < ws.length:=by rw [ub2] at hw;lia
     rw [show ES side ws w p = .exc "Broken" [.int p,.str side] by unfold ES msgR;simp only [hb,hw]];refine Em (by simp;lia) ?_;symm;exact ⟨rfl,rfl⟩
   | some wd=>
     obtain ⟨hcl,_⟩:=ua9.mp hw;have hwo:=hs5 wd (ud4 hw);have hgd:ws.getD cc (Str.ofString "",.nothing,0)=wd:=by rw [ua8,hw];rfl
     have hrd:=hc wd.2.1 hwo.dep hwo.ok S wv w (p + 1) hv hpl;refine DF (by simp;lia) ?_;symm;refine SJ hv hb ?_;symm;refine Bg (Ei hw) ?_;unfold wdD;dsimp only;symm
     cases e:(pSh 3 wd.2.1).run w (p + 1) with
     | told v b=>
       rw [show ES side ws w p = .tup [.tup [.str side,.str wd.1,v],.int wd.2.2,.int b] by unfold ES msgR;simp only [hb,hw,e,hgd]];rw [e,rrD] at hrd;refine hrd.use ?_;symm;exact ⟨rfl,rfl,rfl⟩
     | short=>
       rw [show ES side ws w p = .non by unfold ES msgR;simp only [hb,hw,e]];rw [e,rrD] at hrd;refine hrd.use ?_;symm;refine ⟨rfl,?_⟩;symm;exact ⟨rfl,rfl⟩
     | broken k=>
       rw [show ES side ws w p = .exc "Broken" [.int k,.str side] by unfold ES msgR;simp only [hb,hw,e]];rw [e,rrD] at hrd;refine hrd.use ?_;symm;exact ⟨rfl,rfl⟩
abbrev Fu (wl wr:List Nat):Nat:=wl.length + wr.length + 1
def Rch (g:List GS)(vl vr:List Nat)(tk:List D)(h a b:Nat):Prop:=Pl g vl vr h a b/\∀xl xr:List Nat,Eh g (vl++xl) (vr++xr) (Fu (vl++xl) (vr++xr)) 0 0 0 []=Eh g (vl++xl) (vr++xr) (Fu (vl++xl) (vr++xr)) h a b tk
def Fed (g:List GS)(vl vr:List Nat)(tk:List D)(h a b:Nat)(fl:D):Prop:=Rch g vl vr tk h a b/\match Eh g vl vr (Fu vl vr) 0 0 0 [] with
 | (t',h',a',b',none)=>tk=t'/\h=h'/\a=a'/\b=b'/\fl = .non
 | (_,_,_,_,some (k,s))=>fl = .tup [.int (k:Nat),.str s]
section
variable {f:Str}{t:T}{P:D->T->Prop}{O:Out->T->Prop}{k:Nat}{n:Str}{fs:List (Str×D)}{v:D}
def Q2 (f:Str)(d:D):M D:=Fi d λ_ _ fs t=>(fs.lookup f).map λv=>(v,t)
def JZ (f:Str)(v d:D):M Out:=Fi d λk n fs t=>if fs.length < 1000 then some (.next,{ t with S:=t.S.set k (.ins n (Fv f v fs)) }) else none
theorem XQ {a:M D}(h:W a t λd t1=>W (Q2 f d) t1 P):W (Cs f a) t P:=B1 h
theorem BN (e:t.S[k]?=some (.ins n fs))(l:fs.lookup f=some v)(h:P v t):W (Q2 f (.obj k)) t P:=⟨_,_,by simp only [Q2,Fi,e,l];rfl,h⟩
theorem Nl {gv ga:M D}(h:W gv t λv t1=>W ga t1 λd t2=>W (JZ f v d) t2 O):W (Ds f gv ga) t O:=B1 (h.mono λ_ _ z=>B1 z)
theorem Du (e:t.S[k]?=some (.ins n fs))(l:fs.length < 1000)(h:O .next ⟨t.env,t.S.set k (.ins n (Fv f v fs))⟩):W (JZ f v (.obj k)) t O:=⟨_,_,by simp only [JZ,Fi,e,if_pos l],h⟩
theorem Y8 {g:Fn}{fl:M (List D)}(h:W fl t λds t1=>Wf g (.obj t1.S.length :: ds) (t1.S++[.ins n []]) λr S'=>r = .non/\P (.obj t1.S.length) ⟨t1.env,S'⟩):W (KW n g fl) t P:=
 B1 (h.mono λds t1 ⟨r,S',e,e2,p⟩=>by subst e2;exact ⟨_,_,by simp only [e],p⟩)
theorem Y9 {g:Fn}{o:M D}{fl:M (List D)}(h:W o t λd t1=>∃k fs,d = .obj k/\t1.S[k]?=some (.ins n fs)/\W fl t1 λds t2=>Wf g (d :: ds) t2.S λr S'=>P r ⟨t2.env,S'⟩):W (A4 n g o fl) t P:=by
 refine B1 (h.mono λd t1 z=>?_);obtain ⟨k,fs,e1,e2,w⟩:=z;subst e1;obtain ⟨ds,t2,w1,r,S',w2,p⟩:=w;refine ⟨r,_,?_,p⟩;simp only [Fi,e2,if_pos,bnd,w1,w2]
theorem Qr (h:P (.obj t.S.length) ⟨t.env,t.S++[.dct []]⟩):W (EE []) t P:=by
 refine ⟨_,_,?_,h⟩;simp [EE,Hs,bnd,F2.ret,EZ,D1]
end
local macro_rules | `(tactic| walk_at "y1")=>`(tactic| first
 | walk_at "x1" | clear 31 Kh XQ Nl Qr Qv)
abbrev rdF (g:List GS)(h W P:Nat):List (Str×D):=[("grammar",.lst (g.map GS.d)),("standing",.int (h:Nat)),("wires",.obj W),("places",.obj P)]
structure Rdr (n0:Nat)(S:List Ob)(k:Nat)(g:List GS)(vl vr:List Nat)(h a b W P l r:Nat):Prop where
 k0:n0<=k
 l0:n0<=l
 r0:n0<=r
 ne:l≠r
 k:S[k]?=some (.ins "Reader" (rdF g h W P))
 w:S[W]?=some (.dct (lr (.obj l) (.obj r)))
 p:S[P]?=some (.dct (dP a b))
 l:S[l]?=some (.lst (wD vl))
 r:S[r]?=some (.lst (wD vr))
def Low (n0:Nat)(S S':List Ob):Prop:=n0<=S'.length/\∀i,i < n0->S'[i]?=S[i]?
variable {u:Ob}
theorem An {o:Ob}(h:S[i]?=some u)(n:j≠i):(S.set j o)[i]?=some u:=by rw [ud3 n];exact h
theorem Ar {o:Ob}(h:S[i]?=some o)(h':S[j]?=some u)(n:o≠u):i≠j:=λe=>by subst e;rw [h] at h';exact n (uh8 h')
def Kp (k:Nat)(S S':List Ob):Prop:=S.length<=S'.length/\∀i,i < S.length->i≠k->S'[i]?=S[i]?
theorem Kp.refl {k:Nat}:Kp k S S:=⟨ul9 _,λ_ _ _=>rfl⟩
theorem Kp.setk {k:Nat}{o:Ob}(a:Kp k S S'):Kp k S (S'.set k o):=⟨by rw [ui8];exact a.1,λi h n=>by rw [ud3 (Ne.symm n)];exact a.2 i h n⟩
theorem Kp.set {k j:Nat}{S S':List Ob}{o:Ob}(a:Kp k S S')(h:S.length<=j):Kp k S (S'.set j o):=⟨by rw [ui8];exact a.1,λi hi n=>by rw [ud3 (by lia)];exact a.2 i hi n⟩
theorem Kp.app {k:Nat}{o:Ob}(a:Kp k S S'):Kp k S (S'++[o]):=⟨by rw [ue6];exact ul1 a.1 (uh1 _ _),λi hi n=>by rw [ub0 (ue1 hi a.1)];exact a.2 i hi n⟩
theorem BE {o:Ob}(h:S[i]?=some u):(S++[o])[i]?=some u:=by rw [ub0 (ua9.mp h).1];exact h
theorem BW (h:S[i]?=some u):i < S.length:=(ua9.mp h).1
local macro_rules | `(tactic| walk_at "y1")=>`(tactic| first
 | walk_at "x1" | clear 31 Kh XQ Nl Qr Qv Y9 Y8)
section
variable {n0:Nat}{S:List Ob}{k:Nat}{g:List GS}{vl vr:List Nat}{h a b W P l r:Nat}
end
mutual
noncomputable def Bq:Sh->Bool
 | .number lo hi=>decide (hi - lo < 1000000000)
 | .list s _=>Bq s
 | .pair s r=>Bq s && Bq r
 | .choice ss=>FV ss
 | _=>true
noncomputable def FV:List Sh->Bool
 | []=>true
 | s :: r=>Bq s && FV r
end
theorem FQ:∀{ss:List Sh},FV ss=true->∀s∈ss,Bq s=true
 | x :: r,h,s,m=>by
   rw [FV,uh0] at h;rcases uj8.mp m with e | m
   ·subst e;exact h.1
   ·exact FQ h.2 s m
mutual
noncomputable def CU:Sh->Bool
 | .text m=>decide (m<=3)
 | .list s m=>decide (m<=3) && CU s
 | .pair s r=>CU s && CU r
 | .choice ss=>Jo ss
 | _=>true
noncomputable def Jo:List Sh->Bool
 | []=>true
 | s :: r=>CU s && Jo r
end
theorem KC:∀{ss:List Sh},Jo ss=true->∀s∈ss,CU s=true
 | x :: r,h,s,m=>by
   rw [Jo,uh0] at h;rcases uj8.mp m with e | m
   ·subst e;exact h.1
   ·exact KC h.2 s m
noncomputable def bt:Nat->Nat
 | 0=>4
 | d + 1=>1 + 3 * bt d
theorem Lk:∀d,4<=bt d
 | 0=>ul9 _
 | d + 1=>by have:=Lk d;rw [bt];lia
structure Dr (d:Nat)(s:Sh):Prop where
 ok:wf s=true
 dep:s.depth<=d + 1
 nar:Bq s=true
 tin:CU s=true
 few:∀v,Ah s v=true->(Ax s v).length<=bt d
theorem Dr.nothing {d:Nat}:Dr d .nothing:=⟨rfl,by rw [Sh.depth];lia,rfl,rfl,λv h=>by
 have:v = .non:=by cases v <;> simp [Ah,Gj] at h <;> rfl
 subst this;exact um0 _⟩
theorem Dr.number {d:Nat}{lo w:Int}(h1 : -4<=lo)(h2:lo<=4)(h3:0<=w)(h4:w<=70000):Dr d (.number lo (lo + w)):=by
 refine ⟨?_,by rw [Sh.depth];lia,?_,rfl,λv h=>?_⟩
 ·simp only [wf,uh0,ug1];lia
 ·simp only [Bq,ug1];lia
 ·have hb:=Lk d;have hw:=Hh 3 (lo + w - lo).toNat (by show _ < 16777216;lia)
  cases v with
  | int i=>rw [Ax,LV];lia
  | _=>simp [Ah] at h
theorem Dr.text {d:Nat}{m:Int}(h1:0<=m)(h2:m<=3):Dr d (.text m):=by
 refine ⟨?_,by rw [Sh.depth];lia,rfl,?_,λv h=>?_⟩
 ·simp only [wf,uh0,ug1];lia
 ·simp only [CU,ug1];lia
 ·have hb:=Lk d
  cases v with
  | str x=>
    simp only [Ah,uh0,ug1] at h;have h:=h.1;rw [EG] at h;rw [Ax,ug4,uh9];lia
  | _=>simp [Ah] at h
theorem MQ {s:Sh}{n:Nat}:∀(ds:List D),(∀d∈ds,(Ax s d).length<=n)->((ds.map λd=>Ax s d).flatten).length<=ds.length * n
 | [],_=>um0 _
 | d :: r,h=>by
   have h1:=MQ r λx m=>h x (ud2 _ m);have h2:=h d ue2;rw [uj9,uf5,ue6,ug4,Nat.add_mul,Nat.one_mul];lia
theorem Dr.list {d:Nat}{s:Sh}{m:Int}(h:Dr d s)(h1:0<=m)(h2:m<=3):Dr (d + 1) (.list s m):=by
 have:=h.dep;refine ⟨?_,by rw [Sh.depth];lia,by rw [Bq];exact h.nar,?_,λv hf=>?_⟩
 ·simp only [wf,uh0,ug1,h.ok];exact ⟨⟨by lia,by lia⟩,trivial⟩
 ·simp only [CU,h.tin,Bool.and_true,ug1];lia
 ·cases v with
  | lst ds=>
    rw [Ah,uh0,ug1,uh2] at hf;have h3:=MQ ds λx m=>h.few x (hf.2 x m);have h4:ds.length * bt d<=3 * bt d:=Nat.mul_le_mul_right _ (by lia);rw [Ax,ug4,bt];lia
  | _=>simp [Ah] at hf
theorem Dr.pair {d:Nat}{s r:Sh}(h:Dr d s)(h':Dr d r):Dr (d + 1) (.pair s r):=by
 have:=h.dep;have:=h'.dep;refine ⟨by simp only [wf,h.ok,h'.ok,uk6],by rw [Sh.depth];lia,by simp only [Bq,h.nar,h'.nar,uk6],by simp only [CU,h.tin,h'.tin,uk6],λv hf=>?_⟩;unfold Ah at hf
 split at hf
 ·rw [uh0] at hf;have h1:=h.few _ hf.1;have h2:=h'.few _ hf.2;rw [Ax,ue6,bt];lia
 ·cases hf
theorem Dr.choice {d:Nat}{s r:Sh}(h:Dr d s)(h':Dr d r):Dr (d + 1) (.choice [s,r]):=by
 have:=h.dep;have:=h'.dep;refine ⟨?_,?_,by simp only [Bq,FV,h.nar,h'.nar,uk6],by simp only [CU,Jo,h.tin,h'.tin,uk6],λv hf=>?_⟩
 ·simp only [wf,wfs,h.ok,h'.ok,uk6,Bool.and_true,uh0,ug1,ug4,ui5];lia
 ·rw [Sh.depth,Ee,Ee,Ee];lia
 ·unfold Ah at hf
  split at hf
  ·next o k x=>
   simp only [uh0,ug1] at hf;obtain ⟨j,rfl⟩:=ub7 hf.1.2.1;have hj:j < [s,r].length:=by have:=hf.1.2.2;lia
   have e1:[s,r][j]?=some [s,r][j]:=ub3 hj;have h2:=hf.2;rw [uf4,B9 [s,r] _ _ _ e1] at h2;rw [Ax,uf4,DX [s,r] _ _ _ e1,ug4,bt];have hm:[s,r][j]=s\/[s,r][j]=r:=by
    match j,hj with
    | 0,_=>exact .inl rfl
    | 1,_=>exact .inr rfl
   rcases hm with e | e
   ·rw [e] at h2 ⊢;have:=h.few x h2;lia
   ·rw [e] at h2 ⊢;have:=h'.few x h2;lia
  ·cases hf
theorem WA (c:Int):c % 7=0\/c % 7=1\/c % 7=2\/c % 7=3\/c % 7=4\/c % 7=5\/c % 7=6:=by lia
noncomputable def p4 (k:Int):Int:=if k=0 then 1 else if k=1 then 4 else 16
theorem XT {x:Str}{i:Int}(h:x.length<=LIM)(e:atI x.cps.toList i=some n)(p:P (.str ⟨#[n]⟩) t):W (ixD (.str x) (.int i)) t P:=W_ix_str.mpr ⟨h,n,e,p⟩
theorem UN {d:D}(h:d∈A7 0 n):∃k:Int,d = .int k/\0<=k/\k < n:=by
 obtain ⟨j,hj,e⟩:=List.getElem_of_mem h;have e1:d :: (A7 0 n).drop (j + 1)=(A7 0 n).drop j:=by rw [<-e];exact (ub1 hj).symm
 obtain ⟨rfl,_,hlt⟩:=Ew e1;exact ⟨0 + j,rfl,by lia,by lia⟩
theorem EC {i j:Int}(h1 : -18446744073709551616 < j)(h2:j < 18446744073709551616)(h:P (.int (i * j)) t):W (B3 (.int i) (.int j)) t P:=On (M0 h1 h2) h
def Tin (x:GS):Prop:=∀w∈x.ws,Dr 2 w.2.1
theorem YE (i:Int):∃s:Str,atI [D.str (Str.ofString "left"),.str (Str.ofString "right")] (i % 2)=some (.str s)/\(s=Str.ofString "left"\/s=Str.ofString "right"):=by
 have:i % 2=0\/i % 2=1:=by lia
 rcases this with h | h <;> rw [h]
 ·exact ⟨_,rfl,.inl rfl⟩
 ·exact ⟨_,rfl,.inr rfl⟩
theorem Il (hq:q < g.length):Au g q∈g:=by
 unfold Au;rw [ua8,ub3 hq];exact uh4 hq
theorem KF {g:List GS}(hg:GOk g)(sd:Str):∀(q:Nat) (mv:List Mv),okQ g q mv->isB (Bc g sd q mv)
 | _,[],_=>λd h=>nomatch h
 | q,(p,v) :: r,h=>by
   rw [okQ] at h;have hw:=EY hg h.1.lt h.1.pl;have hgs:=Dw hg h.1.lt;have hp:=h.1.pl;have hp9:p < 256:=by
    cases e:Au g q with
    | fin=>rw [e] at hp;exact absurd hp (Nat.not_lt_zero _)
    | st s ws=>
      rw [e] at hp hgs
      cases hgs with
      | st _ _ h3 _ _=>exact ue1 hp (ul1 h3 (by decide))
   rw [Bc];refine JO ?_ (KF hg sd _ r h.2)
   split
   ·exact Fj hp9 (E9 3 _ hw.dep hw.ok v h.1.fit)
   ·exact λd h=>nomatch h
section
variable {α:Type}{o:Str}{x y z:α}
theorem G6:onS o (onS o x y) (onS o y x)=x:=by unfold onS;split <;> rfl
theorem ZP:onS o x (onS o y z)=onS o x z:=by unfold onS;split <;> rfl
theorem ZQ:onS o (onS o y z) x=onS o y x:=by unfold onS;split <;> rfl
theorem ZR {s:Str}(hs:s=sL\/s=sR)(ho:o=sL\/o=sR)(n:s≠o):onS s (onS o x y) (onS o y x)=y:=by
 unfold onS;rcases hs with rfl | rfl <;> rcases ho with rfl | rfl
 ·exact absurd rfl n
 ·rw [if_pos rfl,if_neg (Ne.symm sLR)]
 ·rw [if_neg (Ne.symm sLR),if_pos rfl]
 ·exact absurd rfl n
end
abbrev w1 (g:List GS)(o:Str)(w:List Nat)(F h a:Nat)(t:List D):Rs:=Eh g (onS o w []) (onS o [] w) F h (onS o a 0) (onS o 0 a) t
abbrev s1 (g:List GS)(o:Str)(w:List Nat)(h a:Nat):Sr:=EB g (onS o w []) (onS o [] w) h (onS o a 0) (onS o 0 a)
theorem Gv (hg:GOk g){o:Str}(ho:o=sL\/o=sR){w:List Nat}{h a:Nat}(hh:h < g.length)(n:(Au g h).side≠o):s1 g o w h a = .stop:=by
 have hgs:=Dw hg hh;unfold s1 EB
 cases e:Au g h with
 | fin=>rfl
 | st side ws=>
   rw [e] at hgs n;have hs:side=sL\/side=sR:=by cases hgs with | st hs1 _ _ _ _=>exact hs1
   dsimp only;rw [ZR hs ho n];rfl
theorem Jl {o:Str}{ws:List (Str×Sh×Int)}(e:Au g h = .st o ws):s1 g o w h a=match msgR o ws w a with
 | (.short,_)=>.stop
 | (.broken k,_)=>.brk k o
 | (.told v e,c)=>.next (.tup [.str o,.str (ws.getD c (Str.ofString "",.nothing,0)).1,v]) (ws.getD c (Str.ofString "",.nothing,0)).2.2.toNat (onS o e 0) (onS o 0 e):=by
 unfold s1 EB;rw [e];dsimp only;rw [G6,G6];generalize msgR o ws w a=m;obtain ⟨r,c⟩:=m
 cases r <;> dsimp only
 rw [ZP,ZQ]
theorem Xp (hg:GOk g){o:Str}(ho:o=sL\/o=sR){w:List Nat}{h a:Nat}(hh:h < g.length)(ha:w.length<=a):s1 g o w h a = .stop:=by
 by_cases n:(Au g h).side=o
 ·cases e:Au g h with
  | fin=>unfold s1 EB;rw [e]
  | st side ws=>
    rw [e] at n;have n:side=o:=n;subst n;rw [Jl e];unfold msgR;rw [ud1 ha]
 ·exact Gv hg ho hh n
theorem At.take {w:List Nat}{a c:Nat}{xs:List D}(h:At w a xs)(l:a + xs.length<=c):At (w.take c) a xs:=by
 obtain ⟨p,q,e,rfl⟩:=h;refine ⟨p,q.take (c - (p.length + xs.length)),?_,rfl⟩;have:wD (w.take c)=(wD w).take c:=by unfold wD;rw [List.map_take]
 rw [this,e,<-uf6,List.take_append,uc3 (by rw [ue6];exact l),ue6,uf6]
abbrev mbQ (g:List GS)(q p:Nat)(v:D):List D:=.int (p:Int) :: Ax (wdAt g q p).2.1 v
def QF (g:List GS)(o:Str):Nat->List Mv->Prop
 | _,[]=>True
 | q,(p,_) :: r=>(Au g q).side=o/\QF g o (nextQ g q p) r
def Zr (g:List GS)(q a tk:Nat):List Mv->Prop
 | []=>True
 | (p,v) :: _=>tk < a + (mbQ g q p v).length
theorem Rv (hg:GOk g){q p:Nat}{v:D}{ws:List (Str×Sh×Int)}{o:Str}(hm:MvOk g q p v)(e:Au g q = .st o ws){w:List Nat}{c:Nat}(h:At w c (mbQ g q p v)):msgR o ws w c=(.told v (c + (mbQ g q p v).length),p)/\ws.getD p (Str.ofString "",.nothing,0)=wdAt g q p:=by
 have hw:=EY hg hm.lt hm.pl;obtain ⟨side,ws',e',hpl,ew⟩:=FF hm.pl;rw [e] at e'
 cases e'
 refine ⟨?_,by rw [ua8,ew];rfl⟩;obtain ⟨h1,h2⟩:=At.head h;unfold msgR;rw [h1];dsimp only;rw [ew];dsimp only;rw [back 3 _ hw.dep hw.ok w v (c + 1) hm.fit h2,ug4]
 congr 2
 lia
theorem Pv (hg:GOk g){q p:Nat}{v:D}{ws:List (Str×Sh×Int)}{o:Str}(hm:MvOk g q p v)(e:Au g q = .st o ws){w:List Nat}{c tk:Nat}(h:At w c (mbQ g q p v))(h1:c<=tk)(h2:tk < c + (mbQ g q p v).length):(msgR o ws (w.take tk) c).1 = .short:=by
 have hw:=EY hg hm.lt hm.pl;obtain ⟨side,ws',e',hpl,ew⟩:=FF hm.pl;rw [e] at e'
 cases e'
 obtain ⟨h3,h4⟩:=At.head h;unfold msgR
 by_cases z:c < tk
 ·rw [ue9,if_pos z,h3];dsimp only;rw [ew];dsimp only;have hb:=back 3 _ hw.dep hw.ok w v (c + 1) hm.fit h4;rw [ug4] at h2;exact SA _ _ hb z (by lia)
 ·rw [ue9,if_neg z]
theorem Kc {g:List GS}(hg:GOk g){o:Str}(ho:o=sL\/o=sR){w:List Nat}{tk:Nat}(htl:tk<=w.length):∀(mv:List Mv) (q a F:Nat) (t:List D),q < g.length->okQ g q mv->QF g o q mv->At w a (Bc g o q mv)->a + (Bc g o q mv).length=w.length->a<=tk->tk + 1<=F + a->
 ∃m1 m2,mv=m1++m2/\a + (Bc g o q m1).length<=tk/\Zr g (EV g q m1) (a + (Bc g o q m1).length) tk m2/\w1 g o (w.take tk) F q a t=(t++Hz g q m1,EV g q m1,onS o (a + (Bc g o q m1).length) 0,onS o 0 (a + (Bc g o q m1).length),none)
 | [],q,a,F,t,hq,_,_,_,hl,ha,_=>by
   have hl:a=w.length:=hl;refine ⟨[],[],rfl,ha,trivial,?_⟩;rw [Hz,ui1];exact FH (Xp hg ho hq (by rw [ug6];lia)) F
 | (p,v) :: r,q,a,F,t,hq,hk,hA,hat,hl,ha,hF=>by
   rw [okQ] at hk;rw [QF] at hA;rw [Bc,if_pos hA.1] at hat hl;have hat1:At w a (mbQ g q p v):=hat.left;obtain ⟨ws,e⟩:∃ws,Au g q = .st o ws:=by
    obtain ⟨side,ws,e,_,_⟩:=FF hk.1.pl;refine ⟨ws,?_⟩;have h:=hA.1;rw [e] at h ⊢;rw [<-show side=o from h]
   by_cases z:a + (mbQ g q p v).length<=tk
   ·have hpos:0 < (mbQ g q p v).length:=by rw [ug4];lia
    obtain ⟨F',rfl⟩:∃F',F=F' + 1:=⟨F - 1,by lia⟩;obtain ⟨m1,m2,em,hle,hcut,hw⟩:=Kc hg ho htl r (nextQ g q p) (a + (mbQ g q p v).length) F' (t++[Do g q p v]) (E1 hg hq hk.1.pl) hk.2 hA.2 hat.right (by have hl2:a + (mbQ g q p v++Bc g o (nextQ g q p) r).length=w.length:=hl;rw [ue6] at hl2;lia) z (by lia);obtain ⟨hb1,hb2⟩:=Rv hg hk.1 e (hat1.take z);have ewq:(Bc g o q ((p,v) :: m1)).length=(mbQ g q p v).length + (Bc g o (nextQ g q p) m1).length:=by rw [Bc,if_pos hA.1,ue6]
    refine ⟨(p,v) :: m1,m2,by rw [em];rfl,by lia,by rw [EV,ewq,<-uk5];exact hcut,?_⟩;rw [ewq,<-uk5,EV,Hz,List.append_cons,<-hw];show Eh g _ _ (F' + 1) q _ _ t=_;rw [Eh,show EB g (onS o (w.take tk) []) (onS o [] (w.take tk)) q (onS o a 0) (onS o 0 a)=_ from Jl e,hb1];dsimp only;rw [hb2];unfold Do;rw [e];rfl
   ·refine ⟨[],(p,v) :: r,rfl,ha,by show tk < a + 0 + (mbQ g q p v).length;lia,?_⟩;rw [Hz,ui1];refine FH (?_:s1 g o (w.take tk) q a = .stop) F;rw [Jl e];have hs:=Pv hg hk.1 e hat1 ha (by lia);generalize msgR o ws (w.take tk) a=m at hs ⊢;obtain ⟨r0,c0⟩:=m;have hs:r0 = .short:=hs;subst hs;rfl
abbrev d1 (o:Str)(d:D):List (Key×D):=[(.inr o,d)]
theorem FS {o:Str}{d:D}:A0 (d1 o d) (.inr o)=some d:=by simp [A0,ui4]
theorem VT {o s:Str}{d:D}(n:s≠o):A0 (d1 o d) (.inr s)=none:=by
 unfold A0;rw [ui4,show decide ((Sum.inr o:Key) = .inr s)=false from uj0 λh=>n (Sum.inr.inj h).symm];rfl
variable {e:D}
theorem VU {o:Str}{d:D}:Bw (d1 o d) (.inr o) e=d1 o e:=by
 unfold Bw;rw [if_pos (by simp)];simp only [uj9,ul3,if_true]
def ro1 (o:Str)(r:D)(S':List Ob):Rs->Prop
 | (t,h,a,b,none)=>∃K,r = .tup [.lst t,.int (h:Nat),.obj K]/\S'[K]?=some (.dct (d1 o (.int (onS o a b:Nat))))
 | (_,_,_,_,some (k,s))=>r = .exc "Broken" [.int (k:Nat),.str s]
def Ju (f:Fn):Prop:=∀(g:List GS) (o:Str) (w:List Nat) (dw:D) (h a W P:Nat) (S:List Ob),GOk g->(o=sL\/o=sR)->h < g.length->a<=w.length->w.length<=25000->Wir S dw w->S[W]?=some (.dct (d1 o dw))->S[P]?=some (.dct (d1 o (.int (a:Nat))))->
 Wf f [.lst (g.map GS.d),.int (h:Nat),.obj W,.obj P] S λr S'=>Gr S S'/\ro1 o r S' (w1 g o w (w.length + 1) h a [])
theorem MD (hc:Qz c):Ju (fnOf 4 9 (G3 c)):=by
 intro g o w dw h a W P S hg ho hh ha hl hv hW hP;have hL:LIM=100000:=rfl;refine Ao rfl ?_;unfold G3;symm;refine XJ hP ?_;symm;generalize hR:w1 g o w (w.length + 1) h a []=R;obtain ⟨K,hK⟩:∃K,K=S.length:=⟨_,rfl⟩;rw [<-hK];refine F5 (λn t=>∃(h' a':Nat) (tk:List D) (S':List Ob) (e7 e8:Option Sl),h' < g.length/\a'<=w.length/\w.length + 1<=n + a'/\tk.length + n<=w.length + 1/\w1 g o w n h' a' tk=R/\Gr S S'/\S'[K]?=some (.dct (d1 o (.int (a':Nat))))/\t=⟨[some (.val (.lst (g.map GS.d))),some (.val (.int h)),some (.val (.obj W)),some (.val (.obj P)),some (.own tk),some (.val (.int h')),some (.val (.obj K)),e7,e8],S'⟩) ?_ Hl (w.length + 1) _ ?_ ?_
 ·rintro n t ⟨h',a',tk,S',e7,e8,hh',ha',hn,ht,hR',hG,hK',rfl⟩;obtain ⟨m,rfl⟩:∃m,n=m + 1:=Nat.exists_eq_add_of_le' (by lia);have hgs:=Dw hg hh';have hix:=BP hh';have hW':=hG.get hW
  by_cases z:(Au g h').side=o
  ·cases eg:Au g h' with
   | fin=>
     rw [eg] at z;rcases ho with rfl | rfl <;> exact absurd z (by decide +kernel)
   | st side ws=>
     rw [eg] at z;have z:side=o:=z;subst z;rw [eg] at hix hgs;have hix2:=hix;rw [GS.d] at hix2;symm;refine Bg hix2 ?_;symm;refine XS hW' ?_;rw [FS];symm;refine ⟨m,rfl,?_⟩;symm;refine Bg hix2 ?_;symm;refine Bg hix ?_;symm;refine HI hW' FS ?_;symm;refine HI hK' FS ?_;symm;have hst:s1 g side w h' a'=_:=Jl eg;have hms:=hc S' dw g.length side ws w a' (hv.gr hG) hgs ha' (by lia);have hR2:Eh g (onS side w []) (onS side [] w) (m + 1) h' (onS side a' 0) (onS side 0 a') tk=R:=hR';rw [Eh,show EB g (onS side w []) (onS side [] w) h' (onS side a' 0) (onS side 0 a')=_ from hst] at hR2;unfold ES at hms;generalize hmr:msgR side ws w a'=mr at hms hR2 hst;obtain ⟨r0,c0⟩:=mr
     cases r0 with
     | short=>
       dsimp only at hms hR2;refine hms.use ?_;symm;refine W_ret.mpr ?_;show Ex _ _ Out.next _;symm;subst hR2;exact ⟨rfl,hG,K,rfl,by rw [G6];exact hK'⟩
     | broken k=>
       dsimp only at hms hR2;refine hms.use ?_;symm;subst hR2;exact ⟨hG,rfl⟩
     | told v e=>
       dsimp only at hms hR2 hst;have pl:Pl g (onS side w []) (onS side [] w) h' (onS side a' 0) (onS side 0 a'):=⟨hh',by unfold onS;split <;> first | exact ha' | exact um0 _,by unfold onS;split <;> first | exact ha' | exact um0 _⟩
       obtain ⟨p2,hlt⟩:=Qd hg pl hst;have hae:a' < e:=by unfold onS at hlt;split at hlt <;> lia
       have hel:e<=w.length:=by
        have h1:=p2.a;have h2:=p2.b;unfold onS at h1 h2
        split at h1
        ·exact h1
        ·next q=>simp only [if_neg q] at h2;exact h2
       refine hms.use ?_;symm;refine Bx (by rw [hL];lia) ?_;symm;refine DW hK' (by show 1 < 100000;decide) ?_;rw [VU];have hwl:(0:Int)<=(ws.getD c0 (Str.ofString "",.nothing,0)).2.2:=by
        cases hgs with
        | st _ h2 _ _ h5=>
          cases hq:ws[c0]? with
          | none=>rw [ua8,hq];exact Int.le_refl _
          | some wd=>rw [ua8,hq];exact (h5 wd (ud4 hq)).lo
       refine ⟨_,e,tk++[_],_,_,_,p2.h,hel,by lia,by rw [ue6,List.length_singleton];lia,hR2,hG.set (by lia),AL hK',t9 rfl (congrArg D.int (Int.toNat_of_nonneg hwl).symm)⟩
  ·have hR2:R=(tk,h',onS o a' 0,onS o 0 a',none):=by rw [<-hR'];exact FH (Gv hg ho hh' z) _
   have hsd:atI [(D.str (Au g h').side)] 0=some (.str (Au g h').side):=rfl;have fin:∀(t:T) (Q:D->T->Prop),Q (.str (Au g h').side) t->F2.W (ixD (Au g h').d (.int 0)) t Q:=λt Q h=>by
    cases e:Au g h' with
    | fin=>rw [e] at h;rw [GS.d];exact ET F7 h
    | st s w=>rw [e] at h;rw [GS.d];exact ET F7 h
   symm;refine Bg hix ?_;symm;refine fin _ _ ?_;symm;refine XS hW' ?_;rw [VT z];symm;show Ex _ _ Out.next _;symm;subst hR2;exact ⟨rfl,hG,K,rfl,by rw [G6];exact hK'⟩
 ·show _ < 1000000;lia
 ·exact ⟨h,a,[],_,none,none,hh,ha,by lia,by simp,hR,Gr.app,by rw [hK];exact Dv,rfl⟩
def Kx (F:List Nat)(S S':List Ob):Prop:=S.length<=S'.length/\∀i,i < S.length->i∉F->S'[i]?=S[i]?
section
variable {F:List Nat}{S S1 S2:List Ob}{k:Nat}{o:Ob}
theorem Kx.refl:Kx F S S:=⟨ul9 _,λ_ _ _=>rfl⟩
theorem Kx.set (a:Kx F S S1)(h:k∈F):Kx F S (S1.set k o):=⟨by rw [ui8];exact a.1,λi hi n=>by rw [ud3 (λe=>n (by rw [<-e];exact h))];exact a.2 i hi n⟩
theorem Kx.gr (a:Kx F S S1)(b:Gr S1 S2):Kx F S S2:=⟨ul1 a.1 b.1,λi h n=>(b.2 i (ue1 h a.1)).trans (a.2 i h n)⟩
theorem Kx.get (a:Kx F S S1)(n:k∉F)(h:S[k]?=some o):S1[k]?=some o:=by rw [a.2 k (BW h) n];exact h
end
abbrev lsF (g:List GS)(x:Str)(h tk hd W P q:Nat):List (Str×D):=[("grammar",.lst (g.map GS.d)),("standing",.int (h:Nat)),("wires",.obj W),("places",.obj P),("side",.str x),("said",.obj q),("taken",.int (tk:Nat)),("handed",.int (hd:Nat))]
structure Lst (S:List Ob)(g:List GS)(x o:Str)(h a tk hd:Nat)(w sd:List Nat)(k l q W P:Nat):Prop where
 ik:S[k]?=some (.ins "Lasting" (lsF g x h tk hd W P q))
 iw:S[W]?=some (.dct (d1 o (.obj l)))
 ip:S[P]?=some (.dct (d1 o (.int (a:Nat))))
 il:S[l]?=some (.lst (wD w))
 iq:S[q]?=some (.lst (wD sd))
 ne:l≠q
section
variable {S S':List Ob}{g:List GS}{x o:Str}{h a tk hd:Nat}{w sd:List Nat}{k l q W P:Nat}
end
def Two (x o:Str):Prop:=(x=sL/\o=sR)\/(x=sR/\o=sL)
theorem Two.swap {x o:Str}(h:Two x o):Two o x:=h.elim (λh=>.inr ⟨h.2,h.1⟩) λh=>.inl ⟨h.2,h.1⟩
theorem Two.x {x o:Str}(h:Two x o):x=sL\/x=sR:=h.imp (·.1) (·.1)
theorem Two.o {x o:Str}(h:Two x o):o=sL\/o=sR:=h.swap.x
theorem Two.ne {x o:Str}(h:Two x o):x≠o:=by
 rcases h with ⟨rfl,rfl⟩ | ⟨rfl,rfl⟩
 ·exact sLR
 ·exact Ne.symm sLR
def Hj (f:Fn):Prop:=∀x o:Str,Two x o->Pure1 f [.str x] (.str o)
theorem WS:Hj (fnOf 1 1 Fo):=by
 intro x o h S;refine Ao rfl ?_;unfold Fo;rcases h with ⟨rfl,rfl⟩ | ⟨rfl,rfl⟩
 ·symm;exact ⟨rfl,rfl⟩
 ·symm;exact ⟨rfl,rfl⟩
abbrev heF (g:List GS)(W P:Nat):List (Str×D):=[("grammar",.lst (g.map GS.d)),("standing",.int (0:Nat)),("wires",.obj W),("places",.obj P)]
structure Hea (S S':List Ob)(k W P l:Nat)(o:Str)(fs:List (Str×D)):Prop where
 kp:Kp k S S'
 ik:S'[k]?=some (.ins "Lasting" fs)
 iw:S'[W]?=some (.dct (d1 o (.obj l)))
 ip:S'[P]?=some (.dct (d1 o (.int (0:Nat))))
 il:S'[l]?=some (.lst [])
 gw:S.length<=W
 gp:S.length<=P
 gl:S.length<=l
def Gw (S S':List Ob):Prop:=S.length<=S'.length/\∀i,i < S.length->S'[i]?=S[i]?
mutual
inductive Ow (S:List Ob):D->D->List Nat->Prop
 | non:Ow S .non .non []
 | int (i:Int):Ow S (.int i) (.int i) []
 | str (x:Str):Ow S (.str x) (.str x) []
 | tup {ds vs:List D} {fp:List Nat}:Ows S ds vs fp->Ow S (.tup ds) (.tup vs) fp
 | obj {k:Nat} {ds vs:List D} {fp:List Nat}:S[k]?=some (.lst ds)->Ows S ds vs fp->k∉fp->Ow S (.obj k) (.lst vs) (k :: fp)
inductive Ows (S:List Ob):List D->List D->List Nat->Prop
 | nil:Ows S [] [] []
 | cons {d v:D} {fp fp':List Nat} {ds vs:List D}:Ow S d v fp->Ows S ds vs fp'->(∀k∈fp,k∉fp')->Ows S (d :: ds) (v :: vs) (fp++fp')
end
theorem HL {g:Gd}{st:D->M Unit}{P:List D->T->Prop}(h:Gon g t.S)(q:P [] t):W (compG g st tst elt []) t P:=by
 unfold compG;exact W_bnd.mpr ⟨_,_,IM h,W_ret.mpr q⟩
theorem E8 {g:Gd}{st:D->M Unit}{d:D}{r:List D}{P:List D->T->Prop}(h:Gon g t.S)(q:W (st d) t λ_ t1=>W tst t1 λk t2=>
 if k=true then W elt t2 λx t3=>W (compG g st tst elt r) t3 λxs t4=>P (x :: xs) t4 else W (compG g st tst elt r) t2 P):W (compG g st tst elt (d :: r)) t P:=by
 rw [compG];refine W_bnd.mpr ⟨_,_,IM h,W_bnd.mpr (q.mono λ_ t1 q=>W_bnd.mpr (q.mono λk t2 q=>?_))⟩
 split
 ·next hk=>
  rw [if_pos hk] at q;exact W_bnd.mpr (q.mono λx t3 q=>W_bnd.mpr (q.mono λxs t4 q=>W_ret.mpr q))
 ·next hk=>
  rw [if_neg hk] at q;exact q
theorem Qp {fr:List Nat}{f:M (Gd×List D)}{st:D->M Unit}{P:List D->T->Prop}(h:W f t λp t1=>W (compG p.1 st tst elt p.2) ⟨cenv n fr t1.env,t1.S⟩ λxs t2=>Gk xs.length (P xs { t1 with S:=t2.S })):W (Ff n fr f st tst elt) t P:=by
 refine W_bnd.mpr (h.mono λp t1 h=>?_);obtain ⟨xs,t2,e,l,q⟩:=h;refine ⟨xs,_,?_,q⟩;simp only [e,if_pos l]
theorem Ik {k:Nat}(h:S[k]?=some (.lst xs)):Gon (some (k,xs)) S:=λ_ _ z=>by cases z;exact h
theorem Y7 {k:Nat}{Q:List D->T->Prop}(e:t.S[k]?=some (.lst ds))(h:Q ds t):W (Dh [.obj k]) t Q:=⟨_,_,by simp only [Dh,e],h⟩
def prt (g:List GS)(mv:List Mv)(i:Nat):List D:=match mv[i]? with
 | some (p,v)=>.int (p:Int) :: Ax (wdAt g (EV g 0 (mv.take i)) p).2.1 v
 | none=>[]
structure Due (g:List GS)(mv:List Mv)(rl rr k:Nat):Prop where
 le:k<=mv.length
 a:(Bc g sL 0 (mv.take k)).length<=rl
 b:(Bc g sR 0 (mv.take k)).length<=rr
 z:k=mv.length\/(k < mv.length/\onS (Au g (EV g 0 (mv.take k))).side rl rr < onS (Au g (EV g 0 (mv.take k))).side (Bc g sL 0 (mv.take k)).length (Bc g sR 0 (mv.take k)).length + (prt g mv k).length)
local macro_rules | `(tactic| walk_at "y1")=>`(tactic| first
 | walk_at "x1")
theorem SI {P:Gd×List D->T->Prop}(h:W f t λd t1=>W (GX d) t1 P):W (JI f) t P:=W_bnd.mpr h
theorem Ol {k:Nat}{P:Gd×List D->T->Prop}(e:t.S[k]?=some (.lst ds))(h:P (some (k,ds),ds) t):W (GX (.obj k)) t P:=⟨_,_,by simp only [GX,e],h⟩
theorem HM (h:Ah .nothing v=true):v = .non:=by cases v <;> simp [Ah,Gj] at h <;> rfl
theorem IW {lo hi:Int}(h:Ah (.number lo hi) v=true):∃i,v = .int i/\lo<=i/\i<=hi:=by
 cases v <;> simp [Ah] at h
 exact ⟨_,rfl,h⟩
theorem Q1 {q:Int}(h:Ah (.text q) v=true):∃x,v = .str x/\(x.length:Int)<=q:=by
 cases v <;> simp only [Ah,ue7] at h
 simp only [uh0,ug1] at h;exact ⟨_,rfl,h.1⟩
theorem Q0 {q:Int}(h:Ah (.list s q) v=true):∃ds,v = .lst ds/\(ds.length:Int)<=q/\∀d∈ds,Ah s d=true:=by
 cases v <;> simp only [Ah,ue7] at h
 simp only [uh0,ug1,uh2] at h;exact ⟨_,rfl,h.1,h.2⟩
theorem LF {a b:Sh}(h:Ah (.pair a b) v=true):∃x y,v = .tup [x,y]/\Ah a x=true/\Ah b y=true:=by
 unfold Ah at h
 split at h
 ·rw [uh0] at h;exact ⟨_,_,rfl,h.1,h.2⟩
 ·cases h
theorem IV (h:Ah (.choice ss) v=true):∃(k:Nat) (x:D) (hk:k < ss.length),v = .tup [.str ("of" : Str),.int (k:Nat),x]/\Ah ss[k] x=true:=by
 unfold Ah at h
 split at h
 ·next o k x=>
  simp only [uh0,ug1] at h;have hk:k.toNat < ss.length:=by lia
  have h2:=h.2;rw [B9 ss _ _ _ (ub3 hk)] at h2;have ho:o=("of" : Str):=eq_of_beq h.1.1;subst ho;exact ⟨k.toNat,x,hk,by rw [Int.toNat_of_nonneg h.1.2.1],h2⟩
 ·cases h
theorem Nw {g:Gd}{st:D->M Unit}{b:M Out}{P:Out->T->Prop}(h:Gon g t.S)(q:P .next t):W (forG g st b []) t P:=by
 unfold forG;exact W_bnd.mpr ⟨_,_,IM h,W_ret.mpr q⟩
abbrev PureO (S:List Ob)(f:Fn)(ds:List D)(r:D):Prop:=Wf f ds S λx S'=>x=r/\S'=S
theorem PureO.use {f:Fn}(h:PureO S f ds r){P:D->List Ob->Prop}(p:P r S):Wf f ds S P:=Wf.mono h λ_ _ ⟨e1,e2⟩=>by subst e1 e2;exact p
theorem Jv {g:Gd}{st:D->M Unit}{b:M Out}{P:Out->T->Prop}(I:List D->T->Prop)(hg:∀r t,I r t->Gon g t.S):∀(ds:List D) (t:T),I ds t->
 (∀d r t,I (d :: r) t->W (st d) t λ_ t1=>W b t1 λo t2=>match o with
   | .next=>I r t2
   | .cont=>I r t2
   | .brk=>P .next t2
   | .ret x=>P (.ret x) t2)->(∀t,I [] t->P .next t)->W (forG g st b ds) t P
 | [],t,h,_,fin=>Nw (hg _ _ h) (fin t h)
 | d :: r,t,h,turn,fin=>by
   rw [forG];refine W_bnd.mpr ⟨_,_,IM (hg _ _ h),W_bnd.mpr ((turn d r t h).mono λ_ t1 q=>W_bnd.mpr (q.mono λo t2 q=>?_))⟩
   cases o with
   | next=>exact Jv I hg r t2 q turn fin
   | cont=>exact Jv I hg r t2 q turn fin
   | brk=>exact W_ret.mpr q
   | ret x=>exact W_ret.mpr q
theorem XR {f:M (Gd×List D)}{st:D->M Unit}{b:M Out}{P:Out->T->Prop}(h:W f t λp t1=>W (forG p.1 st b p.2) t1 P):W (IY f st b) t P:=W_bnd.mpr h
noncomputable def ae:List D->Bool
 | [_,_]=>true
 | [.str _,.int _,_]=>true
 | _=>false
mutual
def tm:D->Bool
 | .non=>true
 | .int _=>true
 | .str x=>decide (x.length<=90000)
 | .lst xs=>decide (xs.length<=1000) && tms xs
 | .tup xs=>tms xs && ae xs
 | _=>false
def tms:List D->Bool
 | []=>true
 | d :: r=>tm d && tms r
end
abbrev bsF (g:List GS)(x:Str)(h W P:Nat)(E:List (Str×D)):List (Str×D):=("grammar",.lst (g.map GS.d)) :: ("standing",.int (h:Nat)) :: ("wires",.obj W) :: ("places",.obj P) :: ("side",.str x) :: E
structure Ins (S:List Ob)(n:Str)(E:List (Str×D))(g:List GS)(x o:Str)(h a:Nat)(w:List Nat)(k l W P:Nat):Prop where
 ik:S[k]?=some (.ins n (bsF g x h W P E))
 iw:S[W]?=some (.dct (d1 o (.obj l)))
 ip:S[P]?=some (.dct (d1 o (.int (a:Nat))))
 il:S[l]?=some (.lst (wD w))
 el:E.length<=100
section
variable {S S':List Ob}{n:Str}{E:List (Str×D)}{g:List GS}{x o:Str}{h a:Nat}{w:List Nat}{k l W P:Nat}
theorem Ins.gr (R:Ins S n E g x o h a w k l W P)(G:Gr S S'):Ins S' n E g x o h a w k l W P:=⟨G.get R.ik,G.get R.iw,G.get R.ip,G.get R.il,R.el⟩
theorem Ins.ext (R:Ins S n E g x o h a w k l W P)(y:List Nat):Ins (S.set l (.lst (wD w++wD y))) n E g x o h a (w++y) k l W P:=
 ⟨An R.ik (Ar R.il R.ik (by simp)),An R.iw (Ar R.il R.iw (by simp)),An R.ip (Ar R.il R.ip (by simp)),by rw [<-Mt];exact AL R.il,R.el⟩
theorem Ins.put {h' a' Q:Nat}{E':List (Str×D)}(R:Ins S n E g x o h a w k l W P)(e:S[Q]?=some (.dct (d1 o (.int (a':Nat)))))(l':E'.length<=100):Ins (S.set k (.ins n (bsF g x h' W Q E'))) n E' g x o h' a' w k l W Q:=
 ⟨AL R.ik,An R.iw (Ar R.ik R.iw (by simp)),An e (Ar R.ik e (by simp)),An R.il (Ar R.ik R.il (by simp)),l'⟩
theorem Ins.fl (R:Ins S n E g x o h a w k l W P):(bsF g x h W P E).length < 1000:=by
 have:=R.el;show E.length + 1 + 1 + 1 + 1 + 1 < 1000;lia
end
structure HeaG (n:Str)(S S':List Ob)(k W P l:Nat)(o:Str)(fs:List (Str×D)):Prop where
 kp:Kp k S S'
 ik:S'[k]?=some (.ins n fs)
 iw:S'[W]?=some (.dct (d1 o (.obj l)))
 ip:S'[P]?=some (.dct (d1 o (.int (0:Nat))))
 il:S'[l]?=some (.lst [])
 gw:S.length<=W
 gp:S.length<=P
 gl:S.length<=l
variable {l:Nat}
theorem HeaG.put {n:Str}{k W P:Nat}{o:Str}{fs fs':List (Str×D)}(R:HeaG n S S' k W P l o fs):HeaG n S (S'.set k (.ins n fs')) k W P l o fs':=
 ⟨R.kp.setk,AL R.ik,An R.iw (Ar R.ik R.iw (by simp)),An R.ip (Ar R.ik R.ip (by simp)),An R.il (Ar R.ik R.il (by simp)),R.gw,R.gp,R.gl⟩
theorem Wu {b:Bool}{m1 m2:M Out}{K:Out->T->Prop}(Pm:Out->T->Prop)(h1:b=true->F2.W m1 t Pm)(h2:b=false->F2.W m2 t Pm)(h:∀o t',Pm o t'->K o t'):EK b (F2.W m1 t K) (F2.W m2 t K):=BQ (λz=>(h1 z).mono h) λz=>(h2 z).mono h
def Nop (g:List GS)(q:Nat)(x nm:Str)(v:D):Prop:=match Au g q with
 | .fin=>True
 | .st side ws=>x≠side\/match ws.findIdx? (λw=>w.1 == nm) with
   | none=>True
   | some p=>∀w,ws[p]?=some w->Ah w.2.1 v=false
theorem Ins.setL {n:Str}{E:List (Str×D)}{x o:Str}{k W P:Nat}{b:Ob}{d:List D}(R:Ins S n E g x o h a w k l W P)(e:S[j]?=some (.lst d))(n1:j≠l):Ins (S.set j b) n E g x o h a w k l W P:=
 ⟨An R.ik (Ar e R.ik (by simp)),An R.iw (Ar e R.iw (by simp)),An R.ip (Ar e R.ip (by simp)),An R.il n1,R.el⟩
theorem Wz (ht:∀x∈g,Tin x){q p:Nat}{v:D}(hm:MvOk g q p v):(mbQ g q p v).length<=41:=by
 have h1:=ht _ (Il hm.lt);obtain ⟨side,ws,e,hpl,ew⟩:=FF hm.pl;have h2:wdAt g q p∈(Au g q).ws:=by rw [e];exact ud4 ew
 have h3:=(h1 _ h2).few v hm.fit;rw [ug4];exact Nat.succ_le_succ h3
theorem IZ {x:GS}(h:P (.str x.side) t):W (ixD x.d (.int 0)) t P:=by
 cases x with
 | fin=>rw [GS.d];exact ET F7 h
 | st s w=>rw [GS.d];exact ET F7 h
theorem Qn (hg:GOk g){x:Str}(hx:x=sL\/x=sR){q p:Nat}{v:D}{w y:List Nat}(hm:MvOk g q p v)(hs:(Au g q).side=x)(hy:mbQ g q p v=wD y):∃a1 b1,w1 g x (w++y) ((w++y).length + 1) q w.length []=([Do g q p v],nextQ g q p,a1,b1,none)/\onS x a1 b1=(w++y).length:=by
 have ew:Bc g x q [(p,v)]=wD y:=by rw [Bc,Bc,ui1,if_pos hs];exact hy
 have hl:w.length + (Bc g x q [(p,v)]).length=(w++y).length:=by rw [ew,Br,ue6]
 obtain ⟨m1,m2,e,h1,h2,h3⟩:=Kc hg hx (w:=w++y) (tk:=(w++y).length) (ul9 _) [(p,v)] q w.length ((w++y).length + 1) [] hm.lt ⟨hm,trivial⟩ ⟨hs,trivial⟩ ⟨wD w,[],by rw [ew,Mt,ui1],Br w⟩ hl (by rw [ue6];lia) (by lia);rw [List.take_length] at h3
 cases m1 with
 | nil=>
   have e:m2=[(p,v)]:=e.symm;subst e;have h2:(w++y).length < w.length + 0 + (mbQ g q p v).length:=h2;rw [hy,Br,ue6] at h2;lia
 | cons a m1=>
   have e1:a=(p,v)/\m1++m2=[]:=by injection e with e1 e2;exact ⟨e1.symm,e2.symm⟩
   obtain ⟨rfl,e2⟩:=e1;have e3:m1=[]:=(List.append_eq_nil_iff.mp e2).1;subst e3;refine ⟨_,_,h3,?_⟩;rw [hl];exact G6
def GI (f:Fn)(d:Nat):Prop:=∀(cell:Int) (S:List Ob),Wf f [.int cell,.int d] S λr S'=>S'=S/\∃(s:Sh) (l:Int),r = .lst [s.d,.int l]/\Dr d s
theorem w6 (i:Int):∃w:Int,atI [D.int 0,.int 1,.int 255,.int 256,.int 300,.int 70000] (i % 6)=some (.int w)/\0<=w/\w<=70000:=by
 have:i % 6=0\/i % 6=1\/i % 6=2\/i % 6=3\/i % 6=4\/i % 6=5:=by lia
 rcases this with h | h | h | h | h | h <;> rw [h] <;> exact ⟨_,rfl,by decide,by decide⟩
theorem Ss:GI (fnOf 2 6 (BX c)) 0:=by
 intro cell S;refine Ao rfl ?_;unfold BX;obtain ⟨w,hw,w0,w1⟩:=w6 (cell / 7 / 9);have num:Dr 0 (.number (cell / 7 % 9 - 4) (cell / 7 % 9 - 4 + w)):=.number (by lia) (by lia) w0 w1;rcases WA cell with h | h | h | h | h | h | h <;>
  (right
   rw [h];right;refine Bg hw ?_;right;exact ⟨rfl,_,_,rfl,num⟩)
theorem Su {d:Nat}(hc:GI c d):GI (fnOf 2 6 (BX c)) (d + 1):=by
 intro cell S;refine Ao rfl ?_;unfold BX;obtain ⟨w,hw,w0,w1⟩:=w6 (cell / 7 / 9);have num:Dr (d + 1) (.number (cell / 7 % 9 - 4) (cell / 7 % 9 - 4 + w)):=.number (by lia) (by lia) w0 w1;have hd0:(((d + 1:Nat):Int) == 0)=false:=by rw [beq_eq_false_iff_ne];lia
 have hd1:((d + 1:Nat):Int) - 1=(d:Nat):=by lia
 rcases WA cell with h | h | h | h | h | h | h
 ·right;rw [h];right;refine Bg hw ?_;right;exact ⟨rfl,_,_,rfl,num⟩
 ·right;rw [h];right;refine Bg hw ?_;right;exact ⟨rfl,_,_,rfl,num⟩
 ·right;rw [h];right;exact ⟨rfl,.nothing,_,rfl,.nothing⟩
 ·right;rw [h];right;exact ⟨rfl,.text (cell / 7 % 4),_,rfl,.text (by lia) (by lia)⟩
 ·right;rw [h];right;rw [hd1];refine (hc _ S).mono λr S' z9=>?_;obtain ⟨e,s,l,er,hs⟩:=z9;subst e er;right;exact ⟨rfl,.list s (l % 4),_,rfl,hs.list (by lia) (by lia)⟩
 ·right;rw [h];right;rw [hd1];refine (hc _ S).mono λr S' z9=>?_;obtain ⟨e,s,l,er,hs⟩:=z9;subst e er;right;rw [hd1];refine (hc _ _).mono λr S' z9=>?_;obtain ⟨e,s2,l2,er,hs2⟩:=z9;subst e er;right;exact ⟨rfl,.pair s s2,_,rfl,hs.pair hs2⟩
 ·right;rw [h];right;rw [hd1];refine (hc _ S).mono λr S' z9=>?_;obtain ⟨e,s,l,er,hs⟩:=z9;subst e er;right;rw [hd1];refine (hc _ _).mono λr S' z9=>?_;obtain ⟨e,s2,l2,er,hs2⟩:=z9;subst e er;right;exact ⟨rfl,.choice [s,s2],_,rfl,hs.choice hs2⟩
def GJ (f:Fn)(n:Nat):Prop:=∀(s:Sh),s.depth<=n->wf s=true->Bq s=true->CU s=true->∀(cell:Int) (S:List Ob),Wf f [s.d,.int cell] S λr S'=>S'=S/\∃(v:D) (l:Int),r = .lst [v,.int l]/\Ah s v=true
theorem Xt (i:Int):∃n,atI (Str.ofString " az~Q0").cps.toList (i % 6)=some n/\Bm n=true:=by
 have e:(Str.ofString " az~Q0").cps.toList=[32,97,122,126,81,48]:=by decide +kernel
 rw [e];have:i % 6=0\/i % 6=1\/i % 6=2\/i % 6=3\/i % 6=4\/i % 6=5:=by lia
 rcases this with h | h | h | h | h | h <;> rw [h] <;> exact ⟨_,rfl,by decide⟩
theorem Qm {f:Fn}:GJ f 0:=λs h=>absurd s.depth_pos (by lia)
theorem Vg (hc:GJ c n):GJ (fnOf 2 10 (DU c)) (n + 1):=by
 intro s hs hw hn ht cell S;have hL:LIM=100000:=rfl;refine Ao rfl ?_;unfold DU
 cases s with
 | nothing=>
   rw [Sh.d];right;exact ⟨rfl,_,_,rfl,rfl⟩
 | number lo hi=>
   simp only [wf,uh0,ug1] at hw;simp only [Bq,ug1] at hn;rw [Sh.d];right;refine Fz (by lia) ?_;right;refine Kf (by lia) (by lia) ?_;right;refine ⟨rfl,_,_,rfl,?_⟩;have h1:=ui9 cell (b:=hi - lo + 1) (by lia);have h2:=uf0 cell (b:=hi - lo + 1) (by lia);simp only [Ah,uh0,ug1];lia
 | text m=>
   simp only [wf,uh0,ug1] at hw;simp only [CU,ug1] at ht;rw [Sh.d];right;refine Fz (by lia) ?_;have h1:=ui9 cell (b:=m + 1) (by lia);have h2:=uf0 cell (b:=m + 1) (by lia);obtain ⟨z,hz,hsg⟩:=Xt (cell / 7);right;refine XT (by decide +kernel) hz ?_;right;refine To ⟨BH (by lia) (by lia),by show 1 * _<=_;lia,by lia,by show 1<=_;lia⟩ ?_;right;refine Kf (by lia) (by lia) ?_;right;refine ⟨rfl,_,_,rfl,?_⟩;simp only [Ah,uh0,ug1];exact ⟨by rw [LP];lia,QG hsg⟩
 | list s m=>
   rw [Sh.depth] at hs;simp only [wf,uh0,ug1] at hw;rw [Bq] at hn;simp only [CU,uh0,ug1] at ht;rw [Sh.d];right;refine Fz (by lia) ?_;have h1:=ui9 cell (b:=m + 1) (by lia);have h2:=uf0 cell (b:=m + 1) (by lia);right;refine Kf (by lia) (by lia) ?_;right;refine Hg (BH (by lia) (by lia)) ?_;refine Cn (λr t=>∃(l:Int) (ds:List D) (e7 e8 e9:Option Sl),(∃j,r=(A7 0 (cell % (m + 1)).toNat).drop j)/\ds.length + r.length=(cell % (m + 1)).toNat/\(∀d∈ds,Ah s d=true)/\t=⟨[some (.val (.tup [.str "list",s.d,.int m])),some (.val (.int l)),some (.val (.str "list")),none,some (.val (.int (cell % (m + 1)))),none,some (.own ds),e7,e8,e9],S⟩) _ _ ⟨_,[],none,none,none,⟨0,rfl⟩,by rw [Ev];simp,by simp,rfl⟩ ?_ ?_
   ·rintro d r t ⟨l,ds,e7,e8,e9,⟨j,hj⟩,hl,hf,rfl⟩ _;obtain ⟨rfl,hj2,_⟩:=Ew hj;rw [ug4] at hl;right;refine (hc s (by lia) hw.2 hn ht.2 _ S).mono λr' S' z9=>?_;obtain ⟨e,v,l2,er,hv⟩:=z9;subst e er;right;refine Bx (by rw [hL];lia) ?_;refine ⟨l2,ds++[v],_,_,_,⟨j + 1,hj2⟩,by rw [ue6];simp only [ug4,ui5];lia,?_,rfl⟩;intro d hd;rcases uh7.mp hd with h | h
    ·exact hf d h
    ·rw [ue8] at h;subst h;exact hv
   ·rintro t ⟨l,ds,e7,e8,e9,_,hl,hf,rfl⟩;rw [ui5] at hl;right;refine ⟨rfl,_,_,rfl,?_⟩;simp only [Ah,uh0,ug1,uh2];exact ⟨by lia,hf⟩
 | pair s r=>
   rw [Sh.depth] at hs;simp only [wf,uh0] at hw;simp only [Bq,uh0] at hn;simp only [CU,uh0] at ht;rw [Sh.d];right;refine (hc s (by lia) hw.1 hn.1 ht.1 cell S).mono λr' S' z9=>?_;obtain ⟨e,v,l2,er,hv⟩:=z9;subst e er;right;refine (hc r (by lia) hw.2 hn.2 ht.2 l2 _).mono λr' S' z9=>?_;obtain ⟨e,v',l3,er,hv'⟩:=z9;subst e er;right;exact ⟨rfl,_,_,rfl,by rw [Ah,hv,hv'];rfl⟩
 | choice ss=>
   rw [Sh.depth] at hs;simp only [wf,uh0,ug1] at hw;rw [Bq] at hn;rw [CU] at ht;have h1:=ui9 cell (b:=(ss.length:Int)) (by lia);have h2:=uf0 cell (b:=(ss.length:Int)) (by lia);have hk:(cell % (ss.length:Int)).toNat < ss.length:=by lia
   have e1:ss[(cell % (ss.length:Int)).toNat]?=some ss[(cell % (ss.length:Int)).toNat]:=ub3 hk;have ea:atI (shD ss) (cell % (ss.length:Int))=some (ss[(cell % (ss.length:Int)).toNat]).d:=by
    unfold atI;rw [D0 h1 (by rw [C1];exact h2)];show (shD ss)[(cell % (ss.length:Int)).toNat]?=_;rw [E2,e1];rfl
   rw [Sh.d];right;rw [C1];refine Fz (by lia) ?_;right;refine ET ea ?_;right;rw [C1];refine Kf (by lia) (by lia) ?_;right;refine (hc _ (ul1 (Ce ss _ _ e1) (by lia)) (D4 hw.2 _ (uh4 hk)) (FQ hn _ (uh4 hk)) (KC ht _ (uh4 hk)) _ _).mono λr' S' z9=>?_;obtain ⟨e,v,l2,er,hv⟩:=z9;subst e er;right;have ho:GW (Str.ofString "of")=true:=by decide +kernel
   exact ⟨rfl,_,_,rfl,by simp only [Ah,ho,h1,h2,decide_true,uk6,uk4,B9 ss _ _ _ e1,hv]⟩
theorem Ze {Q:List D->T->Prop}(h:Q ds.reverse t):W (JV [.lst ds]) t Q:=⟨_,_,rfl,h⟩
theorem XO {g:M (List D)}{Q:D->T->Prop}(h:W f t λo t1=>W g t1 λas t2=>∃z y:Str,o = .str z/\as=[.str y]/\Q (.int (Txt.find z y)) t2):W (findM f g) t Q:=by
 refine B1 (h.mono λo t1 h=>B1 (h.mono λas t2 h=>?_));obtain ⟨z,y,rfl,rfl,h⟩:=h;exact ⟨_,_,rfl,h⟩
def NbN (f:Fn):Prop:=∀(n m:Nat),m < 256 ^ 9->Pure1 f [.int (n:Nat),.int (m:Nat)] (.lst (nb (wid m) n))
theorem WE:NbN (fnOf 2 3 CK):=by
 intro n m hb S;have hL:LIM=100000:=rfl;have hw:=Hh 9 m hb;have hn:wid m < Hl:=Nat.lt_of_le_of_lt hw (by decide);refine Ao rfl ?_;unfold CK;right;refine F5 (λk t=>∃(n1 m1:Nat) (acc:List D),k=wid m1/\t=⟨[some (.val (.int (n1:Nat))),some (.val (.int (m1:Nat))),some (.own acc)],S⟩/\acc.length + wid m1=wid m/\nb (wid m1) n1++acc.reverse=nb (wid m) n) ?_ Hl (wid m) _ hn ⟨n,m,[],rfl,rfl,Nat.zero_add _,ui1 _⟩;rintro k t ⟨n1,m1,acc,rfl,rfl,hl,hacc⟩;right
 by_cases z:0 < m1
 ·rw [uj6 (by lia:(0:Int) < m1)];have hst:=GA z;refine ⟨_,hst,?_⟩;rw [hst,nb,uf6] at hacc;right;refine Bx (by rw [hL];lia) ?_;right;exact ⟨n1 / 256,m1 / 256,acc++[.int ((n1 % 256:Nat):Int)],rfl,rfl,by rw [ue6];show _ + 1 + _=_;lia,by rw [List.reverse_append];exact hacc⟩
 ·have:m1=0:=by lia
  subst this;rw [uj0 (by lia)];right;refine Ze ?_;right;have hacc:acc.reverse=nb (wid m) n:=hacc;exact ⟨by rw [hacc],rfl⟩
def sgN:Str:=Str.ofString " !\"#$&'()*+,-./0123456789:;<=>?@ABCDEFGHIJKLMNOPQRSTUVWXYZ[\\]^_`abcdefghijklmnopqrstuvwxyz{|}~"
def cod (d:D):D:=match d with
 | .int k=>.int (32 + k + (if decide (4 < k)=true then 1 else 0))
 | _=>d
def SW (c:Nat):Bool:=!Bm c || match atI ((A7 0 94).map cod) (Txt.find sgN ⟨#[c]⟩) with
 | some (.int i)=>i == (c:Int)
 | _=>false
theorem Tv:∀c:Nat,c < 127->SW c=true:=by decide +kernel
theorem VP {c:Nat}(h:Bm c=true):atI ((A7 0 94).map cod) (Txt.find sgN ⟨#[c]⟩)=some (.int (c:Int)):=by
 have hc:c < 127:=by simp only [Bm,uh0,ug1] at h;lia
 have:=Tv c hc;rw [SW,h,Bool.not_true,uk3] at this
 split at this
 ·next e=>rw [e,eq_of_beq this]
 ·cases this
noncomputable def WR (d:D):D:=match d with
 | .str y=>.int (y.cps.getD 0 0:Nat)
 | _=>d
theorem OK (x:Str):(x.cps.toList.map λc=>D.str ⟨#[c]⟩).map WR=x.cps.toList.map λn=>D.int (n:Nat):=by
 rw [List.map_map];exact ue0 λn _=>rfl
def HW (f:Fn)(n:Nat):Prop:=∀(s:Sh),s.depth<=n->wf s=true->Bq s=true->∀d,Ah s d=true->(Ax s d).length<=LIM->Pure1 f [s.d,d] (.lst (Ax s d))
theorem Tt (hc:HW c n)(hn:NbN cn):HW (fnOf 2 7 (DT c cn)) (n + 1):=by
 intro s hs hwf hna d hf hlen S;have hL:LIM=100000:=rfl;refine Ao rfl ?_;unfold DT
 cases s with
 | nothing=>
   have:=HM hf;subst this;rw [Sh.d];right;exact ⟨rfl,rfl⟩
 | number lo hi=>
   simp only [Bq,ug1] at hna;obtain ⟨i,rfl,h1,h2⟩:=IW hf;rw [Sh.d];right;rw [show i - lo=((i - lo).toNat:Nat) by lia,show hi - lo=((hi - lo).toNat:Nat) by lia];refine (hn (i - lo).toNat (hi - lo).toNat (by show _ < 4722366482869645213696;lia)).use ?_;exact ⟨by rw [Ax],rfl⟩
 | text q=>
   simp only [wf,uh0,ug1] at hwf
   cases d <;> simp only [Ah,ue7] at hf
   rename_i x;simp only [uh0,ug1,uh2] at hf;have hl:x.cps.toList.length<=250:=by rw [<-EG];lia
   rw [Sh.d];right;show F2.W (AN [.str sgN]) _ _;refine K6 (by decide +kernel) ?_;have e94:((sgN.length:Nat):Int)=94:=by decide +kernel
   rw [e94];right;refine (FA (f:=cod) (fr:=[]) ?_).mono ?_
   ·intro d m;obtain ⟨k,rfl,_,_⟩:=UN m;right;exact ⟨rfl,rfl⟩
   rintro xs t' ⟨rfl,hS⟩;refine Bx (by rw [uh9,Ev,hL];decide) ?_;right;refine K6 (by rw [hL];lia) ?_;right;refine (FA (f:=WR) (fr:=[some (.val (.lst ((A7 0 94).map cod))),some (.val (.str sgN))]) ?_).mono ?_
   ·intro d m;obtain ⟨k,hk,rfl⟩:=ul5.mp m;right;refine XO ?_;right;refine ⟨_,_,rfl,rfl,?_⟩;refine Bg (VP (hf.2 k hk)) ?_;exact ⟨rfl,rfl⟩
   rintro xs t2 ⟨rfl,hS2⟩;rw [OK];refine Bx (by rw [uh9,hL];lia) ?_;right;refine Bx (by simp only [uh9,ug4,ui5,hL];lia) ?_;right;exact ⟨by rw [Ax];rfl,hS2.trans hS⟩
 | list s q=>
   simp only [wf,uh0,ug1] at hwf;rw [Sh.depth] at hs;rw [Bq] at hna
   cases d <;> simp only [Ah,ue7] at hf
   rename_i ds;rw [uh0,ug1,uh2] at hf;rw [Ax] at hlen ⊢;rw [Sh.d];right;refine Cn (λr t=>∃(z:Option Sl) (acc:List D),t=⟨[some (.val (.tup [.str "list",s.d,.int q])),some (.val (.lst ds)),some (.val (.str "list")),none,none,some (.own acc),z],S⟩/\acc++(r.map λd=>Ax s d).flatten = .int (ds.length:Nat) :: (ds.map λd=>Ax s d).flatten) _ _ ⟨_,_,rfl,rfl⟩ ?_ ?_
   ·rintro d r t ⟨z,acc,rfl,hacc⟩ m;rw [uj9,uf5,<-uf6] at hacc;have hl:acc.length + (Ax s d).length<=LIM:=by
     have:=congrArg List.length hacc;rw [ue6,ue6] at this;lia
    right;refine (hc s (by lia) hwf.2 hna d (hf.2 d m) (by lia)).use ?_;right;refine Bx hl ?_;exact ⟨_,_,rfl,hacc⟩
   ·rintro t ⟨z,acc,rfl,hacc⟩;rw [ul3,List.flatten_nil,ui1] at hacc;right;exact ⟨by rw [hacc],rfl⟩
 | pair s r=>
   simp only [wf,uh0] at hwf;simp only [Bq,uh0] at hna;rw [Sh.depth] at hs;obtain ⟨a,b,rfl,ha,hb⟩:=LF hf;rw [Ax] at hlen ⊢;rw [ue6] at hlen;rw [Sh.d];right;refine (hc s (by lia) hwf.1 hna.1 a ha (by lia)).use ?_;right;refine (hc r (by lia) hwf.2 hna.2 b hb (by lia)).use ?_;right;refine Bx (by lia) ?_;right;exact ⟨rfl,rfl⟩
 | choice ss=>
   simp only [wf,uh0,ug1] at hwf;rw [Bq] at hna;rw [Sh.depth] at hs;obtain ⟨k,x,hk,rfl,hx⟩:=IV hf;have e1:ss[k]?=some ss[k]:=ub3 hk;rw [Ax,uf4] at hlen ⊢;rw [DX ss _ _ _ e1] at hlen ⊢;rw [ug4] at hlen;rw [Sh.d];right;refine ET (YD hk) ?_;right;refine (hc _ (ul1 (Ce ss _ _ e1) (by lia)) (D4 hwf.2 _ (uh4 hk)) (FQ hna _ (uh4 hk)) x hx (by lia)).use ?_;right;refine Bx (by simp only [ug4,ui5];lia) ?_;right;exact ⟨rfl,rfl⟩
def KO (f:Fn):Prop:=∀(ns:List Int) (k:Int),0<=k->k<=1000->∃c:Int,Pure1 f [.scr ns,.int k] (.int c)
theorem OI:KO (fnOf 2 2 C5):=by
 intro ns k h0 h1
 by_cases z:k < ns.length
 ·have hk:k.toNat < ns.length:=by lia
  refine ⟨ns[k.toNat],λS=>Ao rfl ?_⟩;unfold C5;right;refine Em (uj6 (by lia)) ?_;right;refine W_ix_scr.mpr ⟨ns[k.toNat],?_,?_⟩
  ·unfold atI;rw [D0 h0 (by lia)];show ns[k.toNat]?=_;rw [ub3 hk]
  ·exact ⟨rfl,rfl⟩
 ·refine ⟨23 * k * k + 13 * k + 5,λS=>Ao rfl ?_⟩;unfold C5;right;refine DF (uj0 (by lia)) ?_;right;refine EC (by lia) (by lia) ?_;right;refine EC (by lia) (by lia) ?_;right;refine EC (by lia) (by lia) ?_;right;exact ⟨rfl,rfl⟩
def Vz (f:Fn):Prop:=∀(cell k:Int),0<=k->k<=10->∃c:Int,Pure1 f [.int cell,.int k] (.int c)
theorem Yq:Vz (fnOf 2 3 EN):=by
 intro cell k k0 k1;have b0:=ui9 (cell * 48271 + 7919 * k * k + 104729 * k + 11) (b:=2147483647) (by decide);have b1:=uf0 (cell * 48271 + 7919 * k * k + 104729 * k + 11) (b:=2147483647) (by decide);obtain ⟨x,hx⟩:∃x,x=(cell * 48271 + 7919 * k * k + 104729 * k + 11) % 2147483647:=⟨_,rfl⟩;rw [<-hx] at b0 b1;have d0:=ui9 (x * x) (b:=2147483629) (by decide);have d1:=uf0 (x * x) (b:=2147483629) (by decide);obtain ⟨y,hy⟩:∃y,y=x * x % 2147483629:=⟨_,rfl⟩;rw [<-hy] at d0 d1;refine ⟨y * y + y * 1000003 + cell,λS=>Ao rfl ?_⟩;unfold EN;right;refine EC (by decide) (by decide) ?_;right;refine EC (by lia) (by lia) ?_;right;refine EC (by lia) (by lia) ?_;right;refine EC (by lia) (by lia) ?_;right;rw [<-hx];refine EC (by lia) (by lia) ?_;right;rw [<-hy];refine EC (by lia) (by lia) ?_;right;refine EC (by lia) (by lia) ?_;right;exact ⟨rfl,rfl⟩
def nmN (r:Int)(j:Nat):Str:=Txt.mul ⟨#[97 + j]⟩ r
theorem Ug {r:Int}(h:1<=r){i j:Nat}(e:nmN r i=nmN r j):i=j:=by
 have e:(nmN r i).cps.toList=(nmN r j).cps.toList:=by rw [e]
 unfold nmN at e;rw [LU,LU] at e;obtain ⟨m,hm⟩:∃m,r.toNat=m + 1:=⟨r.toNat - 1,by lia⟩;rw [hm,ud9,ud9] at e;injection e with e _
 lia
theorem WF {r:Int}(h:1<=r)(n:Nat):((List.range n).map (nmN r)).Nodup:=List.pairwise_map.mpr (List.nodup_range.imp λh2 e=>h2 (Ug h e))
def N9 (x:GS):Prop:=∀w∈x.ws,w.1.length<=3/\∀c∈w.1.cps.toList,c < 122
theorem S9 {r:Int}(h:r<=3){j:Nat}(hj:j < 3):(nmN r j).length<=3/\∀c∈(nmN r j).cps.toList,c < 122:=by
 unfold nmN;rw [LP,LU];refine ⟨by lia,λc hc=>?_⟩;have:=List.eq_of_mem_replicate hc;lia
theorem X4 (h:j < 3):atI (Str.ofString "abc").cps.toList (0 + (j:Int))=some (97 + j):=by
 have e:(Str.ofString "abc").cps.toList=[97,98,99]:=by decide +kernel
 rw [e]
 match j,h with
 | 0,_=>rfl
 | 1,_=>rfl
 | 2,_=>rfl
def GrN (f:Fn):Prop:=∀(ns:List Int) (S:List Ob),Wf f [.scr ns,.int 2,.bl true] S λr S'=>S'=S/\∃g:List GS,r = .lst (g.map GS.d)/\GOk g/\g.length<=6/\∀x∈g,Tin x/\N9 x
def FK (ns:List Int)(many:Int)(gs:List GS)(e5 e6 e7 e8 e9 e10 e11:Option Sl):List (Option Sl):=[some (.val (.scr ns)),some (.val (.int 2)),some (.val (.bl true)),some (.val (.int many)),some (.own (gs.map GS.d)),e5,e6,e7,e8,e9,e10,e11]
variable {cm:Fn}
theorem ZI {cs:Fn}(hs:GI cs 2)(hc:KO cc)(hm:Vz cm):GrN (fnOf 3 12 (Dk cs cc cm)):=by
 intro ns S;have hL:LIM=100000:=rfl;obtain ⟨c0,hc0⟩:=hc ns 0 (by decide) (by decide);have m0:=ui9 c0 (b:=6) (by decide);have m1:=uf0 c0 (b:=6) (by decide);refine Ao rfl ?_;unfold Dk;right;refine (hc0).use ?_;right;obtain ⟨many,hmany⟩:∃many,many=1 + c0 % 6:=⟨_,rfl⟩;rw [<-hmany];refine Hg (BH (by lia) (by lia)) ?_;refine Cn (λr t=>∃(gs:List GS) (e5 e6 e7 e8 e9 e10 e11:Option Sl),r=(A7 0 many.toNat).drop gs.length/\gs.length<=many.toNat/\(∀x∈gs,GSOk many x/\Tin x/\N9 x)/\t=⟨FK ns many gs e5 e6 e7 e8 e9 e10 e11,S⟩) _ _ ⟨[],none,none,none,none,none,none,none,rfl,um0 _,(λ_ h=>nomatch h),rfl⟩ ?_ ?_
 ·rintro d r t ⟨gs,e5,e6,e7,e8,e9,e10,e11,hr,hle,hgs,rfl⟩ _;obtain ⟨rfl,hr2,hlt⟩:=Ew hr;unfold FK;obtain ⟨c1,hc1⟩:=hc ns (2 + (0 + (gs.length:Int))) (by lia) (by lia);right;refine hc1.use ?_;right;refine hc0.use ?_;right;refine Wu (λo t'=>o = .next/\∃c:Int,t'=⟨FK ns many gs (some (.val (.int (0 + (gs.length:Int))))) (some (.val (.int c))) e7 e8 e9 e10 e11,S⟩) (λ_=>?_) (λ_=>?_) ?_
  ·obtain ⟨c2,hc2⟩:=hm c1 (0 + (gs.length:Int)) (by lia) (by lia);right;refine hc2.use ?_;right;exact ⟨rfl,_,rfl⟩
  ·right;exact ⟨rfl,_,rfl⟩
  rintro o t' ⟨rfl,c,rfl⟩;unfold FK
  iterate 16 (walk_at "w1")
  refine wIf ?_;refine F2.W.mono (P:=λb t'=>t'=⟨FK ns many gs (some (.val (.int (0 + (gs.length:Int))))) (some (.val (.int (c / 5)))) (some (.val (.int (c % 5)))) e8 e9 e10 e11,S⟩) ?_ ?_
  ·right;refine BQ (λ_=>?_) λ_=>?_
   ·right;refine BQ (λ_=>?_) λ_=>?_
    ·right;rfl
    ·right;rfl
   ·right;rfl
  rintro b t' rfl;unfold FK;refine BQ (λ_=>?_) λ_=>?_
  ·right;refine Bx (by rw [uh9,hL];lia) ?_;right;refine W_ret.mpr ?_;exact ⟨gs++[.fin],_,_,_,_,_,_,_,by rw [ue6];exact hr2,by rw [ue6];show _ + 1<=_;lia,λx hx=>by
    rcases uh7.mp hx with h | h
    ·exact hgs x h
    ·rw [ue8] at h;subst h;exact ⟨.fin,(λ_ z=>nomatch z),λ_ z=>nomatch z⟩,by rw [ui7];rfl⟩
  ·right;have q0:=ui9 (c / 5) (b:=3) (by decide);have q1:=uf0 (c / 5) (b:=3) (by decide);obtain ⟨n3,hn3⟩:∃n3:Nat,1 + c / 5 % 3=n3:=⟨(1 + c / 5 % 3).toNat,by lia⟩;obtain ⟨rr,hrr⟩:∃rr:Int,rr=1 + (0 + (gs.length:Int)) % 3:=⟨_,rfl⟩;have r1:1<=rr/\rr<=3:=by lia
   rw [hn3];refine Hg (BH (by lia) (by lia)) ?_;rw [uf4];refine Cn (λr t=>∃(ws:List (Str×Sh×Int)) (l:Int) (e9 e10 e11:Option Sl),r=(A7 0 n3).drop ws.length/\ws.length<=n3/\ws.map (·.1)=(List.range ws.length).map (nmN rr)/\(∀w∈ws,WOk many w/\Dr 2 w.2.1)/\t=⟨FK ns many gs (some (.val (.int (0 + (gs.length:Int))))) (some (.val (.int l))) (some (.val (.int (c % 5)))) (some (.own (ws.map wdD))) e9 e10 e11,S⟩) _ _ ⟨[],_,_,_,_,rfl,um0 _,rfl,(λ_ h=>nomatch h),rfl⟩ ?_ ?_
   ·rintro d r t ⟨ws,l,e9,e10,e11,hw,hwl,hwn,hws,rfl⟩ _;obtain ⟨rfl,hw2,hwlt⟩:=Ew hw;unfold FK;right;refine Fz (by lia) ?_;right;refine Kf (by lia) (by lia) ?_;right;refine (hs _ S).mono λr' S' z9=>?_;obtain ⟨e,s,l2,er,hd⟩:=z9;subst e er;right;refine XT (by decide +kernel) (X4 (by lia)) ?_;right;rw [<-hrr];refine To ⟨BH (by lia) (by lia),by show 1 * _<=_;lia,by lia,by show 1<=_;lia⟩ ?_;right;refine Bx (by rw [uh9,hL];lia) ?_;refine ⟨ws++[(nmN rr ws.length,s,l / 3 % many)],_,_,_,_,by rw [ue6];exact hw2,by rw [ue6];show _ + 1<=_;lia,by rw [ue6,ui7,hwn];show _=(List.range (ws.length + 1)).map _;rw [List.range_succ,ui7];rfl,λw hw'=>?_,by rw [ui7];rfl⟩;rcases uh7.mp hw' with h | h
    ·exact hws w h
    ·rw [ue8] at h;subst h;exact ⟨⟨hd.ok,hd.dep,ui9 _ (by lia),uf0 _ (by lia),ul1 (S9 r1.2 (by lia)).1 (by decide)⟩,hd⟩
   ·rintro t ⟨ws,l,e9,e10,e11,hw,hwl,hwn,hws,rfl⟩;unfold FK;have hwe:ws.length=n3:=by
     have:=congrArg List.length hw;rw [ug7,Ev] at this;have:0=n3 - ws.length:=this;lia
    obtain ⟨side,hsd,hside⟩:=YE l;right;refine Bg hsd ?_;right;refine Bx (by rw [uh9,hL];lia) ?_;refine ⟨gs++[.st side ws],_,_,_,_,_,_,_,by rw [ue6];exact hr2,by rw [ue6];show _ + 1<=_;lia,λx hx=>?_,by rw [ui7];rfl⟩;rcases uh7.mp hx with h | h
    ·exact hgs x h
    ·rw [ue8] at h;subst h;refine ⟨.st hside (by lia) (by lia) (by rw [hwn];exact WF r1.1 _) λw h=>(hws w h).1,λw h=>(hws w h).2,λw h=>?_⟩;have:w.1∈ws.map (·.1):=List.mem_map_of_mem h;rw [hwn] at this;obtain ⟨j,hj,ej⟩:=ul5.mp this;rw [uj1] at hj;rw [<-ej];exact S9 r1.2 (by lia)
 ·rintro t ⟨gs,e5,e6,e7,e8,e9,e10,e11,hr,hle,hgs,rfl⟩;unfold FK;have he:gs.length=many.toNat:=by
   have:=congrArg List.length hr;rw [ug7,Ev] at this;have:0=many.toNat - gs.length:=this;lia
  right;exact ⟨rfl,gs,rfl,⟨by lia,by lia,λx hx=>by rw [show (gs.length:Int)=many by lia];exact (hgs x hx).1⟩,by lia,λx hx=>(hgs x hx).2⟩
inductive GRn (N:Nat)(S:List Ob):List D->List GS->Prop
 | nil:GRn N S [] []
 | fin {ds:List D} {g:List GS}:GRn N S ds g->GRn N S (.tup [.str (Str.ofString "end")] :: ds) (.fin :: g)
 | st {j:Nat} {side:Str} {ws:List (Str×Sh×Int)} {ds:List D} {g:List GS}:S[j]?=some (.lst (ws.map wdD))->N<=j->GRn N S ds g->GRn N S (.tup [.str side,.obj j] :: ds) (.st side ws :: g)
theorem GRn.gr {N:Nat}{S S':List Ob}(G:Gr S S'):∀{ds:List D} {g:List GS},GRn N S ds g->GRn N S' ds g
 | _,_,.nil=>.nil
 | _,_,.fin h=>.fin (GRn.gr G h)
 | _,_,.st e l h=>.st (G.get e) l (GRn.gr G h)
theorem GRn.length {N:Nat}{S:List Ob}:∀{ds:List D} {g:List GS},GRn N S ds g->ds.length=g.length
 | _,_,.nil=>rfl
 | _,_,.fin h=>by rw [ug4,ug4,GRn.length h]
 | _,_,.st e l h=>by rw [ug4,ug4,GRn.length h]
theorem Wo {side:Str}(hs:side=sL\/side=sR)(d:D)(S:List Ob):PureS S (fnOf 1 1 Dl) [.tup [.str side,d]] (.bl false):=by
 refine Ao rfl ?_;unfold Dl;symm;refine ⟨?_,rfl⟩;rcases hs with rfl | rfl <;> exact congrArg D.bl (by decide)
theorem Gf {gd:Gd}{S:List Ob}{n:Int}{N:Nat}(hg:Gon gd S):∀{ds:List D} {xs:List GS} (z:Option Sl),GRn N S ds xs->(∀x∈xs,GSOk n x)->F2.W (compG gd (Ay 0) FR (fIf (Aj (Ai (fnOf 1 1 Dl) (Ab (Aa 0) Ad))) (Aa 0) (AX (Ab (Ac (Aa 0) (fC (.int 0)) ixD) (Ab (Aq (fBF (Ab (Ac (Aa 0) (fC (.int 1)) ixD) Ad) Dh)) Ad)))) ds) ⟨[z],S⟩ λrs t'=>rs=xs.map GS.d/\t'.S=S
 | _,_,z,.nil,_=>HL hg ⟨rfl,rfl⟩
 | _,_,z,.fin q,h=>by
   refine E8 hg ?_;refine Kg ?_;symm;rw [if_pos rfl];symm;refine (Ku n .fin .fin S).mono ?_;rintro r S' ⟨rfl,rfl⟩;rw [GS.isFin];symm;exact (Gf hg _ q λy m=>h y (ud2 _ m)).mono λds t' ⟨e1,e2⟩=>⟨by rw [e1];rfl,e2⟩
 | _,_,z,@GRn.st _ _ j side ws ds g e l q,h=>by
   have hs:side=sL\/side=sR:=by cases h _ ue2 with | st h1 _ _ _ _=>exact h1
   refine E8 hg ?_;refine Kg ?_;symm;rw [if_pos rfl];symm;refine (Wo hs (.obj j) S).use ?_;symm;refine Y7 e ?_;symm;exact (Gf hg _ q λy m=>h y (ud2 _ m)).mono λds t' ⟨e1,e2⟩=>⟨by rw [e1];rfl,e2⟩
def Vw (f:Fn):Prop:=∀(g:List GS) (S:List Ob) (G N:Nat) (ds:List D),GOk g->S[G]?=some (.lst ds)->GRn N S ds g->PureS S f [.obj G] (.lst (g.map GS.d))
theorem Pa:Vw (fnOf 1 1 (Co (fnOf 1 1 Dl))):=by
 intro g S G N ds hg hG hgr;have hL:LIM=100000:=rfl;refine Ao rfl ?_;unfold Co;symm;refine Qp ?_;refine SI ?_;symm;refine Ol hG ?_;refine (Gf (Ik hG) none hgr hg.all).mono λxs t' z9=>?_;obtain ⟨e1,e2⟩:=z9;subst e1;have:=hg.le;refine Bx (by rw [uh9,hL];lia) ?_;symm;exact ⟨rfl,e2⟩
theorem Wm {n:Str}{k:Nat}{o:Str}{d:D}(hc:PureS S c [d] (.lst (g.map GS.d)))(hk:S[k]?=some (.ins n [])):Wf (fnOf 3 4 (Cc c)) [.obj k,d,.tup [.str o]] S λr S'=>r = .non/\∃W P l,HeaG n S S' k W P l o (heF g W P):=by
 have hkl:=BW hk;refine Ao rfl ?_;unfold Cc;symm;refine hc.use ?_;symm;refine Du hk (by show 0 < 1000;decide) ?_;have k1:Kp k S (S.set k (.ins n [("grammar",.lst (g.map GS.d))])):=Kp.refl.setk;have g1:(S.set k (.ins n [("grammar",.lst (g.map GS.d))]))[k]?=some (.ins n [("grammar",.lst (g.map GS.d))]):=AL hk;show Ex _ _ Out.next ⟨_,S.set k (.ins n [("grammar",.lst (g.map GS.d))])⟩;generalize S.set k (.ins n [("grammar",.lst (g.map GS.d))])=S1 at k1 g1 ⊢;symm;refine Du g1 (by show 1 < 1000;decide) ?_;have k2:Kp k S (S1.set k (.ins n [("grammar",.lst (g.map GS.d)),("standing",.int (0:Nat))])):=k1.setk;have g2:(S1.set k (.ins n [("grammar",.lst (g.map GS.d)),("standing",.int (0:Nat))]))[k]?=some (.ins n [("grammar",.lst (g.map GS.d)),("standing",.int (0:Nat))]):=AL g1;show Ex _ _ Out.next ⟨_,S1.set k (.ins n [("grammar",.lst (g.map GS.d)),("standing",.int (0:Nat))])⟩;generalize S1.set k (.ins n [("grammar",.lst (g.map GS.d)),("standing",.int (0:Nat))])=S2 at k2 g2 ⊢;symm;refine Du (BE g2) (by show 2 < 1000;decide) ?_;obtain ⟨W,hW⟩:∃W,W=S2.length:=⟨_,rfl⟩;have w3:((S2++[Ob.dct []]).set k (.ins n [("grammar",.lst (g.map GS.d)),("standing",.int (0:Nat)),("wires",.obj W)]))[W]?=some (.dct []):=by rw [hW];exact An Dv (ul0 (BW g2))
 have k3:Kp k S ((S2++[Ob.dct []]).set k (.ins n [("grammar",.lst (g.map GS.d)),("standing",.int (0:Nat)),("wires",.obj W)])):=k2.app.setk;have g3:((S2++[Ob.dct []]).set k (.ins n [("grammar",.lst (g.map GS.d)),("standing",.int (0:Nat)),("wires",.obj W)]))[k]?=some (.ins n [("grammar",.lst (g.map GS.d)),("standing",.int (0:Nat)),("wires",.obj W)]):=AL (BE g2);have hSW:S.length<=W:=by rw [hW];exact k2.1
 show Ex _ _ Out.next ⟨_,(S2++[Ob.dct []]).set k (.ins n [("grammar",.lst (g.map GS.d)),("standing",.int (0:Nat)),("wires",.obj S2.length)])⟩;rw [<-hW];generalize (S2++[Ob.dct []]).set k (.ins n [("grammar",.lst (g.map GS.d)),("standing",.int (0:Nat)),("wires",.obj W)])=S3 at w3 k3 g3 ⊢;symm;refine Du (BE g3) (by show 3 < 1000;decide) ?_;obtain ⟨P,hP⟩:∃P,P=S3.length:=⟨_,rfl⟩;have w4:((S3++[Ob.dct []]).set k (.ins n (heF g W P)))[W]?=some (.dct []):=An (BE w3) (Ar g3 w3 (by simp));have p4:((S3++[Ob.dct []]).set k (.ins n (heF g W P)))[P]?=some (.dct []):=by rw [hP];exact An Dv (ul0 (BW g3))
 have k4:Kp k S ((S3++[Ob.dct []]).set k (.ins n (heF g W P))):=k3.app.setk;have g4:((S3++[Ob.dct []]).set k (.ins n (heF g W P)))[k]?=some (.ins n (heF g W P)):=AL (BE g3);have hWP:W < P:=by rw [hP];exact BW w3
 show Ex _ _ Out.next ⟨_,(S3++[Ob.dct []]).set k (.ins n (heF g W S3.length))⟩;rw [<-hP];generalize (S3++[Ob.dct []]).set k (.ins n (heF g W P))=S4 at w4 p4 k4 g4 ⊢;symm;have hWk:W≠k:=λe=>by subst e;lia
 have hPk:P≠k:=λe=>by subst e;lia
 refine W_forL_cons.mpr ?_;symm;refine BN (BE g4) rfl ?_;symm;refine DW (BE w4) (by show 0 < 100000;decide) ?_;obtain ⟨l,hl⟩:∃l,l=S4.length:=⟨_,rfl⟩;have hlk:k < l:=by rw [hl];exact BW g4
 have hlW:W < l:=by rw [hl];exact BW w4
 have hlP:P < l:=by rw [hl];exact BW p4
 have k5:Kp k S ((S4++[Ob.lst []]).set W (.dct (d1 o (.obj l)))):=k4.app.set hSW;have g5:((S4++[Ob.lst []]).set W (.dct (d1 o (.obj l))))[k]?=some (.ins n (heF g W P)):=An (BE g4) hWk;have w5:((S4++[Ob.lst []]).set W (.dct (d1 o (.obj l))))[W]?=some (.dct (d1 o (.obj l))):=AL (BE w4);have p5:((S4++[Ob.lst []]).set W (.dct (d1 o (.obj l))))[P]?=some (.dct []):=An (BE p4) (by lia);have l5:((S4++[Ob.lst []]).set W (.dct (d1 o (.obj l))))[l]?=some (.lst []):=by rw [hl];exact An Dv (by lia)
 show Ex _ _ Out.next ⟨_,(S4++[Ob.lst []]).set W (.dct (d1 o (.obj S4.length)))⟩;rw [<-hl];generalize (S4++[Ob.lst []]).set W (.dct (d1 o (.obj l)))=S5 at k5 g5 w5 p5 l5 ⊢;symm;refine BN g5 rfl ?_;symm;refine DW p5 (by show 0 < 100000;decide) ?_;show F2.W (CG _ _ []) ⟨_,S5.set P (.dct (d1 o (.int (0:Nat))))⟩ _;refine W_forL_nil.mpr ?_;exact ⟨rfl,W,P,l,k5.set (by lia),An g5 hPk,An w5 (by lia),AL p5,An l5 (by lia),hSW,by lia,by lia⟩
variable {co:Fn}
theorem Xv {n:Str}{k:Nat}{x o:Str}{d:D}(h1:Hj co)(ho:Two x o)(hc:PureS S c [d] (.lst (g.map GS.d)))(hk:S[k]?=some (.ins n [])):Wf (fnOf 3 3 (DQ co (fnOf 3 4 (Cc c)))) [.obj k,d,.str x] S λr S'=>r = .non/\∃W P l,HeaG n S S' k W P l o (bsF g x 0 W P []):=by
 refine Ao rfl ?_;unfold DQ;symm;refine (h1 x o ho).use ?_;symm;refine (Wm (o:=o) hc hk).mono λr S' z9=>?_;obtain ⟨e,W,P,l,R⟩:=z9;subst e;symm;refine Du R.ik (by show 4 < 1000;decide) ?_;symm;exact ⟨rfl,W,P,l,R.put⟩
abbrev InS (S:List Ob)(g:List GS)(x o:Str)(h a:Nat)(w:List Nat)(k l W P:Nat):Prop:=Ins S "Side" [] g x o h a w k l W P
def Nn (f:Fn):Prop:=∀(S:List Ob) (g:List GS) (x o:Str) (h a:Nat) (w y:List Nat) (k l W P:Nat) (t:List D) (h' a1 b1:Nat),GOk g->Two x o->h < g.length->a<=w.length->(w++y).length<=25000->w1 g o (w++y) ((w++y).length + 1) h a []=(t,h',a1,b1,none)->InS S g x o h a w k l W P->
 Wf f [.obj k,.str o,.lst (wD y)] S λr S'=>r = .lst t/\Kx [k,l] S S'/\∃P',InS S' g x o h' (onS o a1 b1) (w++y) k l W P'
theorem Rc (hc:Ju c):Nn (fnOf 3 4 (EL c)):=by
 intro S g x o h a w y k l W P t h' a1 b1 hg ho hh ha hl hw R;have hL:LIM=100000:=rfl;have hly:w.length + y.length<=25000:=by rw [ue6] at hl;exact hl
 refine Ao rfl ?_;unfold EL;symm;refine Jq (k:=l) ?_;symm;refine BN R.ik rfl ?_;symm;refine HI R.iw FS ?_;refine ⟨rfl,_,R.il,?_⟩;symm;refine ⟨_,wD w++wD y,R.il,by simp only [EJ];rw [if_pos (by rw [Br,Br,hL];lia)],?_⟩;have R1:=R.ext y;have K1:Kx [k,l] S (S.set l (.lst (wD w++wD y))):=Kx.refl.set (by simp);generalize S.set l (.lst (wD w++wD y))=S1 at R1 K1 ⊢;symm;refine BN R1.ik rfl ?_;symm;refine BN R1.ik rfl ?_;symm;refine BN R1.ik rfl ?_;symm;refine BN R1.ik rfl ?_;symm;refine (hc g o (w++y) (.obj l) h a W P S1 hg ho.o hh (by rw [ue6];lia) hl (.inr ⟨l,rfl,R1.il⟩) R1.iw R1.ip).mono λr S2 z9=>?_;obtain ⟨hG,hr⟩:=z9;have R2:=R1.gr hG;have K2:=K1.gr hG;rw [hw] at hr;obtain ⟨K,rfl,hK⟩:=hr;symm;refine Du R2.ik R2.fl ?_;symm;refine Du (AL R2.ik) R2.fl ?_;symm;refine ⟨rfl,rfl,(K2.set (by simp)).set (by simp),K,?_⟩;show Ins ((S2.set k (.ins "Side" (bsF g x h' W P []))).set k (.ins "Side" (bsF g x h' W K []))) "Side" [] g x o h' (onS o a1 b1) (w++y) k l W K;rw [ul8];exact R2.put hK R2.el
def EU (f:Fn):Prop:=∀(S:List Ob) (g:List GS) (x o:Str) (h a:Nat) (w y:List Nat) (k l W P:Nat) (t:List D) (h' a1 b1:Nat),GOk g->Two x o->h < g.length->a<=w.length->(w++y).length<=25000->w1 g o (w++y) ((w++y).length + 1) h a []=(t,h',a1,b1,none)->InS S g x o h a w k l W P->
 Wf f [.obj k,.lst (wD y)] S λr S'=>r = .lst t/\Kx [k,l] S S'/\∃P',InS S' g x o h' (onS o a1 b1) (w++y) k l W P'
theorem NP {ch:Fn}(h1:Hj co)(h2:Nn ch):EU (fnOf 2 2 (DS co ch)):=by
 intro S g x o h a w y k l W P t h' a1 b1 hg ho hh ha hl hw R;refine Ao rfl ?_;unfold DS;symm;refine ⟨k,_,rfl,R.ik,?_⟩;symm;refine BN R.ik rfl ?_;symm;refine (h1 x o ho).use ?_;symm;refine (h2 S g x o h a w y k l W P t h' a1 b1 hg ho hh ha hl hw R).mono λr S' z=>?_;obtain ⟨rfl,z⟩:=z;symm;exact ⟨rfl,z⟩
theorem Sy (hc:EU c):EU (fnOf 2 2 (Eo c)):=by
 intro S g x o h a w y k l W P t h' a1 b1 hg ho hh ha hl hw R;refine Ao rfl ?_;unfold Eo;symm;refine ⟨k,_,rfl,R.ik,?_⟩;symm;refine (hc S g x o h a w y k l W P t h' a1 b1 hg ho hh ha hl hw R).mono λr S' z=>?_;obtain ⟨rfl,z⟩:=z;symm;exact ⟨rfl,z⟩
def Hn (f:Fn):Prop:=∀{S:List Ob} {g:List GS} {x o:Str} {h a:Nat} {w:List Nat} {k l W P:Nat},Two x o->InS S g x o h a w k l W P->PureO S f [.obj k] (.int ((w.length:Int) - (a:Int)))
theorem SM (h1:Hj co):Hn (fnOf 1 1 (DG co (fnOf 2 2 Di))):=by
 intro S g x o h a w k l W P ho R;refine Ao rfl ?_;unfold DG;symm;refine ⟨k,_,rfl,R.ik,?_⟩;symm;refine BN R.ik rfl ?_;symm;refine (h1 x o ho).use ?_;symm;refine Ao rfl ?_;unfold Di;symm;refine BN R.ik rfl ?_;symm;refine HI R.iw FS ?_;symm;refine Tm R.il ?_;symm;refine BN R.ik rfl ?_;symm;refine HI R.ip FS ?_;symm;rw [Br];exact ⟨rfl,rfl⟩
theorem Qc {x o:Str}{k W P:Nat}(R:InS S g x o h a w k l W P):PureO S (fnOf 1 1 BS) [.obj k] (.int (h:Nat)):=by
 refine Ao rfl ?_;unfold BS;symm;refine BN R.ik rfl ?_;exact ⟨rfl,rfl⟩
def HY (f:Fn):Prop:=∀(S:List Ob) (g:List GS) (x o:Str) (h a:Nat) (w y:List Nat) (k l W P p:Nat) (v:D),GOk g->MvOk g h p v->(Au g h).side=x->mbQ g h p v=wD y->y.length<=25000->InS S g x o h a w k l W P->
 Wf f [.obj k,.str (wdAt g h p).1,v] S λr S'=>r = .lst (wD y)/\Kx [k] S S'/\InS S' g x o (nextQ g h p) a w k l W P
theorem Qb (hm:Nr cm)(hn:Lb cn)(hp:HX cp):HY (fnOf 3 5 (Dj cm cn cp)):=by
 intro S g x o h a w y k l W P p v hg hv hx hy hl R;refine Ao rfl ?_;unfold Dj;have hpl:=hp g h p v hg hv;unfold Do at hpl;rw [hx] at hpl;have hyl:(Ax (wdAt g h p).2.1 v).length + 1=y.length:=by
  have:=congrArg List.length hy;rw [ug4,Br] at this;exact this
 symm;refine BN R.ik rfl ?_;symm;refine BN R.ik rfl ?_;symm;refine Bg (BP hv.lt) ?_;symm;refine BN R.ik rfl ?_;symm;refine hpl.use ?_;symm;refine BN R.ik rfl ?_;symm;refine BN R.ik rfl ?_;symm;refine (hn g h p hg hv.lt hv.pl).use ?_;symm;refine Du R.ik R.fl ?_;symm;refine (hm g h p v hg hv (by lia)).use ?_;symm;exact ⟨rfl,by rw [<-hy],Kx.refl.set (by simp),R.put R.ip R.el⟩
theorem UR (hc:HY c):HY (fnOf 3 3 (CY c)):=by
 intro S g x o h a w y k l W P p v hg hv hx hy hl R;refine Ao rfl ?_;unfold CY;symm;refine ⟨k,_,rfl,R.ik,?_⟩;symm;refine (hc S g x o h a w y k l W P p v hg hv hx hy hl R).mono λr S' z=>?_;obtain ⟨rfl,z⟩:=z;symm;exact ⟨rfl,z⟩
def Jt (f:Fn):Prop:=∀(g:List GS) (q:Nat) (x nm:Str) (v:D) (S:List Ob),GOk g->q < g.length->(x=sL\/x=sR)->okD v=true->Nop g q x nm v->PureO S f [(Au g q).d,.tup [.str x,.str nm,v]] .non
theorem NZ {cf:Fn}(hf:E4 cf 3)(hp:F4 cp):Jt (fnOf 2 3 (Dn cf cp)):=by
 intro g q x nm d S hg hq hx htm hN;have hgs:=Dw hg hq;refine Ao rfl ?_;unfold Dn;unfold Nop at hN
 cases e:Au g q with
 | fin=>
   rw [GS.d];right;refine Em (by rcases hx with rfl | rfl <;> decide) ?_;right;exact ⟨rfl,rfl⟩
 | st side ws=>
   rw [e] at hgs hN;dsimp only at hN;show F2.W _ ⟨[some (.val (.tup [.str side,.lst (ws.map wdD)])),some (.val (.tup [.str x,.str nm,d])),none],S⟩ _
   by_cases hxs:x=side
   ·subst hxs;have hN:=hN.resolve_left (λz=>z rfl);right;refine DF (by simp) ?_;right;have hpn:=hp g.length (.st x ws) nm hgs;rw [show (GS.st x ws).ws=ws from rfl] at hpn;refine hpn.use ?_
    cases ei:ws.findIdx? (λw=>w.1 == nm) with
    | none=>
      right;exact ⟨rfl,rfl⟩
    | some p=>
      rw [ei] at hN;have hpl:p < ws.length:=by
       rw [ua0] at ei;exact ei.1
      have ew:ws[p]?=some ws[p]:=ub3 hpl;have hwo:WOk g.length ws[p]:=by cases hgs with | st _ _ _ _ h5=>exact h5 _ (uh4 hpl)
      show Ex _ _ .next ⟨[some (.val (.tup [.str x,.lst (ws.map wdD)])),some (.val (.tup [.str x,.str nm,d])),some (.val (.int p))],S⟩;right;refine Bg (Ei ew) ?_;unfold wdD;right;refine (hf _ hwo.dep _ htm).use ?_;rw [hN _ ew];right;exact ⟨rfl,rfl⟩
   ·right;refine Em (by simp [hxs]) ?_;right;exact ⟨rfl,rfl⟩
def Iz (f:Fn):Prop:=∀(S:List Ob) (g:List GS) (x o:Str) (h a:Nat) (w:List Nat) (k l W P:Nat) (nm:Str) (v:D),GOk g->h < g.length->Two x o->okD v=true->Nop g h x nm v->InS S g x o h a w k l W P->PureO S f [.obj k,.str nm,v] (.exc "NoTalk" [.int 0])
theorem Od (hp:Jt cp):Iz (fnOf 3 5 (Dj cm cn cp)):=by
 intro S g x o h a w k l W P nm v hg hh ho htm hN R;refine Ao rfl ?_;unfold Dj;symm;refine BN R.ik rfl ?_;symm;refine BN R.ik rfl ?_;symm;refine Bg (BP hh) ?_;symm;refine BN R.ik rfl ?_;symm;refine (hp g h x nm v S hg hh ho.x htm hN).use ?_;symm;exact ⟨rfl,rfl⟩
theorem Sg (hc:Iz c):Iz (fnOf 3 3 (CY c)):=by
 intro S g x o h a w k l W P nm v hg hh ho htm hN R;refine Ao rfl ?_;unfold CY;symm;refine ⟨k,_,rfl,R.ik,?_⟩;symm;refine (hc S g x o h a w k l W P nm v hg hh ho htm hN R).use ?_;symm;exact ⟨rfl,rfl⟩
def SR (f:Fn):Prop:=∀(S:List Ob) (g:List GS) (x o:Str) (h a:Nat) (w y:List Nat) (k l W P p:Nat) (v:D),GOk g->MvOk g h p v->(Au g h).side=x->mbQ g h p v=wD y->y.length<=25000->InS S g x o h a w k l W P->
 Wf f [.obj k,.str (wdAt g h p).1,v] S λr S'=>r = .lst (wD y)/\Kx [k] S S'/\InS S' g x o (nextQ g h p) a w k l W P
theorem Rp (hc:HY c):SR (fnOf 3 5 (Ct c)):=by
 intro S g x o h a w y k l W P p v hg hv hx hy hl R;refine Ao rfl ?_;unfold Ct;symm;refine ⟨k,_,rfl,R.ik,?_⟩;symm;refine (hc S g x o h a w y k l W P p v hg hv hx hy hl R).mono λr S' z=>?_;obtain ⟨rfl,z⟩:=z;symm;exact ⟨rfl,z⟩
def SQ (f:Fn):Prop:=∀(S:List Ob) (g:List GS) (x o:Str) (h a:Nat) (w:List Nat) (k l W P:Nat) (nm:Str) (v:D),GOk g->h < g.length->Two x o->okD v=true->Nop g h x nm v->InS S g x o h a w k l W P->PureO S f [.obj k,.str nm,v] (.tup [.str "no",.int 0])
theorem Ro (hc:Iz c):SQ (fnOf 3 5 (Ct c)):=by
 intro S g x o h a w k l W P nm v hg hh ho htm hN R;refine Ao rfl ?_;unfold Ct;symm;refine ⟨k,_,rfl,R.ik,?_⟩;symm;refine (hc S g x o h a w k l W P nm v hg hh ho htm hN R).use ?_;symm;exact ⟨rfl,rfl⟩
def k5S:Key:=.inr (Str.ofString "state")
def k5L:Key:=.inr (Str.ofString "left")
def k5W:Key:=.inr (Str.ofString "wait")
def k5M:Key:=.inr (Str.ofString "message")
def k5H:Key:=.inr (Str.ofString "held")
theorem kne:(k5S≠k5L/\k5S≠k5W/\k5S≠k5M/\k5S≠k5H/\k5L≠k5W/\k5L≠k5M/\k5L≠k5H/\k5W≠k5M/\k5W≠k5H/\k5M≠k5H)/\k5L≠k5S/\k5W≠k5S/\k5M≠k5S/\k5H≠k5S/\k5W≠k5L/\k5M≠k5L/\k5H≠k5L/\k5M≠k5W/\k5H≠k5W/\k5H≠k5M:=by decide +kernel
def dD (a b c d e:D):List (Key×D):=[(k5S,a),(k5L,b),(k5W,c),(k5M,d),(k5H,e)]
section
variable {a b c d e z:D}
theorem Ij:A0 (dD a b c d e) k5S=some a:=by simp [A0,dD,ui4]
theorem LM:A0 (dD a b c d e) k5L=some b:=by simp [A0,dD,ui4,kne]
theorem Wl:A0 (dD a b c d e) k5W=some c:=by simp [A0,dD,ui4,kne]
theorem Wk:A0 (dD a b c d e) k5M=some d:=by simp [A0,dD,ui4,kne]
theorem NL:A0 (dD a b c d e) k5H=some e:=by simp [A0,dD,ui4,kne]
theorem ZV:Bw (dD a b c d e) k5S z=dD z b c d e:=by simp [Bw,dD,kne]
theorem ZS:Bw (dD a b c d e) k5L z=dD a z c d e:=by simp [Bw,dD,kne]
theorem ZW:Bw (dD a b c d e) k5W z=dD a b z d e:=by simp [Bw,dD,kne]
theorem ZU:Bw (dD a b c d e) k5M z=dD a b c z e:=by simp [Bw,dD,kne]
theorem ZN:D1 [(k5S,a),(k5L,b),(k5W,c),(k5M,d),(k5H,e)]=dD a b c d e:=by simp [D1,Bw,dD,kne]
end
theorem Ms {o:Str}(e:s1 g o w h a = .stop)(F:Nat):w1 g o w F h a []=([],h,onS o a 0,onS o 0 a,none):=FH e F
theorem Vh (hg:GOk g){x:Str}(hx:x=sL\/x=sR){q p c:Nat}{v:D}{w y:List Nat}(hm:MvOk g q p v)(hs:(Au g q).side=x)(hy:mbQ g q p v=wD y)(hc:c < y.length)(F:Nat)(hF:c + 1<=F):w1 g x (w++y.take c) F q w.length []=([],q,onS x w.length 0,onS x 0 w.length,none):=by
 have ew:Bc g x q [(p,v)]=wD y:=by rw [Bc,Bc,ui1,if_pos hs];exact hy
 have hl:w.length + (Bc g x q [(p,v)]).length=(w++y).length:=by rw [ew,Br,ue6]
 obtain ⟨m1,m2,e,h1,h2,h3⟩:=Kc hg hx (w:=w++y) (tk:=w.length + c) (by rw [ue6];lia) [(p,v)] q w.length F [] hm.lt ⟨hm,trivial⟩ ⟨hs,trivial⟩ ⟨wD w,[],by rw [ew,Mt,ui1],Br w⟩ hl (by lia) (by lia);rw [List.take_length_add_append] at h3
 cases m1 with
 | nil=>exact h3
 | cons a m1=>
   have e1:a=(p,v)/\m1++m2=[]:=by injection e with e1 e2;exact ⟨e1.symm,e2.symm⟩
   obtain ⟨rfl,e2⟩:=e1;have e3:m1=[]:=(List.append_eq_nil_iff.mp e2).1;subst e3;rw [ew,Br] at h1;lia
inductive Pend (g:List GS)(o:Str)(h a:Nat)(w lft:List Nat)(wt:Nat)(m:D):Prop
 | none:lft=[]->wt=0->a=w.length->Pend g o h a w lft wt m
 | some (p:Nat) (v:D) (y w0:List Nat):MvOk g h p v->(Au g h).side=o->mbQ g h p v=wD y->m = .lst [Do g h p v,.int (nextQ g h p:Nat)]->w=w0++y.take wt->w0.length=a->wt < y.length->lft=y.drop wt->Pend g o h a w lft wt m
theorem Pend.own {x o:Str}{lft:List Nat}{wt:Nat}{m:D}(h1:Pend g o h a w lft wt m)(two:Two x o)(hs:(Au g h).side=x):lft=[]/\wt=0/\a=w.length:=by
 cases h1 with
 | none a b c=>exact ⟨a,b,c⟩
 | some p v y w0 _ h2 _ _ _ _ _ _=>exact absurd (hs.symm.trans h2) two.ne
theorem Pend.le {o:Str}{lft:List Nat}{wt:Nat}{m:D}(h1:Pend g o h a w lft wt m):a + wt=w.length:=by
 cases h1 with
 | none a b c=>lia
 | some p v y w0 _ _ _ _ h5 h6 h7 _=>rw [h5,ue6,ug6];lia
structure J36 (g:List GS)(x o:Str)(S:List Ob)(h a:Nat)(w:List Nat)(k l W P N Hd:Nat)(lft:List Nat)(wt:Nat)(m:D)(hs:List D):Prop where
 hh:h < g.length
 sd:InS S g x o h a w k l W P
 dn:S[N]?=some (.dct (dD (.int (h:Nat)) (.lst (wD lft)) (.int (wt:Nat)) m (.obj Hd)))
 dh:S[Hd]?=some (.lst hs)
 lh:l≠Hd
 pd:Pend g o h a w lft wt m
 hl:∀u∈hs,∃z,u = .lst [.lst z,.lst z]/\eqN EQD (.lst z) (.lst z)=some true
variable {N:Nat}{z:D}
theorem Mu {a b c d:D}(dn:t.S[N]?=some (.dct (dD a b c d e)))(h:U () ⟨t.env,t.S.set N (.dct (dD z b c d e))⟩):F2.W (DC (.obj N) (.str (Str.ofString "state")) z) t U:=DW dn (by show 5 < 100000;decide) (by rw [show Bw (dD a b c d e) (.inr (Str.ofString "state")) z=_ from ZV];exact h)
theorem Qt {a b c d:D}(dn:t.S[N]?=some (.dct (dD a b c d e)))(h:U () ⟨t.env,t.S.set N (.dct (dD a z c d e))⟩):F2.W (DC (.obj N) (.str (Str.ofString "left")) z) t U:=DW dn (by show 5 < 100000;decide) (by rw [show Bw (dD a b c d e) (.inr (Str.ofString "left")) z=_ from ZS];exact h)
theorem Qu {a b c d:D}(dn:t.S[N]?=some (.dct (dD a b c d e)))(h:U () ⟨t.env,t.S.set N (.dct (dD a b z d e))⟩):F2.W (DC (.obj N) (.str (Str.ofString "wait")) z) t U:=DW dn (by show 5 < 100000;decide) (by rw [show Bw (dD a b c d e) (.inr (Str.ofString "wait")) z=_ from ZW];exact h)
theorem XV {a b c d:D}(dn:t.S[N]?=some (.dct (dD a b c d e)))(h:U () ⟨t.env,t.S.set N (.dct (dD a b c z e))⟩):F2.W (DC (.obj N) (.str (Str.ofString "message")) z) t U:=DW dn (by show 5 < 100000;decide) (by rw [show Bw (dD a b c d e) (.inr (Str.ofString "message")) z=_ from ZU];exact h)
theorem SX {a b c d:D}{o:Str}:Ob.dct (dD a b c d e)≠Ob.dct (d1 o z):=λq=>by injection q with q;exact absurd (congrArg List.length q) (by show ¬(5=1);decide)
theorem Ins.setD {x o:Str}{k W P:Nat}{b:Ob}{a1 a2 a3 a4 a5:D}(R:InS S g x o h a w k l W P)(e:S[N]?=some (.dct (dD a1 a2 a3 a4 a5))):InS (S.set N b) g x o h a w k l W P:=
 ⟨An R.ik (Ar e R.ik (by simp)),An R.iw (Ar e R.iw SX),An R.ip (Ar e R.ip SX),An R.il (Ar e R.il (by simp)),R.el⟩
theorem K0 (hg:GOk g)(hT:∀y∈g,Tin y){h:Nat}(hh:h < g.length){s:Str}(hs:s=sL\/s=sR)(hsd:(Au g h).side=s)(cell:Int):∃(ws:List (Str×Sh×Int)) (p:Nat),Au g h = .st s ws/\0 < ws.length/\ws.length<=9/\cell % (ws.length:Int)=(p:Nat)/\ws[p]?=some (wdAt g h p)/\Dr 2 (wdAt g h p).2.1/\p < (Au g h).ws.length/\((nextQ g h p:Nat):Int)=(wdAt g h p).2.2:=by
 have hgs:=Dw hg hh;have htn:=hT _ (Il hh)
 cases e:Au g h with
 | fin=>rw [e] at hsd;rcases hs with q | q <;> (rw [q] at hsd;exact absurd hsd (by decide +kernel))
 | st s' ws=>
   rw [e] at hgs htn hsd;have hsd:s'=s:=hsd;subst hsd;have hw0:0 < ws.length/\ws.length<=9:=by cases hgs with | st _ h1 h2 _ _=>exact ⟨h1,h2⟩
   have h1:=ui9 cell (b:=(ws.length:Int)) (by lia);have h2:=uf0 cell (b:=(ws.length:Int)) (by lia);obtain ⟨p,hp⟩:=ub7 h1;have hpl:p < ws.length:=by lia
   have ew:ws[p]?=some ws[p]:=ub3 hpl;have hwd:wdAt g h p=ws[p]:=by unfold wdAt;rw [e];show ws.getD p _=_;rw [ua8,ew];rfl
   have hpl2:p < (Au g h).ws.length:=by rw [e];exact hpl
   have hwo:=(EY hg hh hpl2).lo;exact ⟨ws,p,rfl,hw0.1,hw0.2,hp,by rw [hwd];exact ew,by rw [hwd];exact htn _ (uh4 hpl),hpl,by unfold nextQ;lia⟩
theorem KR (hg:GOk g)(hT:∀y∈g,Tin y){h p:Nat}{v:D}(hm:MvOk g h p v):∃y,mbQ g h p v=wD y/\y.length<=41/\0 < y.length:=by
 obtain ⟨y,hy,_⟩:=Pf (KF hg (Au g h).side h [(p,v)] ⟨hm,trivial⟩);rw [Bc,Bc,ui1,if_pos rfl] at hy;have hyl:=Wz hT hm;have hy:mbQ g h p v=wD y:=hy;have h2:0 < (mbQ g h p v).length:=Nat.succ_pos _;rw [hy,Br] at hyl h2;exact ⟨y,hy,hyl,h2⟩
theorem Cv {kv:List (Key×D)}{x:Str}{d:D}(e:t.S[N]?=some (.dct kv))(e2:A0 kv (.inr x)=some d)(h:P d t):F2.W (AW (.obj N) (.str x)) t P:=HI e e2 h
theorem Jk {x:List Nat}:eqN EQD (.lst (wD x)) (.lst (wD x))=some true:=Me (n:=1) (λd hd=>by obtain ⟨i,rfl⟩:=ul5.mp hd |>.imp λ_ z=>z.2.symm;exact Mc) EQD (by decide)
theorem Fg:∀(n:Nat) (s:Sh),s.depth<=n->∀v,Ah s v=true->Rq n v
 | 0,s,h,_,_=>absurd s.depth_pos (by lia)
 | n + 1,s,hd,v,h=>by
   cases s with
   | nothing=>rw [HM h];exact Xn
   | number lo hi=>obtain ⟨i,rfl,_⟩:=IW h;exact Mc
   | text q=>obtain ⟨x,rfl,_⟩:=Q1 h;exact Jj
   | list s q=>
     rw [Sh.depth] at hd;obtain ⟨ds,rfl,_,hds⟩:=Q0 h;exact Me λd md=>Fg n s (by lia) d (hds d md)
   | pair a b=>
     rw [Sh.depth] at hd;obtain ⟨x,y,rfl,h1,h2⟩:=LF h;refine Mf λd md=>?_;simp only [uj8,uh3,or_false] at md;rcases md with rfl | rfl
     ·exact Fg n a (by lia) _ h1
     ·exact Fg n b (by lia) _ h2
   | choice ss=>
     rw [Sh.depth] at hd;obtain ⟨k,x,hk,rfl,h1⟩:=IV h;have:=Kz (uh4 hk);refine Mf λd md=>?_;simp only [uj8,uh3,or_false] at md;rcases md with rfl | rfl | rfl
     ·exact Jj
     ·exact Mc
     ·exact Fg n _ (by lia) _ h1
theorem Th (hg:GOk g){q p:Nat}{v:D}(hm:MvOk g q p v):eqN EQD (.lst [Do g q p v]) (.lst [Do g q p v])=some true:=by
 refine Me (n:=5) (λd hd=>?_) EQD (by decide);rw [ue8] at hd;subst hd;unfold Do;refine Mf (n:=4) λd hd=>?_;simp only [uj8,uh3,or_false] at hd;rcases hd with rfl | rfl | rfl
 ·exact Jj
 ·exact Jj
 ·exact (Fg 3 _ (EY hg hm.lt hm.pl).dep _ hm.fit).mono (by decide)
def Kw (BL:Fn):M Out:=
 (Ae (As 14 (Aq (fBF (Ab (Aa 13) Ad) Dh)))
 (Ae (As 15 (A4 "Side" (Ed BL) (Aa 0) (Ab (Aa 14) Ad)))
 (Ae (B2 (objM Bu (Ac (Aa 3) (fC (.str "held")) AW) (Ab (Aq (AB (Ab (Aa 15) (Ab (Aq (fBF (Ab (Aa 5) Ad) Dh)) Ad)))) Ad)))
 (Ae (B2 (objM Bu (Ac (Aa 3) (fC (.str "held")) AW) (Ab (Aq (AB (Ab (Aa 14) (Ab (Aa 13) Ad)))) Ad)))
 (Am (DP (Ac (Aa 15) (Aa 5) (eqS id)) (Ac (Aa 14) (Aa 13) (eqS id))))))))
theorem J2 (ht:EU ct){g:List GS}(hg:GOk g){x o:Str}(two:Two x o){S:List Ob}{h a h' a1 b1:Nat}{w y:List Nat}{k l W P N Hd:Nat}{lft:List Nat}{wt:Nat}{m:D}{hs t:List D}{e4 e6 e7 e8 e9 e10 e11 e12:Option Sl}(hh:h < g.length)(hh':h' < g.length)(ha:a<=w.length)(hl:(w++y).length<=25000)(hw:w1 g o (w++y) ((w++y).length + 1) h a []=(t,h',a1,b1,none))(hr:eqN EQD (.lst t) (.lst t)=some true)(R:InS S g x o h a w k l W P)(dn:S[N]?=some (.dct (dD (.int (h':Nat)) (.lst (wD lft)) (.int (wt:Nat)) m (.obj Hd))))(dh:S[Hd]?=some (.lst hs))(lh:l≠Hd)(pd:Pend g o h' (onS o a1 b1) (w++y) lft wt m)(hsl:hs.length<=500)(hhl:∀u∈hs,∃z,u = .lst [.lst z,.lst z]/\eqN EQD (.lst z) (.lst z)=some true) :
 F2.W (Kw ct) ⟨[some (.val (.obj k)),some (.val (.lst (g.map GS.d))),some (.val (.str o)),some (.val (.obj N)),e4,some (.val (.lst t)),e6,e7,e8,e9,e10,e11,e12,some (.val (.lst (wD y))),none,none],S⟩ λot t'=>ot = .ret (.bl true)/\∃P' hs',J36 g x o t'.S h' (onS o a1 b1) (w++y) k l W P' N Hd lft wt m hs'/\hs'.length=hs.length + 2:=by
 have hL:LIM=100000:=rfl;have k5H':Hd≠k:=Ar dh R.ik (by simp);unfold Kw;symm;refine ⟨k,_,rfl,R.ik,?_⟩;symm;refine KQ ?_;refine (ht S g x o h a w y k l W P t h' a1 b1 hg two hh ha hl hw R).mono ?_;rintro r S1 ⟨rfl,K1,P',R1⟩;refine ⟨rfl,?_⟩;have dn1:=K1.get (by simp only [uj8,uh3,or_false,not_or];exact ⟨Ar dn R.ik (by simp),Ar dn R.il (by simp)⟩) dn;have dh1:=K1.get (by simp only [uj8,uh3,or_false,not_or];exact ⟨k5H',Ne.symm lh⟩) dh;symm;refine Jq (k:=Hd) ?_;symm;refine Cv dn1 NL ?_;refine ⟨rfl,_,dh1,?_⟩;symm;refine ⟨_,hs++[.lst [.lst t,.lst t]],dh1,by simp only [Bu];rw [if_pos (by rw [hL];lia)],?_⟩;have nHd:N≠Hd:=Ar dn1 dh1 (by simp);have dn2:=An (o:=.lst (hs++[.lst [.lst t,.lst t]])) dn1 (Ne.symm nHd);have dh2:=AL (o':=.lst (hs++[.lst [.lst t,.lst t]])) dh1;have R2:=R1.setL (b:=.lst (hs++[.lst [.lst t,.lst t]])) dh1 (Ne.symm lh);show Ex _ _ Out.next ⟨_,S1.set Hd (.lst (hs++[.lst [.lst t,.lst t]]))⟩;generalize S1.set Hd (.lst (hs++[.lst [.lst t,.lst t]]))=S2 at dn2 dh2 R2 ⊢;symm;refine Jq (k:=Hd) ?_;symm;refine Cv dn2 NL ?_;refine ⟨rfl,_,dh2,?_⟩;symm;refine ⟨_,hs++[.lst [.lst t,.lst t]]++[.lst [.lst (wD y),.lst (wD y)]],dh2,by simp only [Bu];rw [if_pos (by rw [ue6,hL];show _ + 1 < _;lia)],?_⟩;symm;refine C3 rfl hr ?_;symm;refine C3 rfl Jk ?_;refine ⟨rfl,P',_,⟨hh',R2.setL dh2 (Ne.symm lh),An dn2 (Ne.symm nHd),AL dh2,lh,pd,λu hu=>?_⟩,by rw [ue6,ue6];rfl⟩;rcases uh7.mp hu with hu | hu
 ·rcases uh7.mp hu with hu | hu
  ·exact hhl u hu
  ·rw [ue8] at hu;exact ⟨t,hu,hr⟩
 ·rw [ue8] at hu;exact ⟨wD y,hu,Jk⟩
def La (f:Fn):Prop:=∀{g:List GS} {x o:Str} {S:List Ob} {h a:Nat} {w:List Nat} {k l W P N Hd:Nat} {lft:List Nat} {wt:Nat} {m:D} {hs:List D} (cell:Int),GOk g->(∀y∈g,Tin y)->Two x o->w.length + lft.length<=20000->hs.length<=500->J36 g x o S h a w k l W P N Hd lft wt m hs->
 Wf f [.obj k,.lst (g.map GS.d),.str o,.obj N,.int cell] S λr S'=>r = .bl true/\∃(h' a':Nat) (w':List Nat) (P':Nat) (lft':List Nat) (wt':Nat) (m':D) (hs':List D),J36 g x o S' h' a' w' k l W P' N Hd lft' wt' m' hs'/\w'.length + lft'.length<=w.length + lft.length + 41/\hs'.length<=hs.length + 2
variable {y:List Nat}
theorem X7 {c:Nat}:Da (wD y) none (some (c:Int))=wD (y.take c):=VQ
theorem X8 {c:Nat}:Da (wD y) (some (c:Int)) none=wD (y.drop c):=VR
variable {cv:Fn}
theorem Rr (ht:EU ct)(hb:HW cb 3)(hv:GJ cv 3):La (fnOf 5 16 (Ea ct cb cv)):=by
 intro g x o S h a w k l W P N Hd lft wt m hs cell hg hT two hwl hhs J;have hL:LIM=100000:=rfl;refine Ao rfl ?_;unfold Ea;symm;refine Cv J.dn Ij ?_;symm;refine Bg (BP J.hh) ?_;refine Bi ?_;refine Ki ?_;refine F2.W.mono (P:=λot t'=>ot = .next/\∃(lft1:List Nat) (m1:D) (S1:List Ob) (e7 e8 e9 e10 e11:Option Sl),J36 g x o S1 h a w k l W P N Hd lft1 wt m1 hs/\(lft1=[]->(Au g h).side≠o)/\lft1.length<=lft.length + 41/\t'=⟨[some (.val (.obj k)),some (.val (.lst (g.map GS.d))),some (.val (.str o)),some (.val (.obj N)),some (.val (.int cell)),some (.val (.lst [])),some (.val ((Au g h).d)),e7,e8,e9,e10,e11,none,none,none,none],S1⟩) ?_ ?_
 ·refine wIf ?_;refine F2.W.mono (P:=λb t'=>t'=⟨[some (.val (.obj k)),some (.val (.lst (g.map GS.d))),some (.val (.str o)),some (.val (.obj N)),some (.val (.int cell)),some (.val (.lst [])),some (.val ((Au g h).d)),none,none,none,none,none,none,none,none,none],S⟩/\(b=true->lft=[]/\(Au g h).side=o)/\(b=false->lft=[]->(Au g h).side≠o)) ?_ ?_
  ·symm;refine Cv J.dn LM ?_;symm;refine BQ (λz=>?_) λz=>?_
   ·symm;refine IZ ?_;symm;refine ⟨rfl,λq=>⟨?_,by simpa using q⟩,λq _=>by simpa using q⟩
    cases lft with
    | nil=>rfl
    | cons _ _=>cases z
   ·refine ⟨rfl,(λq=>by cases q),λ_ q=>?_⟩;subst q
    cases z
  rintro b t' ⟨rfl,hb1,hb2⟩;refine BQ (λz=>?_) λz=>?_
  ·obtain ⟨rfl,hsd⟩:=hb1 z;obtain ⟨ws,p,e,w0,w9,hp,ew,hdr,hpl,hnx⟩:=K0 hg hT J.hh two.o hsd cell;rw [e,GS.d];symm;rw [uh9];refine Fz (by lia) ?_;symm;rw [hp];refine Bg (Ei ew) ?_;unfold wdD;symm;refine (hv _ hdr.dep hdr.ok hdr.nar hdr.tin _ S).mono ?_;rintro r0 S0 ⟨e0,v,lf,rfl,hf⟩;subst e0;have hm:MvOk g h p v:=⟨J.hh,hpl,hf⟩;obtain ⟨y,hy,hy1,hy0⟩:=KR hg hT hm;have hyl:(Ax (wdAt g h p).2.1 v).length + 1=y.length:=by
    have:=congrArg List.length hy;rw [ug4,Br] at this;exact this
   symm;refine (hb _ hdr.dep hdr.ok hdr.nar v hf (by lia)).use ?_;symm;refine Bx (by rw [ug4,ui5,hL];lia) ?_;have hpd:=J.pd;obtain ⟨hwt,haw⟩:wt=0/\a=w.length:=by
    cases hpd with
    | none q1 q2 q3=>exact ⟨q2,q3⟩
    | some p v y w0 _ _ _ _ _ _ h7 h8=>
      have:=congrArg List.length h8;rw [ug7] at this;have:0=y.length - wt:=this;lia
   refine Qt J.dn ?_;have d1':=AL (o':=.dct (dD (.int (h:Nat)) (.lst ([.int (p:Int)]++Ax (wdAt g h p).2.1 v)) (.int (wt:Nat)) m (.obj Hd))) J.dn;symm;refine XV d1' ?_;rw [ul8];have hrow:[D.int (p:Int)]++Ax (wdAt g h p).2.1 v=wD y:=hy;rw [hrow];have hmsg:D.tup [.str o,.str (wdAt g h p).1,v]=Do g h p v:=by unfold Do;rw [e];rfl
   rw [hmsg,<-hnx];refine ⟨rfl,y,_,_,_,_,_,_,_,⟨J.hh,J.sd.setD J.dn,AL J.dn,An J.dh (Ar J.dn J.dh (by simp)),J.lh,.some p v y w hm hsd hy rfl (by rw [hwt,List.take_zero,ui1]) haw.symm (by lia) (by rw [hwt,uj5]),J.hl⟩,(λq=>by subst q;exact absurd hy0 (uj7 0)),by lia,rfl⟩
  ·symm;exact ⟨rfl,lft,m,S,_,_,_,_,_,J,hb2 z,by lia,rfl⟩
 rintro ot t' ⟨rfl,lft1,m1,S1,e7,e8,e9,e10,e11,J1,hne,hll,rfl⟩;clear J;refine Bi ?_;have lw:=J1.sd.il;symm;refine Cv J1.dn LM ?_;symm;rw [Br];refine Fz (by lia) ?_;have c0:=ui9 (cell / 3) (b:=(lft1.length:Int) + 1) (by lia);have c1:=uf0 (cell / 3) (b:=(lft1.length:Int) + 1) (by lia);obtain ⟨c,hc⟩:=ub7 c0;rw [hc] at c1 ⊢;clear c0 hc;symm;refine Cv J1.dn LM ?_;symm;rw [X7];refine Cv J1.dn LM ?_;symm;rw [X8];refine Qt J1.dn ?_;have d2:=AL (o':=.dct (dD (.int (h:Nat)) (.lst (wD (lft1.drop c))) (.int (wt:Nat)) m1 (.obj Hd))) J1.dn;symm;refine Cv d2 Wl ?_;symm;refine Qu d2 ?_;rw [ul8];have d3:=AL (o':=.dct (dD (.int (h:Nat)) (.lst (wD (lft1.drop c))) (.int ((wt:Int) + (c:Int))) m1 (.obj Hd))) J1.dn;have R3:=J1.sd.setD (b:=.dct (dD (.int (h:Nat)) (.lst (wD (lft1.drop c))) (.int ((wt:Int) + (c:Int))) m1 (.obj Hd))) J1.dn;have h3:=An (o:=.dct (dD (.int (h:Nat)) (.lst (wD (lft1.drop c))) (.int ((wt:Int) + (c:Int))) m1 (.obj Hd))) J1.dh (Ar J1.dn J1.dh (by simp));generalize S1.set N (.dct (dD (.int (h:Nat)) (.lst (wD (lft1.drop c))) (.int ((wt:Int) + (c:Int))) m1 (.obj Hd)))=S2 at d3 R3 h3 ⊢;clear d2;have lb:=R3.il;refine Bi ?_;refine Ki ?_;refine wIf ?_;refine F2.W.mono (P:=λb t'=>t'=⟨[some (.val (.obj k)),some (.val (.lst (g.map GS.d))),some (.val (.str o)),some (.val (.obj N)),some (.val (.int cell)),some (.val (.lst [])),some (.val ((Au g h).d)),e7,e8,e9,e10,e11,some (.val (.int (c:Int))),some (.val (.lst (wD (lft1.take c)))),none,none],S2⟩/\(b=true->0 < c/\lft1.drop c=[])/\(b=false->¬(0 < c/\lft1.drop c=[]))) ?_ ?_
 ·symm;refine BQ (λz=>?_) λz=>?_
  ·have z:0 < c:=by simpa using z
   symm;refine Cv d3 LM ?_;symm;refine ⟨rfl,λq=>⟨z,?_⟩,λq e=>?_⟩
   ·generalize lft1.drop c=u at q
    cases u with
    | nil=>rfl
    | cons _ _=>cases q
   ·rw [e.2] at q
    cases q
  ·have z:¬0 < c:=by simpa using z
   exact ⟨rfl,(λq=>by cases q),λ_ e=>z e.1⟩
 rintro b t' ⟨rfl,hb1,hb2⟩;have hcl:c<=lft1.length:=by lia
 have hbd:(w++lft1.take c).length<=25000:=by rw [ue6,ug6];lia
 have hal:a<=w.length:=by have:=J1.pd.le;lia
 have hfin:(w++lft1.take c).length + (lft1.drop c).length<=w.length + lft.length + 41:=by rw [ue6,ug6,ug7];lia
 refine BQ (λz=>?_) λz=>?_
 ·obtain ⟨z1,z2⟩:=hb1 z
  cases J1.pd with
  | none q1 _ _=>subst q1;exact absurd hcl (by show ¬c<=0;lia)
  | some p v y w0 hm hsd hy hm1 hw hw0 hwt hle=>
    subst hm1;have et:w++lft1.take c=w0++y:=by
     rw [uc3 (by have:=congrArg List.length z2;rw [ug7] at this;have:lft1.length - c=0:=this;lia),hle,hw,uf6,List.take_append_drop]
    obtain ⟨a1,b1,hw1,hon⟩:=Qn hg two.o (w:=w0) hm hsd hy;rw [hw0,<-et] at hw1;rw [z2] at d3 hfin;symm;refine Cv d3 Wk ?_;symm;refine Cv d3 Wk ?_;symm;refine Mu d3 ?_;have d4:=AL (o':=.dct (dD (.int ((nextQ g h p:Nat):Int)) (.lst (wD [])) (.int ((wt:Int) + (c:Int))) (.lst [Do g h p v,.int ((nextQ g h p:Nat):Int)]) (.obj Hd))) d3;symm;refine Qu d4 ?_;rw [ul8];refine Bi ?_;refine (J2 ht hg two (m:=.lst [Do g h p v,.int ((nextQ g h p:Nat):Int)]) (lft:=[]) (wt:=0) J1.hh (E1 hg J1.hh hm.pl) hal hbd hw1 (Th hg hm) (R3.setD d3) (AL d3) (An h3 (Ar d3 h3 (by simp))) J1.lh (.none rfl rfl (by rw [hon,et])) hhs J1.hl).mono ?_;rintro ot t' ⟨rfl,P',hs',J',hl'⟩;exact ⟨rfl,_,_,_,P',_,_,_,hs',J',hfin,by lia⟩
 ·have hz:=hb2 z;refine Op ?_;refine Bi ?_
  cases J1.pd with
  | none q1 q2 q3=>
    have hc0:c=0:=by subst q1;exact Nat.le_zero.mp hcl
    subst q1 hc0 q2;refine (J2 ht hg two (m:=m1) (lft:=[]) (wt:=0) J1.hh J1.hh hal hbd (Ms (Gv hg two.o J1.hh (hne rfl)) _) (by decide +kernel) R3 d3 h3 J1.lh (.none rfl rfl (by rw [G6,q3];show _=(w++[]).length;rw [ui1])) hhs J1.hl).mono ?_;rintro ot t' ⟨rfl,P',hs',J',hl'⟩;exact ⟨rfl,_,_,_,P',_,_,_,hs',J',hfin,by lia⟩
  | some p v y w0 hm hsd hy hm1 hw hw0 hwt hle=>
    have hlt:wt + c < y.length:=by
     have h1:lft1.length=y.length - wt:=by rw [hle,ug7]
     rcases ul6 (wt + c) y.length with q | q
     ·exact q
     ·exact absurd ⟨by lia,uc6 (by lia)⟩ hz
    have et:w++lft1.take c=w0++y.take (wt + c):=by rw [hle,hw,uf6,<-List.take_add]
    have hw1:=Vh hg two.o (w:=w0) hm hsd hy hlt ((w++lft1.take c).length + 1) (by rw [et,ue6,ug6];lia);rw [hw0,<-et] at hw1;rw [<-Int.natCast_add] at d3;refine (J2 ht hg two (m:=m1) J1.hh J1.hh hal hbd hw1 (by decide +kernel) R3 d3 h3 J1.lh (.some p v y w0 hm hsd hy hm1 et (by rw [G6];exact hw0) hlt (by rw [hle,List.drop_drop])) hhs J1.hl).mono ?_;rintro ot t' ⟨rfl,P',hs',J',hl'⟩;exact ⟨rfl,_,_,_,P',_,_,_,hs',J',hfin,by lia⟩
theorem K4:eqN EQD (.tup [.str (Str.ofString "no"),.int 0]) (.tup [.str (Str.ofString "no"),.int 0])=some true:=by decide +kernel
def nfD (d:D):Bool:=match d with
 | .tup (.str s :: _)=>!(s == Str.ofString "end")
 | _=>false
theorem LY {x nm:Str}(h:(Au g q).side≠x):Nop g q x nm v:=by
 unfold Nop
 cases e:Au g q with
 | fin=>trivial
 | st side ws=>rw [e] at h;exact .inl (λz=>h z.symm)
theorem Ve (h:CU s=true):Ah s (.lst [.str (Str.ofString "no"),.str (Str.ofString "value")])=false:=by
 have h5:(Str.ofString "value").length=5:=by decide +kernel
 have hno:∀s:Sh,CU s=true->Ah s (.str (Str.ofString "value"))=false:=by
  intro s h
  cases s with
  | text m=>
    simp only [CU,ug1] at h;simp only [Ah,h5,Bool.and_eq_false_iff,decide_eq_false_iff_not];exact .inl (by lia)
  | _=>rfl
 cases s with
 | list s m=>
   simp only [CU,uh0] at h;simp only [Ah,uk2,hno s h.2,uj4,uj2]
 | _=>rfl
theorem WG {x nm:Str}(h:Tin (Au g q)):Nop g q x nm (.lst [.str (Str.ofString "no"),.str (Str.ofString "value")]):=by
 unfold Nop
 cases e:Au g q with
 | fin=>trivial
 | st side ws=>
   rw [e] at h;refine .inr ?_
   split
   ·trivial
   ·intro w hw;exact Ve (h w (ud4 hw)).tin
theorem Ys {x nm:Str}(h:N9 (Au g q)):Nop g q x (nm++Str.ofString "z") v:=by
 unfold Nop
 cases e:Au g q with
 | fin=>trivial
 | st side ws=>
   rw [e] at h;refine .inr ?_;have:(ws.findIdx? λw=>w.1 == nm++Str.ofString "z")=none:=by
    rw [List.findIdx?_eq_none_iff];intro w hw;rw [beq_eq_false_iff_ne];intro z;have h1:=(h w hw).2 122;rw [z] at h1;have h2:122∈(nm++Str.ofString "z").cps.toList:=by
     show 122∈(nm.cps++(Str.ofString "z").cps).toList;rw [Array.toList_append,show (Str.ofString "z").cps.toList=[122] by decide +kernel];simp
    exact absurd (h1 h2) (by decide)
   rw [this];trivial
def Nq (f:Fn):Prop:=∀{g:List GS} {x o:Str} {S:List Ob} {h a:Nat} {w:List Nat} {k l W P N Hd:Nat} {lft:List Nat} {wt:Nat} {m:D} {hs:List D} (cell:Int),GOk g->(∀y∈g,Tin y/\N9 y)->Two x o->hs.length<=500->J36 g x o S h a w k l W P N Hd lft wt m hs->
 Wf f [.obj k,.lst (g.map GS.d),.str x,.obj N,.int cell] S λr S'=>r = .bl true/\∃(h' a':Nat) (w':List Nat) (P':Nat) (lft':List Nat) (wt':Nat) (m':D) (hs':List D),J36 g x o S' h' a' w' k l W P' N Hd lft' wt' m' hs'/\w'.length + lft'.length<=w.length + lft.length + 41/\hs'.length<=hs.length + 2
theorem T9 {cs:Fn}(hb:HW cb 3)(hsy:SR cs)(hno:SQ cs)(hv:GJ cv 3):Nq (fnOf 5 14 (Ep cb cs cv)):=by
 intro g x o S h a w k l W P N Hd lft wt m hs cell hg hT two hhs J;have hL:LIM=100000:=rfl;have hT1:∀y∈g,Tin y:=λy hy=>(hT y hy).1;have hgs:=Dw hg J.hh;have same:∃(h' a':Nat) (w':List Nat) (P':Nat) (lft':List Nat) (wt':Nat) (m':D) (hs':List D),J36 g x o S h' a' w' k l W P' N Hd lft' wt' m' hs'/\w'.length + lft'.length<=w.length + lft.length + 41/\hs'.length<=hs.length + 2:=⟨_,_,_,_,_,_,_,_,J,by lia,by lia⟩;refine Ao rfl ?_;unfold Ep;symm;refine Cv J.dn Ij ?_;symm;refine Bg (BP J.hh) ?_;symm;refine IZ ?_;symm;refine BQ (λz=>?_) λz=>?_
 ·have hsx:(Au g h).side≠x:=by simpa using z
  symm;refine (Lg (p:=nfD) (fr:=[]) ?_).mono ?_
  ·intro d hd;obtain ⟨y,hy,rfl⟩:=ul5.mp hd
   cases y with
   | fin=>rw [GS.d];symm;exact ⟨rfl,rfl⟩
   | st s ws=>rw [GS.d];symm;exact ⟨rfl,rfl⟩
  rintro xs t' ⟨rfl,hS⟩;have hS:t'.S=S:=hS;refine Bx (by have:=hg.le;refine ul1 (List.length_filter_le _ _) ?_;rw [uh9,hL];lia) ?_;rw [hS];symm;refine Cn (λr t=>(∀d∈r,∃s ws,GS.st s ws∈g/\d=(GS.st s ws).d)/\∃e6 e7,t=⟨[some (.val (.obj k)),some (.val (.lst (g.map GS.d))),some (.val (.str x)),some (.val (.obj N)),some (.val (.int cell)),some (.val ((Au g h).d)),e6,e7,none,none,none,none,none,none],S⟩) _ _ ⟨λd hd=>?_,_,_,rfl⟩ ?_ ?_
  ·rw [uh6] at hd;obtain ⟨y,hy,rfl⟩:=ul5.mp hd.1
   cases y with
   | fin=>exact absurd hd.2 (by decide +kernel)
   | st s ws=>exact ⟨s,ws,hy,rfl⟩
  ·rintro d r t ⟨hr,e6,e7,rfl⟩ _;obtain ⟨s,ws,hmem,rfl⟩:=hr d ue2;obtain ⟨w0,rest,rfl⟩:∃w0 rest,ws=w0 :: rest:=by
    cases hg.all _ hmem with
    | st _ h2 _ _ _=>
      cases ws with
      | nil=>exact absurd h2 (uj7 0)
      | cons a b=>exact ⟨a,b,rfl⟩
   have hdr:=hT1 _ hmem w0 ue2;rw [GS.d,uj9,wdD];symm;refine (hv _ hdr.dep hdr.ok hdr.nar hdr.tin _ S).mono ?_;rintro r0 S0 ⟨e0,v,lf,rfl,hf⟩;subst e0;symm;refine (hno S0 g x o h a w k l W P w0.1 v hg J.hh two (El 3 _ hdr.dep hdr.ok v hf) (LY hsx) J.sd).use ?_;symm;refine C3 rfl K4 ?_;symm;exact ⟨λd hd=>hr d (ud2 _ hd),_,_,rfl⟩
  ·rintro t ⟨_,e6,e7,rfl⟩;symm;refine (hno S g x o h a w k l W P _ _ hg J.hh two rfl (LY hsx) J.sd).use ?_;symm;refine C3 rfl K4 ?_;exact ⟨rfl,same⟩
 ·have hsx:(Au g h).side=x:=by simpa using z
  obtain ⟨hle,hwt,haw⟩:=J.pd.own two hsx;obtain ⟨ws,p,e,w0,w9,hp,ew,hdr,hpl,hnx⟩:=K0 hg hT1 J.hh two.x hsx cell;have hTN:=hT _ (Il J.hh);have hn3:=(hTN.2 (wdAt g h p) (by rw [e];exact ud4 ew)).1;rw [e,GS.d];symm;rw [uh9];refine Fz (by lia) ?_;symm;rw [hp];refine Bg (Ei ew) ?_;unfold wdD;symm;refine BQ (λz=>?_) λz=>?_
  ·symm;refine (hno S g x o h a w k l W P (wdAt g h p).1 _ hg J.hh two (by decide +kernel) (WG hTN.1) J.sd).use ?_;symm;refine C3 rfl K4 ?_;symm;refine Bx (by rw [show (Str.ofString "z").length=1 by decide +kernel,hL];lia) ?_;symm;refine (hno S g x o h a w k l W P _ .non hg J.hh two rfl (Ys hTN.2) J.sd).use ?_;symm;refine C3 rfl K4 ?_;exact ⟨rfl,same⟩
  ·symm;refine (hv _ hdr.dep hdr.ok hdr.nar hdr.tin _ S).mono ?_;rintro r0 S0 ⟨e0,v,lf,rfl,hf⟩;subst e0;have hm:MvOk g h p v:=⟨J.hh,hpl,hf⟩;obtain ⟨y,hy,hy1,hy0⟩:=KR hg hT1 hm;have hyl:(Ax (wdAt g h p).2.1 v).length + 1=y.length:=by
    have:=congrArg List.length hy;rw [ug4,Br] at this;exact this
   symm;rw [<-hnx];refine Mu J.dn ?_;have d1':=AL (o':=.dct (dD (.int ((nextQ g h p:Nat):Int)) (.lst (wD lft)) (.int (wt:Nat)) m (.obj Hd))) J.dn;have R1:=J.sd.setD (b:=.dct (dD (.int ((nextQ g h p:Nat):Int)) (.lst (wD lft)) (.int (wt:Nat)) m (.obj Hd))) J.dn;have h1:=An (o:=.dct (dD (.int ((nextQ g h p:Nat):Int)) (.lst (wD lft)) (.int (wt:Nat)) m (.obj Hd))) J.dh (Ar J.dn J.dh (by simp));generalize S0.set N (.dct (dD (.int ((nextQ g h p:Nat):Int)) (.lst (wD lft)) (.int (wt:Nat)) m (.obj Hd)))=S1 at d1' R1 h1 ⊢;symm;refine (hsy S1 g x o h a w y k l W P p v hg hm hsx hy (by lia) R1).mono ?_;rintro r1 S2 ⟨rfl,K2,R2⟩;have d2:=K2.get (by rw [ue8];exact Ar d1' R1.ik (by simp)) d1';have h2:=K2.get (by rw [ue8];exact Ar h1 R1.ik (by simp)) h1;symm;refine Jq (k:=Hd) ?_;symm;refine Cv d2 NL ?_;refine ⟨rfl,_,h2,?_⟩;symm;refine ⟨_,hs++[.lst [.lst (wD y),.lst (wD y)]],h2,by simp only [Bu];rw [if_pos (by rw [hL];lia)],?_⟩;symm;refine (hb _ hdr.dep hdr.ok hdr.nar v hf (by lia)).use ?_;symm;refine Bx (by rw [ug4,ui5,hL];lia) ?_;have hrow:[D.int (p:Int)]++Ax (wdAt g h p).2.1 v=wD y:=hy;rw [hrow];refine C3 rfl Jk ?_;refine ⟨rfl,_,_,_,P,_,_,m,_,⟨E1 hg J.hh hpl,R2.setL h2 (Ne.symm J.lh),An d2 (Ar h2 d2 (by simp)),AL h2,J.lh,.none hle hwt haw,λu hu=>?_⟩,by lia,by rw [ue6];show _ + 1<=_;lia⟩;rcases uh7.mp hu with hu | hu
   ·exact J.hl u hu
   ·rw [ue8] at hu;exact ⟨wD y,hu,Jk⟩
theorem S8 (hy:mbQ g h p v=wD y):(Ax (wdAt g h p).2.1 v).length + 1=y.length:=by
 have:=congrArg List.length hy;rw [ug4,Br] at this;exact this
def Ps (BL DJ AY Bh AT:Fn):M Out:=
 (Ae (As 16 (Ac (Ai AT (Ab (Aa 8) (Ab (Ac (Aa 5) (fC (.int 7)) AU) Ad))) (fC (.int 0)) ixD))
 (Ae (ifS (fOr (Aj (Ac (A4 "Side" (Ed DJ) (Aa 0) (Ab (Aa 7) (Ab (Aa 16) Ad))) (Ac (Aq (AB (Ab (Aa 6) Ad))) (Ai AY (Ab (Aa 8) (Ab (Aa 16) Ad))) AG) (eqS λb=>!b))) (Aj (Ac (A4 "Side" Bh (Aa 0) (ret [])) (fB (Ab (Aa 15) Ad) AN) (eqS λb=>!b))))
   (Am (fC (.bl false)))
   Ap)
 (Ae (BD (Aa 13) (C8 (Aa 4) (fC (.str "state"))))
 (Am (Ac (A4 "Side" (Ed BL) (Aa 0) (Ab (Aq (AB Ad)) Ad)) (Aq (AB (Ab (AX (Ab (Aa 3) (Ab (Aa 11) (Ab (Aa 14) Ad)))) Ad))) (eqS id))))))
theorem ZA {cs:Fn}(ht:EU ct)(hs':HY cs)(hb:HW cb 3)(hw':Hn cw)(hv:GJ cv 3){g:List GS}{x o:Str}{S1:List Ob}{h p p2:Nat}{w y2:List Nat}{k l W P1 N Hd:Nat}{m v2:D}{hs:List D}{cell:Int}{e9 e10 e12:Option Sl}(hg:GOk g)(hT:∀y∈g,Tin y)(two:Two x o)(hsx:(Au g h).side=x)(hwl:w.length<=20000)(hh:h < g.length)(hpl:p < (Au g h).ws.length)(hdr:Dr 2 (wdAt g h p).2.1)(hm2:MvOk g (nextQ g h p) p2 v2)(hso:(Au g (nextQ g h p)).side=o)(hnx2:((nextQ g (nextQ g h p) p2:Nat):Int)=(wdAt g (nextQ g h p) p2).2.2)(hy2:mbQ g (nextQ g h p) p2 v2=wD y2)(hy21:y2.length<=41)(R1:InS S1 g x o h w.length (w++y2) k l W P1)(d1':S1[N]?=some (.dct (dD (.int (h:Nat)) (.lst (wD [])) (.int ((0:Nat):Int)) m (.obj Hd))))(h1:S1[Hd]?=some (.lst hs))(lh:l≠Hd)(hhl:∀u∈hs,∃z,u = .lst [.lst z,.lst z]/\eqN EQD (.lst z) (.lst z)=some true) :
 F2.W (Ps ct cs cb cw cv) ⟨[some (.val (.obj k)),some (.val (.lst (g.map GS.d))),some (.val (.str x)),some (.val (.str o)),some (.val (.obj N)),some (.val (.int cell)),some (.val (.int (p:Int))),some (.val (.str (wdAt g h p).1)),some (.val ((wdAt g h p).2.1.d)),e9,e10,some (.val (.str (wdAt g (nextQ g h p) p2).1)),e12,some (.val (.int (wdAt g (nextQ g h p) p2).2.2)),some (.val (v2)),some (.val (.lst (wD y2))),none],S1⟩ λot t=>ot = .ret (.bl true)/\∃(h' a':Nat) (w':List Nat) (P':Nat) (lft':List Nat) (wt':Nat) (m':D) (hs':List D),J36 g x o t.S h' a' w' k l W P' N Hd lft' wt' m' hs'/\w'.length + lft'.length<=w.length + 41/\hs'.length<=hs.length + 2:=by
 have hL:LIM=100000:=rfl;have hn:=E1 hg hh hpl;have hq:((w++y2).length:Int) - (w.length:Int)=(y2.length:Int):=by rw [ue6];lia
 unfold Ps;symm;refine (hv _ hdr.dep hdr.ok hdr.nar hdr.tin _ S1).mono ?_;rintro r2 S2 ⟨e0,v,lf2,rfl,hf⟩;subst e0;have hm:MvOk g h p v:=⟨hh,hpl,hf⟩;obtain ⟨y,hy,hy1,hy0⟩:=KR hg hT hm;have hyl:=S8 hy;symm;refine ⟨k,_,rfl,R1.ik,?_⟩;symm;refine KQ ?_;refine (hs' S2 g x o h w.length (w++y2) y k l W P1 p v hg hm hsx hy (by lia) R1).mono ?_;rintro r3 S3 ⟨rfl,K3,R3⟩;refine ⟨rfl,?_⟩;have d3:=K3.get (by rw [ue8];exact Ar d1' R1.ik (by simp)) d1';have h3:=K3.get (by rw [ue8];exact Ar h1 R1.ik (by simp)) h1;symm;refine (hb _ hdr.dep hdr.ok hdr.nar v hf (by lia)).use ?_;symm;refine Bx (by rw [ug4,ui5,hL];lia) ?_;have hrow:[D.int (p:Int)]++Ax (wdAt g h p).2.1 v=wD y:=hy;rw [hrow];refine C3 rfl Jk ?_;symm;refine ⟨k,_,rfl,R3.ik,W_ret.mpr ?_⟩;refine (hw' two R3).use ?_;rw [hq];symm;rw [Br];refine DF (by simp) ?_;symm;rw [<-hnx2];refine Mu d3 ?_;have d4:=AL (o':=.dct (dD (.int ((nextQ g (nextQ g h p) p2:Nat):Int)) (.lst (wD [])) (.int ((0:Nat):Int)) m (.obj Hd))) d3;have R4:=R3.setD (b:=.dct (dD (.int ((nextQ g (nextQ g h p) p2:Nat):Int)) (.lst (wD [])) (.int ((0:Nat):Int)) m (.obj Hd))) d3;have h4:=An (o:=.dct (dD (.int ((nextQ g (nextQ g h p) p2:Nat):Int)) (.lst (wD [])) (.int ((0:Nat):Int)) m (.obj Hd))) h3 (Ar d3 h3 (by simp));generalize S3.set N (.dct (dD (.int ((nextQ g (nextQ g h p) p2:Nat):Int)) (.lst (wD [])) (.int ((0:Nat):Int)) m (.obj Hd)))=S4 at d4 R4 h4 ⊢;symm;refine ⟨k,_,rfl,R4.ik,?_⟩;symm;refine KQ ?_;obtain ⟨a1,b1,hw1,hon⟩:=Qn hg two.o (w:=w) hm2 hso hy2;rw [<-ui1 (w++y2)] at hw1;refine (ht S4 g x o (nextQ g h p) w.length (w++y2) [] k l W P1 _ _ a1 b1 hg two hn (by rw [ue6];lia) (by rw [ui1,ue6];lia) hw1 R4).mono ?_;rintro r5 S5 ⟨rfl,K5,P5,R5⟩;refine ⟨rfl,?_⟩;rw [hon,ui1] at R5;have d5:=K5.get (by simp only [uj8,uh3,or_false,not_or];exact ⟨Ar d4 R4.ik (by simp),Ar d4 R4.il (by simp)⟩) d4;have h5:=K5.get (by simp only [uj8,uh3,or_false,not_or];exact ⟨Ar h4 R4.ik (by simp),Ne.symm lh⟩) h4;have hmsg:D.tup [.str o,.str (wdAt g (nextQ g h p) p2).1,v2]=Do g (nextQ g h p) p2 v2:=by unfold Do;rw [hso]
 symm;rw [hmsg];refine C3 rfl (Th hg hm2) ?_;exact ⟨rfl,_,_,w++y2,P5,[],0,m,hs,⟨E1 hg hn hm2.pl,R5,d5,h5,lh,.none rfl rfl rfl,hhl⟩,by rw [ue6];show _ + _ + 0<=_;lia,by lia⟩
def Np (f:Fn):Prop:=∀{g:List GS} {x o:Str} {S:List Ob} {h a:Nat} {w:List Nat} {k l W P N Hd:Nat} {lft:List Nat} {wt:Nat} {m:D} {hs:List D} (cell:Int),GOk g->(∀y∈g,Tin y)->Two x o->(Au g h).side=x->w.length + lft.length<=20000->J36 g x o S h a w k l W P N Hd lft wt m hs->
 Wf f [.obj k,.lst (g.map GS.d),.str x,.str o,.obj N,.int cell] S λr S'=>r = .bl true/\∃(h' a':Nat) (w':List Nat) (P':Nat) (lft':List Nat) (wt':Nat) (m':D) (hs':List D),J36 g x o S' h' a' w' k l W P' N Hd lft' wt' m' hs'/\w'.length + lft'.length<=w.length + lft.length + 41/\hs'.length<=hs.length + 2
theorem T8 {cs:Fn}(ht:EU ct)(hs':HY cs)(hb:HW cb 3)(hw':Hn cw)(hv:GJ cv 3):Np (fnOf 6 17 (EM ct cs cb cw cv (fnOf 1 1 BS))):=by
 intro g x o S h a w k l W P N Hd lft wt m hs cell hg hT two hsx hwl J;have hL:LIM=100000:=rfl;obtain ⟨hle,hwt,haw⟩:=J.pd.own two hsx;subst hle hwt haw;obtain ⟨ws,p,e,w0,w9,hp,ew,hdr,hpl,hnx⟩:=K0 hg hT J.hh two.x hsx cell;have hn:=E1 hg J.hh hpl;refine Ao rfl ?_;unfold EM;symm;refine Cv J.dn Ij ?_;symm;refine Bg (BP J.hh) ?_;rw [e,GS.d];symm;rw [uh9];refine Fz (by lia) ?_;symm;refine Cv J.dn Ij ?_;symm;refine Bg (BP J.hh) ?_;rw [e,GS.d];symm;rw [hp];refine Bg (Ei ew) ?_;unfold wdD;symm;rw [<-hnx];refine Bg (BP hn) ?_;symm;refine IZ ?_;symm;refine BQ (λz=>?_) λz=>?_
 ·symm;exact ⟨rfl,_,_,_,_,_,_,_,_,J,by lia,by lia⟩
 have hso:(Au g (nextQ g h p)).side=o:=by simpa using z
 obtain ⟨ws2,p2,e2,v0,v9,hp2,ew2,hdr2,hpl2,hnx2⟩:=K0 hg hT hn two.o hso (cell / 3);symm;refine Bg (BP hn) ?_;rw [e2,GS.d];symm;rw [uh9];refine Fz (by lia) ?_;symm;refine Bg (BP hn) ?_;rw [e2,GS.d];symm;rw [hp2];refine Bg (Ei ew2) ?_;unfold wdD;symm;refine (hv _ hdr2.dep hdr2.ok hdr2.nar hdr2.tin _ S).mono ?_;rintro r0 S0 ⟨e0,v2,lf,rfl,hf2⟩;subst e0;have hm2:MvOk g (nextQ g h p) p2 v2:=⟨hn,hpl2,hf2⟩;obtain ⟨y2,hy2,hy21,hy20⟩:=KR hg hT hm2;have hyl2:=S8 hy2;symm;refine (hb _ hdr2.dep hdr2.ok hdr2.nar v2 hf2 (by lia)).use ?_;symm;refine Bx (by rw [ug4,ui5,hL];lia) ?_;have hrow2:[D.int (p2:Int)]++Ax (wdAt g (nextQ g h p) p2).2.1 v2=wD y2:=hy2;rw [hrow2];symm;refine ⟨k,_,rfl,J.sd.ik,?_⟩;symm;refine KQ ?_;refine (ht S0 g x o h w.length w y2 k l W P [] h (onS o w.length 0) (onS o 0 w.length) hg two J.hh (ul9 _) (by rw [ue6];lia) (Ms (Gv hg two.o J.hh (by rw [hsx];exact two.ne)) _) J.sd).mono ?_;rintro r1 S1 ⟨rfl,K1,P1,R1⟩;refine ⟨rfl,?_⟩;rw [G6] at R1;have d1':=K1.get (by simp only [uj8,uh3,or_false,not_or];exact ⟨Ar J.dn J.sd.ik (by simp),Ar J.dn J.sd.il (by simp)⟩) J.dn;have h1:=K1.get (by simp only [uj8,uh3,or_false,not_or];exact ⟨Ar J.dh J.sd.ik (by simp),Ne.symm J.lh⟩) J.dh;symm;refine ⟨k,_,rfl,R1.ik,W_ret.mpr ?_⟩;refine (hw' two R1).use ?_;have hq:((w++y2).length:Int) - (w.length:Int)=(y2.length:Int):=by rw [ue6];lia
 rw [hq];symm;rw [Br];refine DF (by simp) ?_;symm;refine ⟨k,_,rfl,R1.ik,W_ret.mpr ?_⟩;refine (Qc R1).use ?_;symm;refine Cv d1' Ij ?_;symm;refine DF (by simp) ?_;refine Op ?_;refine Bi ?_;refine (ZA ht hs' hb hw' hv hg hT two hsx (by lia) J.hh hpl hdr hm2 hso hnx2 hy2 hy21 R1 d1' h1 J.lh J.hl).mono ?_;rintro ot t ⟨rfl,q⟩;exact ⟨rfl,q⟩
theorem Qo {k:Nat}(w:F2.W f t λo t1=>o = .obj k/\t1.S[k]?=some (.lst xs)/\P .non ⟨t1.env,t1.S.set k (.lst [])⟩):F2.W (L4 f) t P:=by
 refine B1 (w.mono λo t1 z=>?_);obtain ⟨rfl,e,p⟩:=z;exact ⟨_,_,by simp only [e],p⟩
theorem GRn.set0 {o:Ob}(r:GRn 1 S ds g):GRn 1 (S.set 0 o) ds g:=by
 induction r with
 | nil=>exact .nil
 | fin _ ih=>exact .fin ih
 | st e l _ ih=>exact .st (An e (by lia)) l ih
theorem GRn.snoc {d:D}{y:GS}(r:GRn 1 S ds g)(h:GRn 1 S [d] [y]):GRn 1 S (ds++[d]) (g++[y]):=by
 induction r with
 | nil=>exact h
 | fin _ ih=>exact .fin ih
 | st e l _ ih=>exact .st e l ih
def HdO (S:List Ob)(l:Nat)(d:D):Prop:=d = .tup [.str (Str.ofString "end")]\/∃(s:Str) (j:Nat) (xs:List D),d = .tup [.str s,.obj j]/\s≠Str.ofString "end"/\S[j]?=some (.lst xs)/\j≠0/\j≠l
theorem HdO.set {S:List Ob}{l i:Nat}{d:D}(h:HdO S l d):HdO (S.set i (.lst [])) l d:=by
 rcases h with h | ⟨s,j,xs,h1,h2,h3,h4⟩
 ·exact .inl h
 ·by_cases z:i=j
  ·subst z;exact .inr ⟨s,i,_,h1,h2,AL h3,h4⟩
  ·exact .inr ⟨s,j,xs,h1,h2,An h3 z,h4⟩
theorem GRn.hdo {n:Int}(r:GRn 1 S ds g)(hg:∀y∈g,GSOk n y)(hk:∀i,i < S.length->S'[i]?=S[i]?)(hl:S.length<=l):∀d∈ds,HdO S' l d:=by
 induction r with
 | nil=>exact λ_ h=>nomatch h
 | fin _ ih=>
   intro d hd;rcases uj8.mp hd with rfl | hd
   ·exact .inl rfl
   ·exact ih (λy hy=>hg y (ud2 _ hy)) d hd
 | st e hj _ ih=>
   intro d hd;rcases uj8.mp hd with rfl | hd
   ·have lj:=BW e;refine .inr ⟨_,_,_,rfl,?_,(hk _ lj).trans e,by lia,by lia⟩
    cases hg _ ue2 with
    | st h1 _ _ _ _=>rcases h1 with q | q <;> (rw [q];decide +kernel)
   ·exact ih (λy hy=>hg y (ud2 _ hy)) d hd
theorem Pb {gd:Gd}{S:List Ob}(hg:Gon gd S):∀(hs:List D) (z0:Option Sl),(∀u∈hs,∃z,u = .lst [.lst z,.lst z]/\eqN EQD (.lst z) (.lst z)=some true)->F2.W (compG gd (Ay 0) (Aj (Ac (Ac (Aa 0) (fC (.int 0)) ixD) (Ac (Aa 0) (fC (.int 1)) ixD) (eqS λb=>!b))) (Aa 0) hs) ⟨[z0],S⟩ λxs t'=>xs=[]/\t'.S=S
 | [],z0,_=>HL hg ⟨rfl,rfl⟩
 | u :: r,z0,h=>by
   refine E8 hg ?_;obtain ⟨z,rfl,e⟩:=h u ue2;symm;refine C3 rfl e ?_;symm;rw [if_neg (by decide)];exact Pb hg r _ λu hu=>h u (ud2 _ hu)
def Jd (B6 Bh EH FI Fa Bv:Fn):M Out:=
 (Ae (As 9 (Ai Bv (Ab (Aa 0) (Ab (Aa 8) Ad))))
 (Ae (ifS (Fe (Aj (Ac (Ac (Aa 9) (fC (.int 10)) Ba) (fC (.int 4)) (eqS id))) (Aj (Ac (Ac (Ac (Aa 1) (Ac (Aa 7) (fC (.str "state")) AW) ixD) (fC (.int 0)) ixD) (Aa 2) (eqS id))))
   (ifS (BT (Aj (Ai EH (Ab (Aa 6) (Ab (Aa 1) (Ab (Aa 2) (Ab (Aa 3) (Ab (Aa 7) (Ab (Ac (Aa 9) (fC (.int 10)) AU) Ad)))))))))
   (Am (fC (.bl false)))
   Ap)
   (ifS (Aj (Ac (Ac (Aa 9) (fC (.int 2)) Ba) (fC (.int 0)) (eqS id)))
   (ifS (BT (Aj (Ai FI (Ab (Aa 6) (Ab (Aa 1) (Ab (Aa 2) (Ab (Aa 7) (Ab (Ac (Aa 9) (fC (.int 2)) AU) Ad))))))))
   (Am (fC (.bl false)))
   Ap)
   (ifS (BT (Aj (Ai Fa (Ab (Aa 6) (Ab (Aa 1) (Ab (Aa 3) (Ab (Aa 7) (Ab (Ac (Aa 9) (fC (.int 2)) AU) Ad))))))))
   (Am (fC (.bl false)))
   Ap)))
 (ifS (fOr (Aj (Ac (A4 "Side" B6 (Aa 6) (ret [])) (Ac (Aa 7) (fC (.str "state")) AW) (eqS λb=>!b))) (Aj (Ac (A4 "Side" Bh (Aa 6) (ret [])) (Ac (Aa 7) (fC (.str "wait")) AW) (eqS λb=>!b))))
   (Am (fC (.bl false)))
   Ap)))
theorem Rj (hw:Hn cw)(he:Np ce)(ho:Nq co)(ht:La ct)(hc:KO cc){ns:List Int}{g:List GS}(hg:GOk g)(hT:∀y∈g,Tin y/\N9 y){x o:Str}(two:Two x o){S:List Ob}{h a:Nat}{w:List Nat}{k l W P N Hd:Nat}{lft:List Nat}{wt:Nat}{m:D}{hs:List D}{j:Nat}{e5 e9:Option Sl}(hj:j<=100)(hwl:w.length + lft.length<=20000)(hhs:hs.length<=500)(J:J36 g x o S h a w k l W P N Hd lft wt m hs) :
 F2.W (Jd (fnOf 1 1 BS) cw ce co ct cc) ⟨[some (.val (.scr ns)),some (.val (.lst (g.map GS.d))),some (.val (.str x)),some (.val (.str o)),some (.val (.obj 0)),e5,some (.val (.obj k)),some (.val (.obj N)),some (.val (.int (11 + (j:Int)))),e9],S⟩ λot t=>ot = .next/\∃(h' a':Nat) (w':List Nat) (P':Nat) (lft':List Nat) (wt':Nat) (m':D) (hs':List D) (S':List Ob) (cell:Int),J36 g x o S' h' a' w' k l W P' N Hd lft' wt' m' hs'/\w'.length + lft'.length<=w.length + lft.length + 41/\hs'.length<=hs.length + 2/\t=⟨[some (.val (.scr ns)),some (.val (.lst (g.map GS.d))),some (.val (.str x)),some (.val (.str o)),some (.val (.obj 0)),e5,some (.val (.obj k)),some (.val (.obj N)),some (.val (.int (11 + (j:Int)))),some (.val (.int cell))],S'⟩:=by
 obtain ⟨cell,hcell⟩:=hc ns (11 + (j:Int)) (by lia) (by lia);unfold Jd;refine Ki ?_;refine XW ?_;refine HH ?_;symm;refine hcell.use ?_;refine Bi ?_;refine Ki ?_;refine F2.W.mono (P:=λot t=>ot = .next/\∃(h' a':Nat) (w':List Nat) (P':Nat) (lft':List Nat) (wt':Nat) (m':D) (hs':List D) (S':List Ob),J36 g x o S' h' a' w' k l W P' N Hd lft' wt' m' hs'/\w'.length + lft'.length<=w.length + lft.length + 41/\hs'.length<=hs.length + 2/\t=⟨[some (.val (.scr ns)),some (.val (.lst (g.map GS.d))),some (.val (.str x)),some (.val (.str o)),some (.val (.obj 0)),e5,some (.val (.obj k)),some (.val (.obj N)),some (.val (.int (11 + (j:Int)))),some (.val (.int cell))],S'⟩) ?_ ?_
 ·refine wIf ?_;refine F2.W.mono (P:=λb t'=>t'=⟨[some (.val (.scr ns)),some (.val (.lst (g.map GS.d))),some (.val (.str x)),some (.val (.str o)),some (.val (.obj 0)),e5,some (.val (.obj k)),some (.val (.obj N)),some (.val (.int (11 + (j:Int)))),some (.val (.int cell))],S⟩/\(b=true->(Au g h).side=x)) ?_ ?_
  ·symm;refine BQ (λz=>?_) λz=>?_
   ·symm;refine Cv J.dn Ij ?_;symm;refine Bg (BP J.hh) ?_;symm;refine IZ ?_;symm;exact ⟨rfl,λq=>by simpa using q⟩
   ·exact ⟨rfl,λq=>by cases q⟩
  rintro b t' ⟨rfl,hb⟩;refine BQ (λz=>?_) λz=>?_
  ·symm;refine (he (cell / 10) hg (λy hy=>(hT y hy).1) two (hb z) hwl J).mono ?_;rintro r S' ⟨rfl,h',a',w',P',lft',wt',m',hs',J',q1,q2⟩;symm;exact ⟨rfl,h',a',w',P',lft',wt',m',hs',S',J',q1,q2,rfl⟩
  ·symm;refine BQ (λz=>?_) λz=>?_
   ·symm;refine (ho (cell / 2) hg hT two hhs J).mono ?_;rintro r S' ⟨rfl,h',a',w',P',lft',wt',m',hs',J',q1,q2⟩;symm;exact ⟨rfl,h',a',w',P',lft',wt',m',hs',S',J',q1,q2,rfl⟩
   ·symm;refine (ht (cell / 2) hg (λy hy=>(hT y hy).1) two hwl hhs J).mono ?_;rintro r S' ⟨rfl,h',a',w',P',lft',wt',m',hs',J',q1,q2⟩;symm;exact ⟨rfl,h',a',w',P',lft',wt',m',hs',S',J',q1,q2,rfl⟩
 rintro ot t' ⟨rfl,h',a',w',P',lft',wt',m',hs',S',J',q1,q2,rfl⟩;refine Bi ?_;symm;refine ⟨k,_,rfl,J'.sd.ik,W_ret.mpr ?_⟩;refine (Qc J'.sd).use ?_;symm;refine Cv J'.dn Ij ?_;symm;refine DF (by simp) ?_;symm;refine ⟨k,_,rfl,J'.sd.ik,W_ret.mpr ?_⟩;refine (hw two J'.sd).use ?_;have hq:(w'.length:Int) - (a':Int)=(wt':Int):=by have:=J'.pd.le;lia
 rw [hq];symm;refine Cv J'.dn Wl ?_;symm;refine DF (by simp) ?_;symm;exact ⟨rfl,h',a',w',P',lft',wt',m',hs',S',cell,J',q1,q2,rfl⟩
theorem Yp {cos cg:Fn}(hw:Hn cw)(he:Np ce)(ho:Nq co)(ht:La ct)(hc:KO cc)(hos:Hj cos)(hgr:GrN cg){ns:List Int}(hns:ns.length<=63) :
 Wf (fnOf 1 10 (G1 (fnOf 1 1 BS) cw ce co ct cc (fnOf 3 3 (DQ cos (fnOf 3 4 (Cc (fnOf 1 1 (Co (fnOf 1 1 Dl))))))) cg)) [.scr ns] [] λr _=>r = .bl true:=by
 have hL:LIM=100000:=rfl;obtain ⟨c0,h0⟩:=hc ns 1 (by decide) (by decide);refine Ao rfl ?_;unfold G1;symm;refine (hgr ns []).mono ?_;rintro r S0 ⟨e0,g,rfl,hg,hg6,hT⟩;subst e0;obtain ⟨x,o,ex,eo,two⟩:∃x o:Str,atI [D.str (Str.ofString "left"),.str (Str.ofString "right")] (c0 % 2)=some (.str x)/\atI [D.str (Str.ofString "right"),.str (Str.ofString "left")] (c0 % 2)=some (.str o)/\Two x o:=by
  have:c0 % 2=0\/c0 % 2=1:=by lia
  rcases this with e | e
  ·rw [e];exact ⟨sL,sR,rfl,rfl,.inl ⟨rfl,rfl⟩⟩
  ·rw [e];exact ⟨sR,sL,rfl,rfl,.inr ⟨rfl,rfl⟩⟩
 symm;refine h0.use ?_;symm;refine Bg ex ?_;symm;refine h0.use ?_;symm;refine Bg eo ?_;symm;refine Cn (λr t=>∃(dn rs:List GS) (ds:List D) (S:List Ob) (e5:Option Sl),g=dn++rs/\r=rs.map GS.d/\S[0]?=some (.lst ds)/\GRn 1 S ds dn/\t=⟨[some (.val (.scr ns)),some (.val (.lst (g.map GS.d))),some (.val (.str x)),some (.val (.str o)),some (.val (.obj 0)),e5,none,none,none,none],S⟩) _ _ ⟨[],g,[],_,none,rfl,rfl,rfl,.nil,rfl⟩ ?_ ?_
 ·rintro d r t ⟨dn,rs,ds,S,e5,hgd,hr,hS,hG,rfl⟩ _
  cases rs with
  | nil=>cases hr
  | cons y rs=>
    rw [uj9] at hr;injection hr with h1 h2
    subst h1 h2;have hlen:=hG.length;have hdl:dn.length<=6:=by rw [hgd,ue6] at hg6;lia
    have hy:=hg.all y (by rw [hgd];simp);have hS0:=BW hS;symm;refine Jq (k:=0) ?_;symm;refine ⟨rfl,_,hS,?_⟩
    cases y with
    | fin=>
      rw [GS.d];symm;refine ⟨_,ds++[.tup [.str (Str.ofString "end")]],hS,by simp only [Bu];rw [if_pos (by rw [hL];lia)],?_⟩;symm;exact ⟨dn++[.fin],rs,_,_,_,by rw [hgd,uf6];rfl,rfl,AL hS,(hG.set0).snoc (.fin .nil),rfl⟩
    | st s ws=>
      have hse:s≠Str.ofString "end":=by
       cases hy with
       | st h1 _ _ _ _=>rcases h1 with q | q <;> (rw [q];decide +kernel)
      rw [GS.d];symm;refine DF (by simp [hse]) ?_;symm;refine ⟨_,ds++[.tup [.str s,.obj S.length]],BE hS,by simp only [Bu];rw [if_pos (by rw [hL];lia)],?_⟩;symm;exact ⟨dn++[.st s ws],rs,_,_,_,by rw [hgd,uf6];rfl,rfl,AL (BE hS),((hG.gr Gr.app).set0).snoc (.st (An Dv (by lia)) (by lia) .nil),rfl⟩
 rintro t ⟨dn,rs,ds,S,e5,hgd,hr,hS,hG,rfl⟩;have hrs:rs=[]:=by
  cases rs with
  | nil=>rfl
  | cons _ _=>cases hr
 subst hrs;rw [ui1] at hgd;subst hgd;have hS0:=BW hS;symm;refine (Xv (n:="Side") (S:=S++[.ins "Side" []]) (k:=S.length) hos two (Pa g _ 0 1 ds hg (BE hS) (hG.gr Gr.app)) Dv).mono ?_;rintro r S1 ⟨rfl,W,P,l,H⟩;refine ⟨rfl,?_⟩;have hgl:=H.gl;rw [ue6] at hgl;have hgl:S.length + 1<=l:=hgl;have hkp:∀i,i < S.length->S1[i]?=S[i]?:=λi hi=>by rw [H.kp.2 i (by rw [ue6];lia) (by lia),ub0 hi]
 have R1:InS S1 g x o 0 0 [] S.length l W P:=⟨H.ik,H.iw,H.ip,H.il,by decide⟩;have hS1:=(hkp 0 hS0).trans hS;have hho:=hG.hdo (l:=l) hg.all hkp (by lia);generalize hk:S.length=k at R1 ⊢;have hdl:ds.length<=6:=by rw [hG.length];exact hg6
 refine Bi ?_;refine Ki ?_;refine XR (SI ?_);symm;refine Ol hS1 ?_;refine Jv (λr t=>∃(S2:List Ob) (e5:Option Sl),S2[0]?=some (.lst ds)/\InS S2 g x o 0 0 [] k l W P/\(∀d∈r,HdO S2 l d)/\t=⟨[some (.val (.scr ns)),some (.val (.lst (g.map GS.d))),some (.val (.str x)),some (.val (.str o)),some (.val (.obj 0)),e5,some (.val (.obj k)),none,none,none],S2⟩) (λr t h=>?_) _ _ ⟨S1,_,hS1,R1,hho,rfl⟩ ?_ ?_
 ·obtain ⟨S2,e5,h1,_,_,rfl⟩:=h;exact Ik h1
 ·rintro d r t ⟨S2,e5,hz,R2,hr,rfl⟩;rcases hr d ue2 with rfl | ⟨s,j,xs,rfl,hse,hj,j0,jl⟩
  ·symm;exact ⟨S2,_,hz,R2,λd hd=>hr d (ud2 _ hd),rfl⟩
  ·symm;refine Em (by simp [hse]) ?_;symm;refine Qo (k:=j) (xs:=xs) ?_;symm;refine ⟨rfl,hj,?_⟩;symm;exact ⟨_,_,An hz j0,R2.setL hj jl,λd hd=>(hr d (ud2 _ hd)).set,rfl⟩
 rintro t ⟨S2,e5,hz,R2,_,rfl⟩;refine Bi ?_;symm;refine Qo (k:=0) (xs:=ds) ?_;symm;refine ⟨rfl,hz,?_⟩;have R3:=R2.setL (b:=.lst []) hz (by lia);generalize S2.set 0 (.lst [])=S3 at R3 ⊢;symm;refine Y0 ?_;refine Eg ?_;symm;refine Eg ?_;symm;refine Eg ?_;symm;refine Eg ?_;symm;refine Eg ?_;symm;refine Qs ?_;refine ⟨BE Dv,by show 5<=15;decide,?_⟩;obtain ⟨N,hN⟩:∃N,N=S3.length:=⟨_,rfl⟩;obtain ⟨Hd,hHd⟩:∃Hd,Hd=(S3++[Ob.dct []]).length:=⟨_,rfl⟩;have hNH:Hd=N + 1:=by rw [hHd,ue6,hN];rfl
 have ll:=BW R3.il;have J0:J36 g x o ((S3++[Ob.dct []]++[Ob.lst []]).set N (.dct (dD (.int ((0:Nat):Int)) (.lst (wD [])) (.int ((0:Nat):Int)) .non (.obj Hd)))) 0 0 [] k l W P N Hd [] 0 .non []:=by
  have e1:(S3++[Ob.dct []]++[Ob.lst []])[N]?=some (.dct []):=by rw [hN];exact BE Dv
  refine ⟨hg.ne,?_,AL e1,?_,by lia,.none rfl rfl rfl,λ_ z=>nomatch z⟩
  ·have q:=(R3.gr (Gr.app:Gr S3 (S3++[Ob.dct []]))).gr (Gr.app:Gr (S3++[Ob.dct []]) (S3++[Ob.dct []]++[Ob.lst []]));have lk:=BW R3.ik;have lW:=BW R3.iw;have lP:=BW R3.ip;exact ⟨An q.ik (by lia),An q.iw (by lia),An q.ip (by lia),An q.il (by lia),q.el⟩
  ·rw [hHd];exact An Dv (by lia)
 refine Bi ?_;show F2.W _ ⟨[some (.val (.scr ns)),some (.val (.lst (g.map GS.d))),some (.val (.str x)),some (.val (.str o)),some (.val (.obj 0)),e5,some (.val (.obj k)),some (.val (.obj S3.length)),none,none],(S3++[Ob.dct []]++[Ob.lst []]).set S3.length (.dct (D1 [(k5S,.int ((0:Nat):Int)),(k5L,.lst (wD [])),(k5W,.int ((0:Nat):Int)),(k5M,.non),(k5H,.obj (S3++[Ob.dct []]).length)]))⟩ _;rw [ZN,<-hN,<-hHd];generalize (S3++[Ob.dct []]++[Ob.lst []]).set N (.dct (dD (.int ((0:Nat):Int)) (.lst (wD [])) (.int ((0:Nat):Int)) .non (.obj Hd)))=S4 at J0 ⊢;symm;obtain ⟨mx,hmx,h14,h41⟩:∃mx:Int,mx=(if (if 41 < (ns.length:Int) then 41 else (ns.length:Int)) > 14 then (if 41 < (ns.length:Int) then 41 else (ns.length:Int)) else 14)/\14<=mx/\mx<=41:=⟨_,rfl,by split <;> split <;> lia,by split <;> split <;> lia⟩;rw [<-hmx];refine SL (by rw [BH (by decide) (by decide),BH (by lia) (by lia)];rfl) ?_;refine Cn (λr t=>∃(j h a:Nat) (w:List Nat) (P:Nat) (lft:List Nat) (wt:Nat) (m:D) (hs:List D) (S:List Ob) (e5 e8 e9:Option Sl),r=(A7 11 (mx - 11).toNat).drop j/\J36 g x o S h a w k l W P N Hd lft wt m hs/\w.length + lft.length<=41 * j/\hs.length<=2 * j/\t=⟨[some (.val (.scr ns)),some (.val (.lst (g.map GS.d))),some (.val (.str x)),some (.val (.str o)),some (.val (.obj 0)),e5,some (.val (.obj k)),some (.val (.obj N)),e8,e9],S⟩) _ _ ⟨0,0,0,[],P,[],0,.non,[],S4,e5,none,none,rfl,J0,ul9 _,ul9 _,rfl⟩ ?_ ?_
 ·rintro d r t ⟨j,h,a,w,P,lft,wt,m,hs,S,e5,e8,e9,hr,J,b1,b2,rfl⟩ _;obtain ⟨rfl,hr2,hlt⟩:=Ew hr;refine Kg ?_;refine (Rj (j:=j) (e5:=e5) (e9:=e9) hw he ho ht hc hg hT two (by lia) (by lia) (by lia) J).mono ?_;rintro ot t' ⟨rfl,h',a',w',P',lft',wt',m',hs',S',cell,J',q1,q2,rfl⟩;exact ⟨j + 1,h',a',w',P',lft',wt',m',hs',S',_,_,_,hr2,J',by lia,by lia,rfl⟩
 ·rintro t ⟨j,h,a,w,P,lft,wt,m,hs,S,e5,e8,e9,hr,J,b1,b2,rfl⟩;symm;refine Qp ?_;refine SI ?_;symm;refine Cv J.dn NL ?_;refine Ol J.dh ?_;refine (Pb (Ik J.dh) hs none J.hl).mono ?_;rintro xs t' ⟨rfl,et⟩;refine Bx (um0 _) ?_;symm;rfl
end LW
set_option maxHeartbeats 4000000
namespace F2
open PySem L2 PySem.Spec PySem.W
theorem RD {k:Kd}{P:Program}{w:World}{K:PySem.W.Frag}{mg:Str->Option Value}{base:Heap}{n:Nat}{fa:Addr}{fd:FuncData}{ps:List Str}:okK k P w K mg base n fa fd ps (λ_ _=>none):=by
 cases k <;> exact ⟨λvs H Q E h=>(by obtain ⟨c,ds,S,_,_,r,S',e,_⟩:=h;cases e),λA' outer s H args us vs Q E _ _ _ _ h=>(by obtain ⟨c,ds,S,_,_,r,S',e,_⟩:=h;cases e)⟩
theorem us0 {n:Nat}:∀{us:List Value},us.length=n + 1->∃a vs,us=a :: vs/\vs.length=n
 | _ :: _,h=>⟨_,_,rfl,Nat.succ.inj h⟩
variable {us:List Value}
theorem us1 (h:us.length=1):∃a,us=[a]:=by
 obtain ⟨a,vs,rfl,q⟩:=us0 h;exact ⟨a,by rw [ua2 q]⟩
theorem us2 (h:us.length=2):∃a b,us=[a,b]:=by
 obtain ⟨_,vs,rfl,q⟩:=us0 h;obtain ⟨_,rfl⟩:=us1 q;exact ⟨_,_,rfl⟩
theorem us3 (h:us.length=3):∃a b c,us=[a,b,c]:=by
 obtain ⟨_,vs,rfl,q⟩:=us0 h;obtain ⟨_,_,rfl⟩:=us2 q;exact ⟨_,_,_,rfl⟩
theorem us4 (h:us.length=4):∃a b c d,us=[a,b,c,d]:=by
 obtain ⟨_,vs,rfl,q⟩:=us0 h;obtain ⟨_,_,_,rfl⟩:=us3 q;exact ⟨_,_,_,_,rfl⟩
theorem us5 (h:us.length=5):∃a b c d e,us=[a,b,c,d,e]:=by
 obtain ⟨_,vs,rfl,q⟩:=us0 h;obtain ⟨_,_,_,_,rfl⟩:=us4 q;exact ⟨_,_,_,_,_,rfl⟩
theorem us6 (h:us.length=6):∃a b c d e f,us=[a,b,c,d,e,f]:=by
 obtain ⟨_,vs,rfl,q⟩:=us0 h;obtain ⟨_,_,_,_,_,rfl⟩:=us5 q;exact ⟨_,_,_,_,_,_,rfl⟩
theorem us7 (h:us.length=7):∃a b c d e f g,us=[a,b,c,d,e,f,g]:=by
 obtain ⟨_,vs,rfl,q⟩:=us0 h;obtain ⟨_,_,_,_,_,_,rfl⟩:=us6 q;exact ⟨_,_,_,_,_,_,_,rfl⟩
end F2
namespace K36
open PySem L2 F2 LW
inductive Fx where
 | D7 | Cb | A5 | D8 | Ca | CH | CD | CF | BU | BR | BK | BM | Cw | Dx | BO | Bf | By | BB | CJ | Bl | Ch | Bs | B0 | CS | Dt | CP | CQ | BZ | Bp | Dq | BC | Bt | B8 | Cj | BI | Bk | Bd | Bj | BA | Df | De | Ci | CB | law_ | AA | AC | AI | Av | AM | AK | AO | AQ | AJ | Az | A6 | AH | AS
noncomputable def top (i:Nat):Stmt:=PySem.Challenge.pw_wireparley_k36_sides_say_and_take.main.body.getD i (.Pass ⟨0,0,0,0⟩)
noncomputable abbrev nm:Fx->Str
 | .D7=>"_wall"
 | .Cb=>"is_number"
 | .A5=>"is_number_within"
 | .D8=>"fits"
 | .Ca=>"fits_text"
 | .CH=>"is_sign"
 | .CD=>"fits_list"
 | .CF=>"fits_pair"
 | .BU=>"fits_choice"
 | .BR=>"state_next"
 | .BK=>"place_said"
 | .BM=>"place_named"
 | .Cw=>"words_of"
 | .Dx=>"is_end"
 | .BO=>"grammar_copy"
 | .Bf=>"fitting_bytes"
 | .By=>"width_up_to"
 | .BB=>"number_bytes"
 | .CJ=>"leading"
 | .Bl=>"read_value"
 | .Ch=>"byte_at"
 | .Bs=>"byte_up_to"
 | .B0=>"read_number"
 | .CS=>"read_text"
 | .Dt=>"sign_at"
 | .CP=>"read_list"
 | .CQ=>"read_pair"
 | .BZ=>"read_choice"
 | .Bp=>"message_bytes"
 | .Dq=>"read_on"
 | .BC=>"read_message"
 | .Bt=>"other_side"
 | .B8=>"_law_cell"
 | .Cj=>"_law_mixed"
 | .BI=>"_law_shape"
 | .Bk=>"_law_value"
 | .Bd=>"_law_number_bytes"
 | .Bj=>"_law_bytes"
 | .BA=>"_law_grammar"
 | .Df=>"_law_say"
 | .De=>"_law_own"
 | .Ci=>"_law_early"
 | .CB=>"_law_take"
 | .law_=>"law"
 | .AA=>"__init__"
 | .AC=>"state"
 | .AI=>"hear"
 | .Av=>"unread_of"
 | .AM=>"__init__"
 | .AK=>"say"
 | .AO=>"take"
 | .AQ=>"speak"
 | .AJ=>"listen"
 | .Az=>"waiting"
 | .A6=>"may_say"
 | .AH=>"shape_to_say"
 | .AS=>"has_ended"
abbrev ql:Fx->Str
 | .AA=>"Hearer.__init__"
 | .AC=>"Hearer.state"
 | .AI=>"Hearer.hear"
 | .Av=>"Hearer.unread_of"
 | .AM=>"Side.__init__"
 | .AK=>"Side.say"
 | .AO=>"Side.take"
 | .AQ=>"Side.speak"
 | .AJ=>"Side.listen"
 | .Az=>"Side.waiting"
 | .A6=>"Side.may_say"
 | .AH=>"Side.shape_to_say"
 | .AS=>"Side.has_ended"
 | x=>nm x
noncomputable abbrev me:Fx->Bool
 | .AA=>true
 | .AC=>true
 | .AI=>true
 | .Av=>true
 | .AM=>true
 | .AK=>true
 | .AO=>true
 | .AQ=>true
 | .AJ=>true
 | .Az=>true
 | .A6=>true
 | .AH=>true
 | .AS=>true
 | _=>false
noncomputable abbrev ow:Fx->Str
 | .AA=>"Hearer"
 | .AC=>"Hearer"
 | .AI=>"Hearer"
 | .Av=>"Hearer"
 | .AM=>"Side"
 | .AK=>"Side"
 | .AO=>"Side"
 | .AQ=>"Side"
 | .AJ=>"Side"
 | .Az=>"Side"
 | .A6=>"Side"
 | .AH=>"Side"
 | .AS=>"Side"
 | _=>""
abbrev st:Fx->Stmt
 | .D7=>top 0
 | .Cb=>top 10
 | .A5=>top 11
 | .D8=>top 12
 | .Ca=>top 13
 | .CH=>top 14
 | .CD=>top 15
 | .CF=>top 16
 | .BU=>top 17
 | .BR=>top 19
 | .BK=>top 20
 | .BM=>top 21
 | .Cw=>top 22
 | .Dx=>top 23
 | .BO=>top 24
 | .Bf=>top 27
 | .By=>top 28
 | .BB=>top 29
 | .CJ=>top 30
 | .Bl=>top 31
 | .Ch=>top 32
 | .Bs=>top 33
 | .B0=>top 34
 | .CS=>top 35
 | .Dt=>top 36
 | .CP=>top 37
 | .CQ=>top 38
 | .BZ=>top 39
 | .Bp=>top 41
 | .Dq=>top 42
 | .BC=>top 43
 | .Bt=>top 47
 | .B8=>top 50
 | .Cj=>top 51
 | .BI=>top 52
 | .Bk=>top 53
 | .Bd=>top 54
 | .Bj=>top 55
 | .BA=>top 56
 | .Df=>top 57
 | .De=>top 58
 | .Ci=>top 59
 | .CB=>top 60
 | .law_=>top 61
 | .AA=>AZ (top 45) 0
 | .AC=>AZ (top 45) 1
 | .AI=>AZ (top 45) 2
 | .Av=>AZ (top 45) 3
 | .AM=>AZ (top 48) 0
 | .AK=>AZ (top 48) 1
 | .AO=>AZ (top 48) 2
 | .AQ=>AZ (top 48) 3
 | .AJ=>AZ (top 48) 4
 | .Az=>AZ (top 48) 5
 | .A6=>AZ (top 48) 6
 | .AH=>AZ (top 48) 7
 | .AS=>AZ (top 48) 8
noncomputable abbrev ps:Fx->List Str
 | .D7=>["k"]
 | .Cb=>["thing"]
 | .A5=>["thing", "low", "high"]
 | .D8=>["s", "thing"]
 | .Ca=>["s", "thing"]
 | .CH=>["number"]
 | .CD=>["s", "thing"]
 | .CF=>["s", "thing"]
 | .BU=>["s", "thing"]
 | .BR=>["g", "step"]
 | .BK=>["state", "thing"]
 | .BM=>["state", "thing"]
 | .Cw=>["state"]
 | .Dx=>["state"]
 | .BO=>["g"]
 | .Bf=>["s", "value"]
 | .By=>["most"]
 | .BB=>["number", "width"]
 | .CJ=>["number", "cut"]
 | .Bl=>["s", "wire", "at"]
 | .Ch=>["wire", "at"]
 | .Bs=>["most", "wire", "at"]
 | .B0=>["s", "wire", "at"]
 | .CS=>["s", "wire", "at"]
 | .Dt=>["wire", "at"]
 | .CP=>["s", "wire", "at"]
 | .CQ=>["s", "wire", "at"]
 | .BZ=>["s", "wire", "at"]
 | .Bp=>["state", "place", "value"]
 | .Dq=>["g", "state", "wires", "places"]
 | .BC=>["state", "wire", "at"]
 | .Bt=>["side"]
 | .B8=>["script", "k"]
 | .Cj=>["cell", "k"]
 | .BI=>["cell", "depth"]
 | .Bk=>["shape", "cell"]
 | .Bd=>["n", "most"]
 | .Bj=>["shape", "value"]
 | .BA=>["script", "start", "ends"]
 | .Df=>["made", "name", "value"]
 | .De=>["made", "grammar", "own", "stands", "cell"]
 | .Ci=>["made", "grammar", "own", "other", "stands", "cell"]
 | .CB=>["made", "grammar", "other", "stands", "cell"]
 | .law_=>["script"]
 | .AA=>["self", "g", "sides"]
 | .AC=>["self"]
 | .AI=>["self", "side", "piece"]
 | .Av=>["self", "side"]
 | .AM=>["self", "g", "side"]
 | .AK=>["self", "name", "value"]
 | .AO=>["self", "piece"]
 | .AQ=>["self", "name", "value"]
 | .AJ=>["self", "piece"]
 | .Az=>["self"]
 | .A6=>["self"]
 | .AH=>["self", "name"]
 | .AS=>["self"]
noncomputable abbrev ns:Fx->List Str
 | .D7=>["k"]
 | .Cb=>["thing"]
 | .A5=>["thing", "low", "high"]
 | .D8=>["s", "thing", "kind"]
 | .Ca=>["s", "thing", "sign"]
 | .CH=>["number"]
 | .CD=>["s", "thing", "part"]
 | .CF=>["s", "thing"]
 | .BU=>["s", "thing"]
 | .BR=>["g", "step"]
 | .BK=>["state", "thing", "place"]
 | .BM=>["state", "thing", "words", "place"]
 | .Cw=>["state"]
 | .Dx=>["state"]
 | .BO=>["g"]
 | .Bf=>["s", "value", "kind", "row", "thing"]
 | .By=>["most"]
 | .BB=>["number", "width"]
 | .CJ=>["number", "cut"]
 | .Bl=>["s", "wire", "at", "kind"]
 | .Ch=>["wire", "at"]
 | .Bs=>["most", "wire", "at", "byte"]
 | .B0=>["s", "wire", "at", "most", "width", "number", "k"]
 | .CS=>["s", "wire", "at", "length", "place", "text", "k"]
 | .Dt=>["wire", "at", "number"]
 | .CP=>["s", "wire", "at", "length", "place", "things", "k", "part"]
 | .CQ=>["s", "wire", "at", "first", "second"]
 | .BZ=>["s", "wire", "at", "k", "part"]
 | .Bp=>["state", "place", "value"]
 | .Dq=>["g", "state", "wires", "places", "talk", "standing", "behind", "side", "read"]
 | .BC=>["state", "wire", "at", "word", "read", "e"]
 | .Bt=>["side"]
 | .B8=>["script", "k"]
 | .Cj=>["cell", "k", "number"]
 | .BI=>["cell", "depth", "kind", "low", "one", "other"]
 | .Bk=>["shape", "cell", "kind", "many", "size", "text", "found", "k", "one", "other"]
 | .Bd=>["n", "most", "found"]
 | .Bj=>["shape", "value", "kind", "signs", "codes", "found", "one"]
 | .BA=>["script", "start", "ends", "many", "grammar", "k", "cell", "kind", "words", "j", "then", "shape"]
 | .Df=>["made", "name", "value", "found", "e"]
 | .De=>["made", "grammar", "own", "stands", "cell", "state", "side", "words", "k", "name", "shape", "then", "value", "found"]
 | .Ci=>["made", "grammar", "own", "other", "stands", "cell", "k", "name", "shape", "then", "j", "word", "other_shape", "after", "value", "piece", "own_value"]
 | .CB=>["made", "grammar", "other", "stands", "cell", "due", "state", "k", "name", "shape", "then", "value", "size", "piece", "handed", "found"]
 | .law_=>["script", "grammar", "own", "other", "handed", "state", "made", "stands", "k", "cell"]
 | .AA=>["self", "g", "sides", "side"]
 | .AC=>["self"]
 | .AI=>["self", "side", "piece", "read"]
 | .Av=>["self", "side"]
 | .AM=>["self", "g", "side"]
 | .AK=>["self", "name", "value"]
 | .AO=>["self", "piece"]
 | .AQ=>["self", "name", "value", "state", "place"]
 | .AJ=>["self", "piece"]
 | .Az=>["self"]
 | .A6=>["self"]
 | .AH=>["self", "name"]
 | .AS=>["self"]
def body (Φ:Fx->Fn):Fx->Fn
 | .D7=>fnOf 1 1 (Rt)
 | .Cb=>fnOf 1 1 (FP)
 | .A5=>fnOf 3 3 (Dm (Φ .Cb))
 | .D8=>fnOf 2 3 (LS (Φ .BU) (Φ .CF) (Φ .CD) (Φ .Ca) (Φ .A5))
 | .Ca=>fnOf 2 3 (FO (Φ .CH))
 | .CH=>fnOf 1 1 (G0)
 | .CD=>fnOf 2 3 (FM (Φ .D8))
 | .CF=>fnOf 2 2 (FN (Φ .D8))
 | .BU=>fnOf 2 2 (EO (Φ .D8) (Φ .A5))
 | .BR=>fnOf 2 2 (Fq)
 | .BK=>fnOf 2 3 (Dn (Φ .D8) (Φ .BM))
 | .BM=>fnOf 2 4 (EQ (Φ .Cw))
 | .Cw=>fnOf 1 1 (Gm (Φ .Dx))
 | .Dx=>fnOf 1 1 (Dl)
 | .BO=>fnOf 1 1 (Co (Φ .Dx))
 | .Bf=>fnOf 2 5 (Eb (Φ .Bf) (Φ .By) (Φ .BB))
 | .By=>fnOf 1 1 (ER)
 | .BB=>fnOf 2 2 (Es (Φ .CJ))
 | .CJ=>fnOf 2 2 (G2)
 | .Bl=>fnOf 3 4 (C6 (Φ .BZ) (Φ .CQ) (Φ .CP) (Φ .CS) (Φ .B0))
 | .Ch=>fnOf 2 2 (Fm)
 | .Bs=>fnOf 3 4 (D9 (Φ .Ch))
 | .B0=>fnOf 3 7 (CN (Φ .CJ) (Φ .Ch) (Φ .By))
 | .CS=>fnOf 3 7 (DA (Φ .Dt) (Φ .Bs))
 | .Dt=>fnOf 2 3 (Fp (Φ .CH) (Φ .Ch))
 | .CP=>fnOf 3 8 (Dy (Φ .Bl) (Φ .Bs))
 | .CQ=>fnOf 3 5 (Dz (Φ .Bl))
 | .BZ=>fnOf 3 5 (CL (Φ .Bl) (Φ .Bs))
 | .Bp=>fnOf 3 3 (Ec (Φ .Bf))
 | .Dq=>fnOf 4 9 (G3 (Φ .BC))
 | .BC=>fnOf 3 6 (Et (Φ .Bl))
 | .Bt=>fnOf 1 1 (Fo)
 | .B8=>fnOf 2 2 (C5)
 | .Cj=>fnOf 2 3 (EN)
 | .BI=>fnOf 2 6 (BX (Φ .BI))
 | .Bk=>fnOf 2 10 (DU (Φ .Bk))
 | .Bd=>fnOf 2 3 (CK)
 | .Bj=>fnOf 2 7 (DT (Φ .Bj) (Φ .Bd))
 | .BA=>fnOf 3 12 (Dk (Φ .BI) (Φ .B8) (Φ .Cj))
 | .Df=>fnOf 3 5 (Ct (Φ .AK))
 | .De=>fnOf 5 14 (Ep (Φ .Bj) (Φ .Df) (Φ .Bk))
 | .Ci=>fnOf 6 17 (EM (Φ .AO) (Φ .AK) (Φ .Bj) (Φ .Az) (Φ .Bk) (Φ .AC))
 | .CB=>fnOf 5 16 (Ea (Φ .AO) (Φ .Bj) (Φ .Bk))
 | .law_=>fnOf 1 10 (G1 (Φ .AC) (Φ .Az) (Φ .Ci) (Φ .De) (Φ .CB) (Φ .B8) (Φ .AM) (Φ .BA))
 | .AA=>fnOf 3 4 (Cc (Φ .BO))
 | .AC=>fnOf 1 1 (BS)
 | .AI=>fnOf 3 4 (EL (Φ .Dq))
 | .Av=>fnOf 2 2 (Di)
 | .AM=>fnOf 3 3 (DQ (Φ .Bt) (Φ .AA))
 | .AK=>fnOf 3 3 (CY (Φ .AQ))
 | .AO=>fnOf 2 2 (Eo (Φ .AJ))
 | .AQ=>fnOf 3 5 (Dj (Φ .Bp) (Φ .BR) (Φ .BK))
 | .AJ=>fnOf 2 2 (DS (Φ .Bt) (Φ .AI))
 | .Az=>fnOf 1 1 (DG (Φ .Bt) (Φ .Av))
 | .A6=>fnOf 1 1 (HK (Φ .D7))
 | .AH=>fnOf 2 2 (FL (Φ .D7))
 | .AS=>fnOf 1 1 (GD (Φ .D7))
def run:Nat->Fx->Fn
 | 0=>λ_ _ _=>none
 | n + 1=>body (run n)
structure Md (K:PySem.W.Frag)(mg:Str->Option Value)(A:Fx->Addr)(fd:Fx->FuncData):Prop where
 fn:∀x,Fun K (nm x) (ql x) (st x) (A x) (fd x)
 mgs:∀x,me x=false->mg (nm x)=some (.ref (A x))
 bd:∀x,Binds K (fd x) (ps x) []
 cm:CM K
 OE:∃C,PySem.W.nsIn K mainGlobals "Side" = some (some (.ref C))/\mg "Side" = some (.ref C)/\Mk K C (A .AM)/\Meth K C "say" (A .AK)/\Meth K C "take" (A .AO)/\Meth K C "speak" (A .AQ)/\Meth K C "listen" (A .AJ)/\Meth K C "waiting" (A .Az)/\Meth K C "may_say" (A .A6)/\Meth K C "shape_to_say" (A .AH)/\Meth K C "has_ended" (A .AS)/\Meth K C "state" (A .AC)/\Meth K C "hear" (A .AI)/\Meth K C "unread_of" (A .Av)
 cO:∃C,mg "Hearer" = some (.ref C)/\ByCls K C "__init__" (A .AA)
 bV:mg "bool" = none
 bW:mg "dict" = none
 bY:mg "int" = none
 b8:mg "isinstance" = none
 cD:mg "len" = none
 bH:mg "list" = none
 cB:mg "max" = none
 cE:mg "min" = none
 cF:mg "ord" = none
 bG:mg "range" = none
 b9:mg "reversed" = none
 cG:mg "str" = none
 bJ:mg "tuple" = none
 b6:∃tk,mg "FIRST_SIGN" = some (.int 32 tk)
 b7:∃tk,mg "LAST_SIGN" = some (.int 126 tk)
 b5:∃tk,mg "PERCENT_SIGN" = some (.int 37 tk)
 bD:∃tk,mg "SIGNS" = some (.str " !\"#$ &'()*+,-./0123456789:;<=>?@ABCDEFGHIJKLMNOPQRSTUVWXYZ[\\]^_`abcdefghijklmnopqrstuvwxyz{|}~" tk)
 xm:∃(P:Addr) (ca:Str->Addr),XM K mg P ca/\(XF1 K (ca "NoTalk") P "NoTalk.__init__" (AZ (top 5) 0)/\XF2 K (ca "Broken") P "Broken.__init__" (AZ (top 4) 0))/\∀n∈(["Short"]:List Str),XN0 K (ca n)
noncomputable abbrev kd:Fx->Kd
 | .D7=>.pl
 | .Cb=>.pl
 | .A5=>.pl
 | .D8=>.pl
 | .Ca=>.pl
 | .CH=>.pl
 | .CD=>.pl
 | .CF=>.pl
 | .BU=>.pl
 | .BR=>.pl
 | .BK=>.pl
 | .BM=>.pl
 | .Cw=>.pl
 | .Dx=>.pl
 | .BO=>.pl
 | .Bf=>.fr
 | .By=>.pl
 | .BB=>.fr
 | .CJ=>.pl
 | .Bl=>.ex
 | .Ch=>.ex
 | .Bs=>.ex
 | .B0=>.ex
 | .CS=>.ex
 | .Dt=>.ex
 | .CP=>.ex
 | .CQ=>.ex
 | .BZ=>.ex
 | .Bp=>.pl
 | .Dq=>.er
 | .BC=>.er
 | .Bt=>.pl
 | .B8=>.pl
 | .Cj=>.pl
 | .BI=>.pl
 | .Bk=>.pl
 | .Bd=>.pl
 | .Bj=>.pl
 | .BA=>.pl
 | .Df=>.pl
 | .De=>.pl
 | .Ci=>.pl
 | .CB=>.pl
 | .law_=>.pl
 | .AA=>.pl
 | .AC=>.pl
 | .AI=>.er
 | .Av=>.pl
 | .AM=>.pl
 | .AK=>.ex
 | .AO=>.er
 | .AQ=>.ex
 | .AJ=>.er
 | .Az=>.pl
 | .A6=>.pl
 | .AH=>.pl
 | .AS=>.pl
theorem Ti:FnScope ["self", "at", "side"] ["self", "at", "side"] (Al (AZ (top 4) 0)):=⟨rfl,rfl,rfl,by decide +kernel,rfl,by decide +kernel,by decide +kernel⟩
theorem YC:FnScope ["self", "at"] ["self", "at"] (Al (AZ (top 5) 0)):=⟨rfl,rfl,rfl,by decide +kernel,rfl,by decide +kernel,by decide +kernel⟩
section
variable {P:Program}{w:World}{K:PySem.W.Frag}{mg:Str->Option Value}{base:Heap}{A:Fx->Addr}{fd:Fx->FuncData}{n:Nat}
theorem Je {a:Kd}(k:Kd){P:Program}{w:World}{K:PySem.W.Frag}{mg:Str->Option Value}{base:Heap}{n:Nat}{fa:Addr}{fd:FuncData}{ps:List Str}{f:Fn}(h:okK a P w K mg base n fa fd ps f)(e:a=k):okK k P w K mg base n fa fd ps f:=e ▸ h
section
variable {X:Cx}{A:Fx->Addr}{fd:Fx->FuncData}{n k:Nat}{x:Fx}{s:Str}{e:Expr}{es:List Expr}{f:M (List D)}{p pos:Pos}{E:L2.St->XK}
theorem cP (M:Md X.K X.mg A fd)(ih:∀x,okK (kd x) X.prog X.w X.K X.mg X.base k (A x) (fd x) (ps x) (run n x))(hr:Room k X.A)(ha:PA X (e :: es) (RA X.K f))(hk:kd x = .pl)(hm:me x=false)(hs:nm x=s)(hg:Gl X s)(h1:AV e=false)(h2:A1 es=true)(hd:(s == ("__debug__" : Str))=false):PE X (.Call (.Name s p) (e :: es) [] pos) (RE X.K (Ai (run n x) f)):=by subst hs;exact QS (Je .pl (ih x) hk) hr hg (M.mgs x hm) (Fun.kp (M.fn x)) (M.bd x) ha hd h1 h2
theorem fF (M:Md X.K X.mg A fd)(ih:∀x,okK (kd x) X.prog X.w X.K X.mg X.base k (A x) (fd x) (ps x) (run n x))(hr:Room k X.A)(ha:PA X (e :: es) (RA X.K f))(hk:kd x = .fr)(hm:me x=false)(hs:nm x=s)(hg:Gl X s)(h1:AV e=false)(h2:A1 es=true)(hd:(s == ("__debug__" : Str))=false):PE X (.Call (.Name s p) (e :: es) [] pos) (RF X.K (DL (run n x) f)):=by subst hs;exact QY (Je .fr (ih x) hk) hr hg (M.mgs x hm) (Fun.kp (M.fn x)) (M.bd x) ha hd h1 h2
theorem xer (M:Md X.K X.mg A fd)(ih:∀x,okK (kd x) X.prog X.w X.K X.mg X.base k (A x) (fd x) (ps x) (run n x))(hr:Room k X.A)(hp:B4 (CX1 false X.prog X.w) X E)(ha:PA X (e :: es) (RA X.K f))(hk:kd x = .er)(hm:me x=false)(hs:nm x=s)(hg:Gl X s)(h1:AV e=false)(h2:A1 es=true)(hd:(s == ("__debug__" : Str))=false):PE X (.Call (.Name s p) (e :: es) [] pos) (RX X.K E (Ai (run n x) f)):=by subst hs;exact MY (Je .er (ih x) hk) hr hg (M.mgs x hm) (Fun.kp (M.fn x)) (M.bd x) hp ha hd h1 h2
theorem xex (M:Md X.K X.mg A fd)(ih:∀x,okK (kd x) X.prog X.w X.K X.mg X.base k (A x) (fd x) (ps x) (run n x))(hr:Room k X.A)(hp:B4 (CX1 true X.prog X.w) X E)(ha:PA X (e :: es) (RA X.K f))(hk:kd x = .ex)(hm:me x=false)(hs:nm x=s)(hg:Gl X s)(h1:AV e=false)(h2:A1 es=true)(hd:(s == ("__debug__" : Str))=false):PE X (.Call (.Name s p) (e :: es) [] pos) (RX X.K E (Ai (run n x) f)):=by subst hs;exact MY (Je .ex (ih x) hk) hr hg (M.mgs x hm) (Fun.kp (M.fn x)) (M.bd x) hp ha hd h1 h2
end
seal PH PE PA PSs PS PT PG PGs PW PI PIf PPf PO
theorem sc (x:Fx):FnScope (ns x) (ps x) (Al (st x)):=by
 cases x <;> exact ⟨rfl,rfl,rfl,by decide +kernel,rfl,by decide +kernel,by decide +kernel⟩
local macro_rules | `(tactic| clear 30 $t)=>`(tactic| with_reducible refine (?_ : $t))
seal Hl
theorem step (M:Md K mg A fd)(ih0:∀x,okK (kd x) P w K mg base (2 * n + 2) (A x) (fd x) (ps x) (run n x))(y:Fx):okK (kd y) P w K mg base (2 * n + 2 + 1 + 1) (A y) (fd y) (ps y) (run (n + 1) y):=by
 have ih:=λx=>WI (ih0 x);obtain ⟨_,b6⟩:=M.b6;obtain ⟨_,b7⟩:=M.b7;obtain ⟨_,b5⟩:=M.b5;obtain ⟨P',ca,x,xt,x0⟩:=M.xm;have xb:XN2 P w K mg base (ca "Broken") P':=Rh rfl Ti rfl rfl rfl xt.2;obtain ⟨_,bD⟩:=M.bD;have xh:QD P w K mg base (ca "Broken") P':=Pe rfl Ti rfl rfl rfl xt.2;obtain ⟨Side_,b4,dJ,dC,dM,dH,dA,d7,d6,dN,dG,dL,dE,dI,cU⟩:=M.OE;have cW:MAt K "Side" "say" Side_ (A .AK):=⟨by decide,b4,dM,by decide⟩;have d8:MAt K "Side" "state" Side_ (A .AC):=⟨by decide,b4,dE,by decide⟩;have dB:MAt K "Side" "take" Side_ (A .AO):=⟨by decide,b4,dH,by decide⟩;have cV:MAt K "Side" "waiting" Side_ (A .Az):=⟨by decide,b4,d6,by decide⟩;obtain ⟨Hearer_b,cY,cX⟩:=M.cO;have d9:MAt K "Side" "speak" Side_ (A .AQ):=⟨by decide,b4,dA,by decide⟩;have cZ:MAt K "Side" "listen" Side_ (A .AJ):=⟨by decide,b4,d7,by decide⟩;have xn:XN1 P w K mg base (ca "NoTalk") P':=Rg rfl YC rfl rfl xt.1;have dF:MAt K "Side" "hear" Side_ (A .AI):=⟨by decide,b4,dI,by decide⟩;have cM:MAt K "Side" "unread_of" Side_ (A .Av):=⟨by decide,b4,cU,by decide⟩;have sy:=sc y;have nd:=sy.nd;have mf:=M.fn y
 cases y <;> first | (clear 30 (okK .pl ..);refine Xo (g:=fnOf _ _ _) rfl (Wc rfl rfl mf sy (λcdv A' outer s H E hr=>?_))) | (clear 30 (okK .ex ..);refine Nb (g:=fnOf _ _ _) rfl (MR rfl rfl mf sy (λcdv A' outer s H E hr hp hq ho=>?_))) | (clear 30 (okK .fr ..);refine UQ (g:=fnOf _ _ _) rfl (TN rfl rfl mf sy (λcdv A' outer s H E hr=>?_))) | (clear 30 (okK .er ..);refine Nb (g:=fnOf _ _ _) rfl (TQ rfl rfl mf sy (λcdv A' outer s H E hr hp hq ho ht=>?_)))
 all_goals repeat' first
  | (clear 30 (PH ..);first
    | (clear 30 (PH _ _ (.ExceptHandler (some (.Name _ _)) (some _) [.Raise (some (.Call (.Name _ _) [_,_] [] _)) (some _) _] _ :: _) (RH _ _ (μX _ _) (hAs _ _ (Dp _ _) _)));refine Yh x xh rfl rfl (hr.mono (by omega)) rfl (x.ms "Broken" (by decide)) (x.cl "Broken" (by decide)) (λ_ hn=>x.subE hn (by decide)) nd rfl rfl ht rfl (λy=>?_) T1 ?_)
    | exact V9
    | (clear 30 (PH _ _ (.ExceptHandler (some (.Name _ _)) none (_ :: _) _ :: _) (RH _ _ _ (hNo _ _ _)));refine Yg x rfl (x.ms "Short" (by decide)) (x.cl "Short" (by decide)) (λ_ hn=>x.subE hn (by decide)) (λy=>?_) ?_)
    | (clear 30 (PH _ _ (.ExceptHandler (some (.Name _ _)) (some _) (_ :: _) _ :: _) (RH _ _ _ (hAs _ _ _ _)));refine Yf x rfl (x.ms "NoTalk" (by decide)) (x.cl "NoTalk" (by decide)) (λ_ hn=>x.subE hn (by decide)) nd rfl rfl (λy=>?_) ?_))
  | (clear 30 (PE ..);first
    | (clear 30 (PE _ (.Name ..) ..);first
      | (clear 30 (PE _ _ (RE _ (Aa _)));exact (V7 _))
      | (clear 30 (PE _ (.Name _ _) (RE _ (fC (.ty _))));exact (IT rfl M.cG VL))
      | (clear 30 (PE _ (.Name _ _) (RE _ (fC (.ty _))));exact (IT rfl M.bJ QK))
      | (clear 30 (PE _ (.Name _ _) (RE _ (fC (.int _))));exact (JJ rfl b6))
      | (clear 30 (PE _ (.Name _ _) (RE _ (fC (.ty _))));exact (IT rfl M.bY OD))
      | (clear 30 (PE _ (.Name _ _) (RE _ (fC (.ty _))));exact (IT rfl M.bV Ts))
      | (clear 30 (PE _ (.Name _ _) (RE _ (fC (.int _))));exact (JJ rfl b7))
      | (clear 30 (PE _ (.Name _ _) (RE _ (fC (.int _))));exact (JJ rfl b5))
      | (clear 30 (PE _ (.Name _ _) (RE _ (fC (.ty _))));exact (IT rfl M.bH ML))
      | (clear 30 (PE _ _ (RE _ (fC (.str _))));exact (QV rfl bD)))
    | (clear 30 (PE _ (.Constant ..) ..);first
      | (clear 30 (PE _ _ (RE _ (fC (.int _))));exact V1)
      | (clear 30 (PE _ _ (RE _ (fC (.str _))));exact V6)
      | (clear 30 (PE _ _ (RE _ (fC (.bl _))));exact Yb)
      | (clear 30 (PE _ _ (RE _ (fC .non)));exact V2))
    | (clear 30 (PE _ (.Subscript ..) ..);first
      | (clear 30 (PE _ _ (RE _ (Ac _ _ ixD)));refine SZ Ws Xr ?_ ?_ (λ_ _=>rfl))
      | (clear 30 (PE _ _ (RE _ (Ac _ _ AW)));refine SZ Wp P9 ?_ ?_ (λ_ _=>rfl))
      | (clear 30 (PE _ _ (RE _ (fSl _ _ _ Iv)));refine QX sl3 U6 ?_ ?_ ?_))
    | (clear 30 (PE _ (.Call ..) ..);first
      | (clear 30 (PE _ _ (RE _ (Ai (run _ _) _)));refine @cP _ _ _ _ _ _ _ _ _ _ _ _ M ih hr ?_ (by rfl) (by rfl) (by rfl) (by rfl) (by rfl) (by rfl) (by decide))
      | (clear 30 (PE _ _ (RE _ (fB _ AN)));refine IR QM UX rfl M.cD VG ?_)
      | (clear 30 (PE _ (.Call (.Name _ _) _ _ _) (RX _ _ (Ai (run _ _) _)));refine @xex _ _ _ _ _ _ _ _ _ _ _ _ _ M ih hr hp ?_ (by rfl) (by rfl) (by rfl) (by rfl) (by rfl) (by rfl) (by decide))
      | (clear 30 (PE _ _ (RE _ (fB _ CI)));refine IR QL UW rfl M.b8 KG ?_)
      | (clear 30 (PE _ _ (RF _ (fBF _ Dh)));refine Yc Lv UY rfl M.bH ML ?_)
      | (clear 30 (PE _ _ (RF _ (DL (run _ _) _)));refine @fF _ _ _ _ _ _ _ _ _ _ _ _ M ih hr ?_ (by rfl) (by rfl) (by rfl) (by rfl) (by rfl) (by rfl) (by decide))
      | (clear 30 (PE _ _ (RE _ (objM Bu _ _)));refine OP ?_ ?_)
      | (clear 30 (PE _ _ (RE _ (A4 _ (Ed (run _ .AO)) _ _)));refine JK M.cm dB (SV (ih .AO)) hr (M.bd .AO) ?_ ?_)
      | (clear 30 (PE _ _ (RE _ (A4 _ (run _ .Az) _ (ret []))));refine LC M.cm cV (ih .Az) hr (M.bd .Az) ?_)
      | (clear 30 (PE _ _ (RE _ (fB _ Iq)));refine IR QN U4 rfl M.cF VJ ?_)
      | (clear 30 (PE _ (.Call (.Name _ _) _ _ _) (RX _ _ (Ai (run _ _) _)));refine @xer _ _ _ _ _ _ _ _ _ _ _ _ _ M ih hr hp ?_ (by rfl) (by rfl) (by rfl) (by rfl) (by rfl) (by rfl) (by decide))
      | (clear 30 (PE _ _ (RE _ (A4 _ (run _ .AC) _ (ret []))));refine LC M.cm d8 (ih .AC) hr (M.bd .AC) ?_)
      | (clear 30 (PE _ _ (RE _ (L4 _)));refine OR ?_)
      | (clear 30 (PE _ _ (RE _ (fUn _ IF)));refine OQ ?_)
      | (clear 30 (PE _ _ (RE _ (fB _ Hq)));refine QU rfl M.bW ?_)
      | (clear 30 (PE _ _ (RF _ (fBF _ JV)));refine NF rfl rfl M.bH rfl M.b9 ?_)
      | (clear 30 (PE _ _ (RE _ (fB _ JN)));refine Ya OF UV rfl M.bY OD ?_)
      | (clear 30 (PE _ _ (RE _ (findM _ _)));refine TB ?_ ?_)
      | (clear 30 (PE _ _ (RX _ _ (A4 _ (run _ .AK) _ _)));refine Hv M.cm cW (ih .AK) hr (M.bd .AK) hp ?_ ?_)
      | (clear 30 (PE _ _ (RE _ (A4 _ (Ed (run _ .AK)) _ _)));refine JK M.cm cW (SV (ih .AK)) hr (M.bd .AK) ?_ ?_)
      | (clear 30 (PE _ _ (RE _ (KW _ _ _)));refine TC (by decide) b4 dC (ih0 .AM) hr rfl dJ (M.bd .AM) ?_)
      | (clear 30 (PE _ _ (RE _ (fB _ JP)));refine IR (OG rfl) U0 rfl M.cB VH ?_)
      | (clear 30 (PE _ _ (RE _ (fB _ JQ)));refine IR (OH rfl) U1 rfl M.cE VI ?_)
      | (clear 30 (PE _ _ (RE _ (objM EJ _ _)));refine OT ?_ ?_)
      | (clear 30 (PE _ _ (RE _ (Ai _ _)));refine QR (ih .AA) hr rfl cY cX (M.bd .AA) ?_)
      | (clear 30 (PE _ _ (RX _ _ (A4 _ (run _ .AQ) _ _)));refine Hv M.cm d9 (ih .AQ) hr (M.bd .AQ) hp ?_ ?_)
      | (clear 30 (PE _ _ (RX _ _ (A4 _ (run _ .AJ) _ _)));refine Hv M.cm cZ (ih .AJ) hr (M.bd .AJ) hp ?_ ?_)
      | (clear 30 (PE _ _ (RX _ _ (A4 _ (run _ .AI) _ _)));refine Hv M.cm dF (ih .AI) hr (M.bd .AI) hp ?_ ?_)
      | (clear 30 (PE _ _ (RE _ (A4 _ (run _ .Av) _ _)));refine JK M.cm cM (ih .Av) hr (M.bd .Av) ?_ ?_))
    | (clear 30 (PE _ (.List ..) ..);first
      | refine @V8 _ _ _ _ ?_)
    | (clear 30 (PE _ (.BinOp ..) ..);first
      | (clear 30 (PE _ _ (RE _ (Ac _ _ AG)));refine Hu M3 Mi ?_ ?_)
      | (clear 30 (PE _ _ (RE _ (Ac _ _ Ba)));refine Hu WN U2 ?_ ?_)
      | (clear 30 (PE _ _ (RE _ (Ac _ _ AU)));refine Hu Ul Sk ?_ ?_)
      | (clear 30 (PE _ _ (RE _ (Ac _ _ Cl)));refine Hu WQ U7 ?_ ?_)
      | (clear 30 (PE _ _ (RE _ (Ac _ _ B3)));refine Hu Um Sm ?_ ?_)
      | (clear 30 (PE _ _ (RF _ _));refine Yd PF Sj ?_ ?_)
      | (clear 30 (PE _ _ (RX _ _ (Hr _ _ AG)));refine Ym M3 Mi ?_ ?_)
      | (clear 30 (PE _ _ (RE _ (Ac _ _ Mj)));refine Hu WP U5 ?_ ?_))
    | (clear 30 (PE _ (.Tuple ..) ..);first
      | (clear 30 (PE _ (.Tuple _ _ _) (RE _ (AX _)));refine @OU _ _ _ _ _ ?_)
      | (clear 30 (PE _ (.Tuple _ _ _) (RE _ (AX _)));refine OU ?_))
    | (clear 30 (PE _ (.Attribute ..) ..);first
      | (clear 30 (PE _ _ (RE _ (Cs _ _)));refine V0 M.cm (by decide) ?_ rfl)
      | (clear 30 (PE _ _ (RE _ (bnd _ (H9 _))));refine VZ x x.na ?_ rfl))
    | (clear 30 (PE _ (.Compare ..) ..);first
      | (clear 30 (PE _ (.Compare _ [.Eq] [_] _) (RE _ (Ac _ _ (eqS _))));refine IS (PJ hr.units) (HF (g:=id)) ?_ ?_ (DN _))
      | (clear 30 (PE _ _ (RE _ (ED _ _ _ _ _)));refine QT PN PN Nj Nj ?_ ?_ ?_)
      | (clear 30 (PE _ _ (RE _ (Ac _ _ isC)));refine IS PL Qa ?_ ?_ (DN _))
      | (clear 30 (PE _ (.Compare _ [.NotEq] [_] _) (RE _ (Ac _ _ (eqS _))));refine IS (PP hr.units) (HF (g:=λb=>!b)) ?_ ?_ (DN _))
      | (clear 30 (PE _ _ (RE _ (Ac _ _ gtA)));refine IS PK Ni ?_ ?_ (DN _)))
    | (clear 30 (PE _ (.BoolOp ..) ..);first
      | (clear 30 (PE _ _ (RE _ (DP _ _)));refine VY ?_ ?_)
      | (clear 30 (PE _ _ (RE _ _));refine V5 ?_))
    | (clear 30 (PE _ (.IfExp ..) ..);first
      | refine QW ?_ ?_ ?_)
    | (clear 30 (PE _ (.Dict ..) ..);first
      | (clear 30 (PE _ _ (RE _ (EE [])));exact OS)
      | (clear 30 (PE _ _ (RE _ (IP _)));refine Tz ?_))
    | (clear 30 (PE _ (.UnaryOp ..) ..);first
      | refine V3 ?_)
    | (clear 30 (PE _ (.ListComp ..) ..);first
      | (clear 30 (PE _ (.ListComp _ [⟨(.Name ("state" : Str) _),_,_,0⟩] _ _) (RF _ (Ff _ _ _ _ _ _)));refine LD (Fd ["state"] [] rfl rfl rfl rfl rfl) rfl ?_ (λ_ _ _ _ _=>?_) (λ_ _ _ _ _=>?_) (λ_ _ _ _ _=>?_))
      | (clear 30 (PE _ (.ListComp _ [⟨(.Name ("sign" : Str) _),_,_,0⟩] _ _) (RF _ (Cz _ [] _ _ _ _)));refine FT (Fd ["sign"] [] rfl rfl rfl rfl rfl) rfl ?_ (λ_ _ _ _ _=>?_) (λ_ _ _ _ _=>?_) (λ_ _ _ _ _=>?_))
      | (clear 30 (PE _ _ (RF _ (Cz _ [0,1] _ _ _ _)));refine FT (Fd ["k"] [(0 , "number") ,(1 , "width")] rfl rfl rfl rfl rfl) rfl ?_ (λ_ _ _ _ _=>?_) (λ_ _ _ _ _=>?_) (λ_ _ _ _ _=>?_))
      | (clear 30 (PE _ (.ListComp _ [⟨(.Name ("k" : Str) _),_,_,0⟩] _ _) (RF _ (Cz _ [] _ _ _ _)));refine FT (Fd ["k"] [] rfl rfl rfl rfl rfl) rfl ?_ (λ_ _ _ _ _=>?_) (λ_ _ _ _ _=>?_) (λ_ _ _ _ _=>?_))
      | (clear 30 (PE _ _ (RF _ (Cz _ [4,3] _ _ _ _)));refine FT (Fd ["sign"] [(4 , "codes") ,(3 , "signs")] rfl rfl rfl rfl rfl) rfl ?_ (λ_ _ _ _ _=>?_) (λ_ _ _ _ _=>?_) (λ_ _ _ _ _=>?_))
      | (clear 30 (PE _ (.ListComp _ [⟨(.Name ("part" : Str) _),_,_,0⟩] _ _) (RF _ (Cz _ [] _ _ _ _)));refine FT (Fd ["part"] [] rfl rfl rfl rfl rfl) rfl ?_ (λ_ _ _ _ _=>?_) (λ_ _ _ _ _=>?_) (λ_ _ _ _ _=>?_))
      | (clear 30 (PE _ (.ListComp _ [⟨(.Name ("pair" : Str) _),_,_,0⟩] _ _) (RF _ (Ff _ _ _ _ _ _)));refine LD (Fd ["pair"] [] rfl rfl rfl rfl rfl) rfl ?_ (λ_ _ _ _ _=>?_) (λ_ _ _ _ _=>?_) (λ_ _ _ _ _=>?_)))
    | (clear 30 (PE _ _ (RE _ (Aq _)));refine TD ?_)
    | (clear 30 (PE _ _ (RE _ (Gc _)));refine V4 ?_))
  | (clear 30 (PA ..);first
    | refine @QQ _ _ _ _ _ ?_ ?_ rfl
    | exact VX)
  | (clear 30 (PSs ..);first
    | refine @Q5 _ _ _ _ _ _ ?_ ?_
    | refine @JM _ _ _ _ ?_
    | exact TX
    | refine Q6 ?_
    | exact (JM MT)
    | exact (JM HN))
  | (clear 30 (PS ..);first
    | (clear 30 (PS _ (.Return ..) ..);first
      | (clear 30 (PS _ _ (RSg _ (μR _) (Am _)));refine O6 ?_)
      | (clear 30 (PS _ _ (RSg _ (μX _ _) (Am (nxD _))));refine MV ?_)
      | (clear 30 (PS _ _ (RSg _ (μX _ _) (Am _)));refine HD (MW ?_))
      | (clear 30 (PS _ _ (RSg _ (μF _) (Gu _)));refine MU ?_)
      | (clear 30 (PS _ _ (RSg _ (μF _) (F0 _)));exact (O7 _)))
    | (clear 30 (PS _ (.If ..) ..);first
      | refine Yj ?_ ?_ ?_)
    | (clear 30 (PS _ (.Assign ..) ..);first
      | (clear 30 (PS _ (.Assign [.Name _ _] _ _) (RSg _ _ (As _ _)));refine LK nd rfl (.inl rfl) ?_)
      | (clear 30 (PS _ _ (RSg _ _ (BD _ _)));refine Wd ?_ ?_)
      | (clear 30 (PS _ _ (RSg _ (μX _ _) (CT _ _)));refine HD (MX nd rfl (.inl rfl) ?_))
      | (clear 30 (PS _ _ (RSg _ _ (DV _ _)));refine Wg nd rfl (.inl rfl) ?_)
      | (clear 30 (PS _ _ (RSg _ _ (Ds _ _ _)));refine We M.cm (by decide) ?_ ?_)
      | (clear 30 (PS _ _ (RSX _ _ (CT _ _)));refine MX nd rfl (.inl rfl) ?_)
      | (clear 30 (PS _ (.Assign [.Name _ _] _ _) (RSg _ _ (As _ _)));refine LK nd rfl (.inr rfl) ?_)
      | (clear 30 (PS _ (.Assign [.Name _ _] _ _) (RSg _ _ (As _ _)));refine LK nd rfl (.inr rfl) ?_))
    | (clear 30 (PS _ (.For ..) ..);first
      | (clear 30 (PS _ (.For _ _ _ [] _) (RSg _ _ (BV _ _ _)));refine O2 PassesOwn.never rfl ?_ ?_ ?_)
      | (clear 30 (PS _ (.For _ _ _ [] _) (RSg _ _ (BV _ _ _)));refine O2 ho rfl ?_ ?_ ?_)
      | (clear 30 (PS _ _ (RSg _ _ (IY _ _ _)));refine TW PassesOwn.never rfl ?_ ?_ ?_))
    | (clear 30 (PS _ (.Expr ..) ..);first
      | (clear 30 (PS _ _ (RSg _ _ (B2 _)));refine MS ?_)
      | (clear 30 (PS _ _ (RSg _ _ (ownM _ Bu _)));refine NJ _ ?_)
      | (clear 30 (PS _ _ (RSg _ _ (ownM _ EJ _)));refine NK _ ?_))
    | (clear 30 (PS _ (.Raise ..) ..);first
      | (clear 30 (PS _ _ (RSg _ (μX _ _) (Dp _ _)));refine HD (O4 x xb (hr.mono (by omega)) rfl hq rfl ?_))
      | (clear 30 (PS _ _ (RSg _ (μX _ _) (Hb ("Short" : Str) _)));refine HD (O3 (n:="Short") x (by decide) rfl (x0 "Short" (by decide)) rfl hq rfl ?_))
      | (clear 30 (PS _ _ (RSg _ (μX _ _) (Hc _ _)));refine HD (O5 x xn (hr.mono (by omega)) rfl hq rfl ?_)))
    | exact MT
    | exact HN
    | (clear 30 (PS _ (.While ..) ..);first
      | (clear 30 (PS _ (.While _ _ [] _) _);refine LL PassesOwn.never ?_ ?_)
      | (clear 30 (PS _ (.While _ _ [] _) (RSg _ _ (F3 _ _)));refine LL ho ?_ ?_))
    | (clear 30 (PS _ (.Break ..) ..);first
      | exact Q4)
    | (clear 30 (PS _ (.Try ..) ..);first
      | (clear 30 (PS _ _ (RSg _ (μX _ _) (Ey _ _)));refine O8 (qx:=true) x WD rfl rfl (λpn E hp=>?_) ?_)
      | (clear 30 (PS _ _ (RSg _ (μR _) (Ey _ _)));refine O8 (qx:=true) x WC rfl rfl (λpn E hp=>?_) ?_))
    | refine O6 ?_
    | refine MU ?_
    | refine MV ?_
    | refine HD (MW ?_)
    | refine MS ?_)
  | (clear 30 (PT ..);first
    | (clear 30 (PT _ (.Compare ..) ..);first
      | (clear 30 (PT _ (.Compare _ [.Eq] [_] _) (RT _ (Aj (Ac _ _ (eqS _)))));refine Fh (PJ hr.units) (HF (g:=id)) ?_ ?_ (DN _))
      | (clear 30 (PT _ (.Compare _ [.NotEq] [_] _) (RT _ (Aj (Ac _ _ (eqS _)))));refine Fh (PP hr.units) (HF (g:=λb=>!b)) ?_ ?_ (DN _))
      | (clear 30 (PT _ _ (RT _ (Aj (Ac _ _ gtA))));refine Fh PK Ni ?_ ?_ (DN _))
      | (clear 30 (PT _ _ (RT _ (Aj (Ac _ _ isC))));refine Fh PL Qa ?_ ?_ (DN _))
      | (clear 30 (PT _ _ (RT _ (Aj (Ac _ _ geA))));refine Fh WK UT ?_ ?_ (DN _))
      | (clear 30 (PT _ _ (RT _ (Aj (Ac _ _ ltA))));refine Fh WM UZ ?_ ?_ (DN _))
      | (clear 30 (PT _ _ (RT _ (Aj (Ac _ _ (inS _)))));refine Fh (WL hr.units) (UU (neg:=false)) ?_ ?_ (by with_unfolding_all rfl)))
    | (clear 30 (PT _ (.BoolOp ..) ..);first
      | refine Yk ?_)
    | (clear 30 (PT _ (.UnaryOp ..) ..);first
      | refine Wh ?_)
    | (clear 30 (PT _ _ (RT _ (Aj _)));refine O9 ?_)
    | (clear 30 (PT _ _ (RT _ (Aj _)));refine O9 ?_))
  | (clear 30 (PG ..);first
    | (clear 30 (PG _ (.Name ..) ..);first
      | (clear 30 (PG _ (.Name _ _) (RG _ (Ay _)));exact (DZ nd rfl (.inl rfl)))
      | (clear 30 (PG _ (.Name _ _) (RG _ (Ay _)));exact (DZ (by show List.Nodup [("state" : Str)] ;decide +kernel) rfl (.inl rfl)))
      | (clear 30 (PG _ (.Name _ _) (RG _ (Ay _)));exact (DZ (by show List.Nodup [("sign" : Str)] ;decide +kernel) rfl (.inl rfl)))
      | (clear 30 (PG _ (.Name _ _) (RG _ (Ay _)));exact (DZ (by show List.Nodup [("k" : Str) ,("number" : Str) ,("width" : Str)] ;decide +kernel) rfl (.inl rfl)))
      | (clear 30 (PG _ (.Name _ _) (RG _ (Ay _)));exact (DZ (by show List.Nodup [("k" : Str)] ;decide +kernel) rfl (.inl rfl)))
      | (clear 30 (PG _ (.Name _ _) (RG _ (Ay _)));exact (DZ (by show List.Nodup [("sign" : Str) ,("codes" : Str) ,("signs" : Str)] ;decide +kernel) rfl (.inl rfl)))
      | (clear 30 (PG _ (.Name _ _) (RG _ (Ay _)));exact (DZ (by show List.Nodup [("part" : Str)] ;decide +kernel) rfl (.inl rfl)))
      | (clear 30 (PG _ (.Name _ _) (RG _ (Ay _)));exact (DZ (by show List.Nodup [("pair" : Str)] ;decide +kernel) rfl (.inl rfl))))
    | (clear 30 (PG _ (.Tuple ..) ..);first
      | refine Ye rfl ?_)
    | (clear 30 (PG _ (.Subscript ..) ..);first
      | refine OW ?_ ?_))
  | (clear 30 (PGs ..);first
    | refine QZ ?_ ?_
    | exact TF)
  | (clear 30 (PW ..);first
    | (clear 30 (PW _ (.BoolOp .Or (_ :: _ :: _) _) (RT _ (fOr _ _)));refine Yl ?_ ?_)
    | (clear 30 (PW _ (.BoolOp .Or [_] _) (RT _ _));refine Wj ?_)
    | (clear 30 (PW _ (.BoolOp .And (_ :: _ :: _) _) (RT _ (Fe _ _)));refine Wi ?_ ?_)
    | (clear 30 (PW _ (.BoolOp .And [_] _) (RT _ _));refine TY ?_))
  | (clear 30 (PI ..);first
    | (clear 30 (PI _ _ (.Call ..) ..);first
      | (clear 30 (PI _ _ _ (RI _ (CA _)));refine NG rfl M.bG ?_)
      | (clear 30 (PI _ _ _ (RI _ (FD _)));refine NH rfl M.bG ?_))
    | (clear 30 (PI _ _ _ (RI _ (DR _)));refine Wa ?_)
    | (clear 30 (PI _ _ _ (RIG _ (JI _)));refine TH ?_))
  | (clear 30 (PIf ..);first
    | exact TJ
    | (clear 30 (PIf _ [_] (RT _ _));refine TK ?_))
  | (clear 30 (PPf ..);first
    | refine Q3 ?_ ?_
    | exact TV)
  | (clear 30 (PO ..);first
    | exact TR
    | refine TU ?_)
theorem all_ok (M:Md K mg A fd):∀(n:Nat) (x:Fx),okK (kd x) P w K mg base (2 * n + 2) (A x) (fd x) (ps x) (run n x)
 | 0,x=>RD
 | n + 1,x=>by
   have ih:=all_ok M n;exact step M ih x
end
abbrev fno (x:Fx)(kV dc pm:Value)(an:Option Addr)(cd ct:Value):FuncData:=PySem.W.fnOf (nm x) (ql x) (Cr (st x)) (A8 (st x)) (Al (st x)) .none kV dc pm an cd ct
structure At (K:PySem.W.Frag)(x:Fx)(f:Addr)(fd:FuncData):Prop where
 a:me x=false->PySem.W.nsIn K mainGlobals (nm x)=some (some (.ref f))
 m:me x=true->∃C,PySem.W.nsIn K mainGlobals (ow x)=some (some (.ref C))/\PySem.W.findIn K (.ref C) (nm x)=some (some (.ref f))/\PySem.W.isFn K (.ref f)=true
 fn:Fun K (nm x) (ql x) (st x) f fd
 bd:Binds K fd (ps x) []
 eq:∃kV dc pm an cd ct,fd=fno x kV dc pm an cd ct
theorem at_mk {K:PySem.W.Frag}{x:Fx}{f:Addr}{od an:Option Addr}{sl:Array (Option Value)}{oc kV dc pm cd ct:Value}(e:me x=false)(a:PySem.W.nsIn K mainGlobals (nm x)=some (some (.ref f)))(l:K.lookup f=some ⟨oc,od,.func (fno x kV dc pm an cd ct),sl⟩)(c:PySem.W.codeIn K cd (ql x)=true)(k:PySem.W.keepIn K (.ref f)=true):∃p:Addr×FuncData,At K x p.1 p.2:=by
 refine ⟨(f,fno x kV dc pm an cd ct),λ_=>a,λz=>(by rw [e] at z;cases z),EF (st:=st x) l c k,(EF (st:=st x) l c k).binds (ps:=ps x) λ_ _ _ _ _ _ us hl=>?_,_,_,_,_,_,_,rfl⟩
 cases x <;> first | (obtain rfl:=ua2 hl;rfl) | (obtain ⟨_,rfl⟩:=us1 hl;rfl) | (obtain ⟨_,_,rfl⟩:=us2 hl;rfl) | (obtain ⟨_,_,_,rfl⟩:=us3 hl;rfl) | (obtain ⟨_,_,_,_,rfl⟩:=us4 hl;rfl) | (obtain ⟨_,_,_,_,_,rfl⟩:=us5 hl;rfl) | (obtain ⟨_,_,_,_,_,_,rfl⟩:=us6 hl;rfl) | (obtain ⟨_,_,_,_,_,_,_,rfl⟩:=us7 hl;rfl)
theorem VF {K:PySem.W.Frag}{x:Fx}{f C:Addr}{od an:Option Addr}{sl:Array (Option Value)}{oc kV dc pm cd ct:Value}(e:me x=true)(hc:PySem.W.nsIn K mainGlobals (ow x)=some (some (.ref C)))(a:PySem.W.findIn K (.ref C) (nm x)=some (some (.ref f)))(l:K.lookup f=some ⟨oc,od,.func (fno x kV dc pm an cd ct),sl⟩)(c:PySem.W.codeIn K cd (ql x)=true)(k:PySem.W.keepIn K (.ref f)=true)(t:PySem.W.isFn K (.ref f)=true):∃p:Addr×FuncData,At K x p.1 p.2:=by
 refine ⟨(f,fno x kV dc pm an cd ct),λz=>(by rw [e] at z;cases z),λ_=>⟨C,hc,a,t⟩,EF (st:=st x) l c k,(EF (st:=st x) l c k).binds (ps:=ps x) λ_ _ _ _ _ _ us hl=>?_,_,_,_,_,_,_,rfl⟩
 cases x <;> first | (obtain rfl:=ua2 hl;rfl) | (obtain ⟨_,rfl⟩:=us1 hl;rfl) | (obtain ⟨_,_,rfl⟩:=us2 hl;rfl) | (obtain ⟨_,_,_,rfl⟩:=us3 hl;rfl) | (obtain ⟨_,_,_,_,rfl⟩:=us4 hl;rfl) | (obtain ⟨_,_,_,_,_,rfl⟩:=us5 hl;rfl) | (obtain ⟨_,_,_,_,_,_,rfl⟩:=us6 hl;rfl) | (obtain ⟨_,_,_,_,_,_,_,rfl⟩:=us7 hl;rfl)
theorem xm_all {K:PySem.W.Frag}{h:Heap}{mg:Str->Option Value}{P c1 c2 c3:Addr}{f:Addr}{od an:Option Addr}{sl:Array (Option Value)}{oc kV dc pm cd ct:Value}{f2:Addr}{od2 an2:Option Addr}{sl2:Array (Option Value)}{oc2 kV2 dc2 pm2 cd2 ct2:Value}(X:K.In h)(G:h.Ns mainGlobals mg)(p:PySem.W.nsIn K mainGlobals "ParleyError" = some (some (.ref P)))(a1:PySem.W.nsIn K mainGlobals "Short" = some (some (.ref c1)))(a2:PySem.W.nsIn K mainGlobals "Broken" = some (some (.ref c2)))(a3:PySem.W.nsIn K mainGlobals "NoTalk" = some (some (.ref c3)))(q:Ot K P [c1,c2,c3]=true)(nd:[P,c1,c2,c3].Nodup)(fi:PySem.W.findIn K (.ref c3) "__init__" = some (some (.ref f)))(l:K.lookup f=some ⟨oc,od,.func (PySem.W.fnOf "__init__" "NoTalk.__init__" (Cr (AZ (top 5) 0)) (A8 (AZ (top 5) 0)) (Al (AZ (top 5) 0)) .none kV dc pm an cd ct),sl⟩)(ii:FU K c3 f=true)(hf:PySem.W.isFn K (.ref f)=true)(hs:PySem.W.findIn K (.ref c3) "__setattr__" = some (some (.builtin "object.__setattr__")))(cc:PySem.W.codeIn K cd "NoTalk.__init__" = true)(k:PySem.W.keepIn K (.ref f)=true)(fi2:PySem.W.findIn K (.ref c2) "__init__" = some (some (.ref f2)))(l2:K.lookup f2=some ⟨oc2,od2,.func (PySem.W.fnOf "__init__" "Broken.__init__" (Cr (AZ (top 4) 0)) (A8 (AZ (top 4) 0)) (Al (AZ (top 4) 0)) .none kV2 dc2 pm2 an2 cd2 ct2),sl2⟩)(ii2:FU K c2 f2=true)(hf2:PySem.W.isFn K (.ref f2)=true)(hs2:PySem.W.findIn K (.ref c2) "__setattr__" = some (some (.builtin "object.__setattr__")))(cc2:PySem.W.codeIn K cd2 "Broken.__init__" = true)(k2:PySem.W.keepIn K (.ref f2)=true)(n1:LX K c1=true):∃(P:Addr) (ca:Str->Addr),XM K mg P ca/\(XF1 K (ca "NoTalk") P "NoTalk.__init__" (AZ (top 5) 0)/\XF2 K (ca "Broken") P "Broken.__init__" (AZ (top 4) 0))/\∀n∈(["Short"]:List Str),XN0 K (ca n):=by
 have x:=Zn X G p a1 a2 a3 q nd;refine ⟨P,_,x,⟨X0 (C:=c3) (st:=(AZ (top 5) 0)) ⟨x.cl "NoTalk" (by decide),x.kp "NoTalk" (by decide),x.gt "NoTalk" (by decide),x.gc "NoTalk" (by decide),x.na "NoTalk" (by decide),x.nd "NoTalk" (by decide)⟩ ii hf hs l cc k (λ_ _ _ _ _ _ us hl=>by match us,hl with | [_,_],_=>rfl),X1 (C:=c2) (st:=(AZ (top 4) 0)) ⟨x.cl "Broken" (by decide),x.kp "Broken" (by decide),x.gt "Broken" (by decide),x.gc "Broken" (by decide),x.na "Broken" (by decide),x.nd "Broken" (by decide)⟩ ii2 hf2 hs2 l2 cc2 k2 (λ_ _ _ _ _ _ us hl=>by match us,hl with | [_,_,_],_=>rfl)⟩,?_⟩;intro n hn;simp only [uj8,uh3,or_false] at hn;rcases hn with rfl
 ·exact X2 n1
theorem fin_mk {K:PySem.W.Frag}{h:Heap}{mg:Str->Option Value}{fa:Addr}(X:K.In h)(G:h.Ns mainGlobals mg)(hmg:mg "law" = some (.ref fa))(H:∀x:Fx,∃p:Addr×FuncData,At K x p.1 p.2)(bV:PySem.W.nsIn K mainGlobals "bool" = some none)(bW:PySem.W.nsIn K mainGlobals "dict" = some none)(bY:PySem.W.nsIn K mainGlobals "int" = some none)(b8:PySem.W.nsIn K mainGlobals "isinstance" = some none)(cD:PySem.W.nsIn K mainGlobals "len" = some none)(bH:PySem.W.nsIn K mainGlobals "list" = some none)(cB:PySem.W.nsIn K mainGlobals "max" = some none)(cE:PySem.W.nsIn K mainGlobals "min" = some none)(cF:PySem.W.nsIn K mainGlobals "ord" = some none)(bG:PySem.W.nsIn K mainGlobals "range" = some none)(b9:PySem.W.nsIn K mainGlobals "reversed" = some none)(cG:PySem.W.nsIn K mainGlobals "str" = some none)(bJ:PySem.W.nsIn K mainGlobals "tuple" = some none){c6:Tok}(b6:PySem.W.nsIn K mainGlobals "FIRST_SIGN" = some (some (.int 32 c6))){c9:Tok}(b7:PySem.W.nsIn K mainGlobals "LAST_SIGN" = some (some (.int 126 c9))){bQ:Tok}(b5:PySem.W.nsIn K mainGlobals "PERCENT_SIGN" = some (some (.int 37 bQ))){cQ:Tok}(bD:PySem.W.nsIn K mainGlobals "SIGNS" = some (some (.str " !\"#$ &'()*+,-./0123456789:;<=>?@ABCDEFGHIJKLMNOPQRSTUVWXYZ[\\]^_`abcdefghijklmnopqrstuvwxyz{|}~" cQ)))(xm:∃(P:Addr) (ca:Str->Addr),XM K mg P ca/\(XF1 K (ca "NoTalk") P "NoTalk.__init__" (AZ (top 5) 0)/\XF2 K (ca "Broken") P "Broken.__init__" (AZ (top 4) 0))/\∀n∈(["Short"]:List Str),XN0 K (ca n)){bM bU:Addr}(cJ:PySem.W.nsIn K mainGlobals "Reader" = some none)(c7:PySem.W.nsIn K mainGlobals "Lasting" = some none)(cI:PySem.W.nsIn K mainGlobals "Parley" = some none)(bX:PySem.W.nsIn K mainGlobals "Listener" = some none)(cL:PySem.W.nsIn K mainGlobals "Relay" = some none)(cR:PySem.W.nsIn K mainGlobals "Desk" = some none)(bB:PySem.W.nsIn K mainGlobals "Hearer" = some (some (.ref bM)))(b4:PySem.W.nsIn K mainGlobals "Side" = some (some (.ref bU)))(cT:ND K bU=true)(cS:NR K bU=true)(bK:PySem.W.findIn K (.ref bU) "state" = PySem.W.findIn K (.ref bM) "state")(bR:PySem.W.findIn K (.ref bU) "hear" = PySem.W.findIn K (.ref bM) "hear")(bC:PySem.W.findIn K (.ref bU) "unread_of" = PySem.W.findIn K (.ref bM) "unread_of")(cK:byB K bM "__init__" = true):∃(A:Fx->Addr) (fd:Fx->FuncData),Md K mg A fd/\A .law_=fa/\∀(s:Shared) (u:Value),BindsTo s (fd .law_) ⟨[u],[]⟩ [("script",u)]:=by
 obtain ⟨F,hF⟩:=Classical.axiomOfChoice H;have fm:∀x,me x=true->∀C,PySem.W.nsIn K mainGlobals (ow x)=some (some (.ref C))->PySem.W.findIn K (.ref C) (nm x)=some (some (.ref (F x).1))/\PySem.W.isFn K (.ref (F x).1)=true:=λx hx C h=>by
  obtain ⟨C,e1,e2,e3⟩:=(hF x).m hx;have e4:=e1.symm.trans h
  cases e4
  exact ⟨e2,e3⟩
 have c8:=fm .AA rfl _ bB;have bN:=fm .AC rfl _ bB;have bT:=fm .AI rfl _ bB;have bF:=fm .Av rfl _ bB;have bL:=fm .AM rfl _ b4;have cH:=fm .AK rfl _ b4;have cA:=fm .AO rfl _ b4;have bZ:=fm .AQ rfl _ b4;have bS:=fm .AJ rfl _ b4;have bP:=fm .Az rfl _ b4;have bO:=fm .A6 rfl _ b4;have bE:=fm .AH rfl _ b4;have bI:=fm .AS rfl _ b4;have cm:CM K:=X6 λn hn=>by
  simp only [JH,uj8,uh3,or_false] at hn;rcases hn with rfl | rfl | rfl | rfl | rfl | rfl | rfl
  ·exact .inl cJ
  ·exact .inr ⟨_,b4,cT⟩
  ·exact .inl c7
  ·exact .inl cI
  ·exact .inl bX
  ·exact .inl cL
  ·exact .inl cR
 refine ⟨λx=>(F x).1,λx=>(F x).2,{ fn:=λx=>(hF x).fn,mgs:=λx e=>uk7 X G ((hF x).a e),bd:=λx=>(hF x).bd,cm:=cm,OE:=⟨_,b4,uk7 X G b4,Yr cS bL.1 bL.2,⟨cH.1,cH.2,Fun.kp (hF .AK).fn⟩,⟨cA.1,cA.2,Fun.kp (hF .AO).fn⟩,⟨bZ.1,bZ.2,Fun.kp (hF .AQ).fn⟩,⟨bS.1,bS.2,Fun.kp (hF .AJ).fn⟩,⟨bP.1,bP.2,Fun.kp (hF .Az).fn⟩,⟨bO.1,bO.2,Fun.kp (hF .A6).fn⟩,⟨bE.1,bE.2,Fun.kp (hF .AH).fn⟩,⟨bI.1,bI.2,Fun.kp (hF .AS).fn⟩,⟨bK.trans bN.1,bN.2,Fun.kp (hF .AC).fn⟩,⟨bR.trans bT.1,bT.2,Fun.kp (hF .AI).fn⟩,⟨bC.trans bF.1,bF.2,Fun.kp (hF .Av).fn⟩⟩,cO:=⟨_,uk7 X G bB,X5 cK c8.1 (Fun.kp (hF .AA).fn)⟩,xm:=xm,bV:=uf1 X G bV,bW:=uf1 X G bW,bY:=uf1 X G bY,b8:=uf1 X G b8,cD:=uf1 X G cD,bH:=uf1 X G bH,cB:=uf1 X G cB,cE:=uf1 X G cE,cF:=uf1 X G cF,bG:=uf1 X G bG,b9:=uf1 X G b9,cG:=uf1 X G cG,bJ:=uf1 X G bJ,b6:=⟨c6,uk7 X G b6⟩,b7:=⟨c9,uk7 X G b7⟩,b5:=⟨bQ,uk7 X G b5⟩,bD:=⟨cQ,uk7 X G bD⟩ },?_,λs u=>?_⟩
 ·have e:=hmg.symm.trans (uk7 X G ((hF .law_).a rfl))
  cases e
  rfl
 ·obtain ⟨_,_,_,_,_,_,e⟩:=(hF .law_).eq;show BindsTo s (F .law_).2 _ _;rw [e];exact .of_eq rfl
theorem walk {l:PySem.W.OpenLaw}{q:Program}{loose:List Str}{XP:(Str->Option Value)->Heap->Prop}{YP:World->Heap->Prop}{d:DefRec}{K:Params->PySem.W.Frag}(m:Nat)(hm:Room (2 * m + 2) callerA)(hn:l.most=some 63)(hdf:d.params.defaults=[])
 (hY:∀(w:World) (h:Heap),YP w h->(K w.params).In h) (lt:∀ns:List Int,ns.length<=63->∃S',run m .law_ [.scr ns] []=some (.bl true,S'))
 (F:∀(w:World) (mg:Str->Option Value) (fa:Addr) (h:Heap),(K w.params).In h->h.Ns mainGlobals mg->mg d.name=some (.ref fa)->
   ∃(A:Fx->Addr) (fd:Fx->FuncData),Md (K w.params) mg A fd/\A .law_=fa/\∀(s:Shared) (u:Value),BindsTo s (fd .law_) ⟨[u],[]⟩ [("script",u)]) :
 PySem.W.WalkO q loose XP YP l.row.toRowW d [] (λf vs=>PySem.call f vs):=
 L2.Vs (n:=63) (k:=2 * m + 2) (x:="script") (CX:=λ_=>CX0) (sp:=λw=>spF (K w.params) (run m .law_)) hn (by decide) hdf hm hY
  (λw mg fa h KX G hmg=>by obtain ⟨A,fd,M,e,b⟩:=F w mg fa h KX G hmg;subst e;exact ⟨fd .law_,b,λbase _ _=>all_ok M m .law_⟩)
  (λw H a ns hl hO hS=>by obtain ⟨S',e⟩:=lt ns hl;exact Pp hO hS e) λ_ _ _ _ _ z=>z
theorem Uh (k:Nat):MG (run (k + 1) .Cb):=λd h=>LN h
theorem Jr (k:Nat):F6 (run (k + 2) .A5):=Qx (Uh k)
theorem Mm (k:Nat):IC (run (k + 1) .CH):=NN
theorem Sz (k:Nat):Lf (run (k + 2) .Ca):=LJ (Mm k)
theorem Ih:∀(n k:Nat),2 * n + 3<=k->E4 (run k .D8) n
 | 0,k,_=>λs hs=>absurd s.depth_pos (by lia)
 | n + 1,k,h=>by
   obtain ⟨j,rfl⟩:∃j,k=j + 4:=Nat.exists_eq_add_of_le' (by lia);have ih:=Ih n (j + 2) (by lia);exact TM (JL ih (Jr j)) (LI ih) (LH ih) (Sz (j + 1)) (Jr (j + 1))
theorem LO (k:Nat):GG (run (k + 1) .CJ):=T7
theorem RC (k:Nat):Lc (run (k + 2) .BB):=Ui (LO k)
theorem Nm (k:Nat):IE (run (k + 1) .By):=SN
theorem LG:∀(n k:Nat),n + 3<=k->Hi (run k .Bf) n
 | 0,k,_=>λs hs=>absurd s.depth_pos (by lia)
 | n + 1,k,h=>by
   obtain ⟨j,rfl⟩:∃j,k=j + 3:=Nat.exists_eq_add_of_le' (by lia);exact TL (LG n (j + 2) (by lia)) (Nm (j + 1)) (RC j)
theorem Ll (k:Nat):BXw (run (k + 1) .Ch):=VM
theorem XG (k:Nat):UXw (run (k + 2) .Bs):=XH (Ll k)
theorem Xy (k:Nat):SXw (run (k + 2) .Dt):=Xz (Mm k) (Ll k)
theorem L9:∀(n k:Nat),2 * n + 4<=k->GH (run k .Bl) n
 | 0,k,_=>λs hs=>absurd s.depth_pos (by lia)
 | n + 1,k,h=>by
   obtain ⟨j,rfl⟩:∃j,k=j + 5:=Nat.exists_eq_add_of_le' (by lia);exact N6 rfl rfl rfl rfl rfl (XG (j + 1)) (Xy (j + 1)) (LO (j + 2)) (Ll (j + 2)) (Nm (j + 2)) (L9 n (j + 3) (by lia))
theorem Ub (k:Nat):Qz (run (k + 11) .BC):=Ua (L9 3 (k + 10) (by lia))
theorem ME (k:Nat):Ju (run (k + 12) .Dq):=MD (Ub k)
theorem Re (k:Nat):Nn (run (k + 13) .AI):=Rc (ME k)
theorem JR (k:Nat):Hj (run (k + 1) .Bt):=WS
theorem NQ (k:Nat):EU (run (k + 14) .AJ):=NP (JR (k + 12)) (Re k)
theorem Mo (k:Nat):EU (run (k + 15) .AO):=Sy (NQ k)
theorem Mw (k:Nat):Hn (run (k + 2) .Az):=SM (JR k)
theorem Pi (k:Nat):Js (run (k + 1) .Dx):=Ku
theorem Qy (k:Nat):Jw (run (k + 2) .Cw):=SO (Pi k)
theorem Jg (k:Nat):F4 (run (k + 3) .BM):=JS (Qy k)
theorem N0 (k:Nat):HX (run (k + 10) .BK):=KM (Ih 3 (k + 9) (by lia)) (Jg (k + 6))
theorem N1 (k:Nat):Jt (run (k + 10) .BK):=NZ (Ih 3 (k + 9) (by lia)) (Jg (k + 6))
theorem Rz (k:Nat):Lb (run (k + 1) .BR):=Uf
theorem Rw (k:Nat):Nr (run (k + 7) .Bp):=WB (LG 3 (k + 6) (by lia))
theorem Nf (k:Nat):HY (run (k + 12) .AK):=UR (Qb (Rw (k + 3)) (Rz (k + 9)) (N0 k))
theorem Si (k:Nat):Iz (run (k + 12) .AK):=Sg (Od (N1 k))
theorem KA:∀(d k:Nat),d + 1<=k->GI (run k .BI) d
 | 0,k,h=>by
   obtain ⟨j,rfl⟩:∃j,k=j + 1:=Nat.exists_eq_add_of_le' (by lia);exact Ss
 | d + 1,k,h=>by
   obtain ⟨j,rfl⟩:∃j,k=j + 1:=Nat.exists_eq_add_of_le' (by lia);exact Su (KA d j (by lia))
theorem HG:∀(n k:Nat),n<=k->GJ (run k .Bk) n
 | 0,k,_=>Qm
 | n + 1,k,h=>by
   obtain ⟨j,rfl⟩:∃j,k=j + 1:=Nat.exists_eq_add_of_le' (by lia);exact Vg (HG n j (by lia))
theorem Jb:∀(n k:Nat),n + 1<=k->HW (run k .Bj) n
 | 0,k,_=>λs hs=>absurd s.depth_pos (by lia)
 | n + 1,k,h=>by
   obtain ⟨j,rfl⟩:∃j,k=j + 2:=Nat.exists_eq_add_of_le' (by lia);exact Tt (Jb n (j + 1) (by lia)) WE
theorem Ra:GrN (run 99 .BA):=ZI (KA 2 98 (by decide)) OI Yq
theorem law_true (ns:List Int)(h:ns.length<=63):∃S',run 100 .law_ [.scr ns] []=some (.bl true,S'):=by
 obtain ⟨r,S',e,p⟩:=Yp (Mw 97) (T8 (Mo 83) (Nf 86) (Jb 3 98 (by decide)) (Mw 96) (HG 3 98 (by decide))) (T9 (Jb 3 98 (by decide)) (Rp (Nf 85)) (Ro (Si 85)) (HG 3 98 (by decide))) (Rr (Mo 83) (Jb 3 98 (by decide)) (HG 3 98 (by decide))) OI (JR 97) Ra (ns:=ns) h;subst p;exact ⟨S',e⟩
end K36
namespace PySem.W.Fast
def tw10034934955724195219:=0
def tw10062626363240749094:=0
def tw10104462591296107005:=0
def tw10134044000603915844:=0
def tw10134140720993992839:=0
def tw10164113492950118834:=0
def tw10318403623906829541:=0
def tw10323116683069422118:=0
def tw10323867892564525393:=0
def tw10339440522010816226:=0
def tw10348603457095360741:=0
def tw10460943134025608625:=0
def tw10518246490571538331:=0
def tw10535721110108429929:=0
def tw10544795653570941742:=0
def tw10581271408003557101:=0
def tw10588952068234779192:=0
def tw10599085400472508913:=0
def tw10606580439280620538:=0
def tw10625112968750060087:=0
def tw10641514453369380809:=0
def tw10659073024359408958:=0
def tw10666124730821615230:=0
def tw10677673693894033554:=0
def tw10734385792261274123:=0
def tw10788080925162532224:=0
def tw10806412482107875908:=0
def tw10810668119586313390:=0
def tw10811156754083213226:=0
def tw10827570991838042922:=0
def tw10876995790468109192:=0
def tw10890115080924948870:=0
def tw10893214755879376452:=0
def tw10898232448176028459:=0
def tw11023246843811391884:=0
def tw11031496053993718574:=0
def tw11105202902043946208:=0
def tw11115734171602839927:=0
def tw11137470634096057590:=0
def tw11147778365165850689:=0
def tw1115505932557079879:=0
def tw11184950798321452907:=0
def tw11195457711916457346:=0
def tw11202032951071896502:=0
def tw11224075608468457075:=0
def tw11269053457868552990:=0
def tw11269167253521378509:=0
def tw11305769759105878484:=0
def tw11412855621610727453:=0
def tw11484753885910381360:=0
def tw11485331670644987006:=0
def tw11502134614387929757:=0
def tw11527986837463826631:=0
def tw11590998558639248746:=0
def tw11593421966201075043:=0
def tw11664128754668440261:=0
def tw1167490644103272837:=0
def tw11709861748960504928:=0
def tw11742308851253291350:=0
def tw11744251033349211972:=0
def tw11798405437036581145:=0
def tw11843497233315969414:=0
def tw11860582799414853011:=0
def tw12048332559238780355:=0
def tw12086548974895490927:=0
def tw12089448177884684924:=0
def tw12102253076217681145:=0
def tw12181179770217588489:=0
def tw12257552315336364904:=0
def tw12284383426767373718:=0
def tw12339581811647608770:=0
def tw1246269899647094209:=0
def tw12602257137584628491:=0
def tw12607175563992997144:=0
def tw126166009379794161:=0
def tw12646218586899787454:=0
def tw1266914348123565448:=0
def tw12673238667985406736:=0
def tw12743738684528844872:=0
def tw12750612777648824976:=0
def tw12766330266525414780:=0
def tw12775399648495480809:=0
def tw12777617691793752342:=0
def tw12805564708722371267:=0
def tw12818398327525316145:=0
def tw12844325598799049547:=0
def tw12926395687454891522:=0
def tw12952977474434822623:=0
def tw13015267789030180104:=0
def tw13040684937071289359:=0
def tw13061993522719615751:=0
def tw13129062053550884790:=0
def tw13188607464303831583:=0
def tw13222154105455112451:=0
def tw13316196511730849633:=0
def tw13319876838251780921:=0
def tw13385715973275020940:=0
def tw13405923060914836846:=0
def tw13424890936171585183:=0
def tw13568156589196378979:=0
def tw13582978520897927799:=0
def tw13620481083369387641:=0
def tw13647791690711596742:=0
def tw13650621620811440374:=0
def tw13740226054202012368:=0
def tw13815772490951196598:=0
def tw13861554573094045247:=0
def tw13864894862256756034:=0
def tw13928090516702453419:=0
def tw14006346472498081005:=0
def tw14010345981176535456:=0
def tw1403119427853850047:=0
def tw14046518387276098744:=0
def tw14060772005027341956:=0
def tw14143507406144997707:=0
def tw14169482248931734954:=0
def tw14169869032402684880:=0
def tw14258784256680580243:=0
def tw14261714786772658530:=0
def tw14272176366387515384:=0
def tw14289594846615022516:=0
def tw14344053449695447197:=0
def tw143562999767062557:=0
def tw14408288956716923316:=0
def tw14456481525177891878:=0
def tw1447272354079294441:=0
def tw14483386996798007240:=0
def tw14539488936663035492:=0
def tw14635805504363925174:=0
def tw1465318542320439359:=0
def tw14668192602321183811:=0
def tw14761679425542457193:=0
def tw14769893509001360848:=0
def tw14777460232473001008:=0
def tw1479578086834272475:=0
def tw14816194014686854009:=0
def tw14868428191284323566:=0
def tw149253837502463510:=0
def tw149800111181575029:=0
def tw15004728844826941440:=0
def tw15072191485667981935:=0
def tw15132354648288892674:=0
def tw151748039544131086:=0
def tw15203371952366538099:=0
def tw15212711640746413814:=0
def tw15217908546385326761:=0
def tw15284214604758566718:=0
def tw1530984471546402813:=0
def tw15488583899147106329:=0
def tw15500086422544982920:=0
def tw15605589379310425048:=0
def tw15639502662223431975:=0
def tw15702265011479861259:=0
def tw15704697473891072127:=0
def tw15705628539719308268:=0
def tw15783398392060209839:=0
def tw15837018368576232057:=0
def tw15859705070489815063:=0
def tw15865003338973878336:=0
def tw16052537505778100450:=0
def tw16063907332422789590:=0
def tw16122467711052384310:=0
def tw16127440313573952544:=0
def tw16170149062483995279:=0
def tw16219878844424401230:=0
def tw16294404067128117509:=0
def tw1632653042466394206:=0
def tw16398072824636487879:=0
def tw16421128254188598558:=0
def tw16476511110825654504:=0
def tw16478564928392189590:=0
def tw16565280004773837512:=0
def tw16603715788173757991:=0
def tw16627601693213817911:=0
def tw16629866328030396279:=0
def tw16684201621612966061:=0
def tw16697231162465748110:=0
def tw1671403920776694108:=0
def tw16740117239928840858:=0
def tw16749947334948770334:=0
def tw16803007397439516418:=0
def tw16847779001154518557:=0
def tw16853329513082343245:=0
def tw16878491368912992820:=0
def tw16936455295248117583:=0
def tw1695844155022605165:=0
def tw17002143056353096394:=0
def tw17061022004231834932:=0
def tw17079377454335894498:=0
def tw17079437413403397826:=0
def tw17126672072813799463:=0
def tw17196297279908184812:=0
def tw17204733938830088559:=0
def tw17214311890652093908:=0
def tw17323729255479093296:=0
def tw17331493252902899515:=0
def tw17336418638471395091:=0
def tw17337281022514419799:=0
def tw17368802213777386085:=0
def tw17394281195301382474:=0
def tw17461882431535224023:=0
def tw17493870908252395958:=0
def tw17539383340714307990:=0
def tw17554515836573283958:=0
def tw17582074020420128443:=0
def tw17596744997839000946:=0
def tw17655434161192425620:=0
def tw17659043373984853894:=0
def tw17690458416562942878:=0
def tw17710256138793480130:=0
def tw17722422260989428164:=0
def tw17723691283332506828:=0
def tw17732153916035250885:=0
def tw1774497099432418388:=0
def tw17761274102137509091:=0
def tw17811694116509358899:=0
def tw17820986635956709679:=0
def tw17827205911516506091:=0
def tw17895391765444604412:=0
def tw17909377498270338421:=0
def tw17975491420758593852:=0
def tw18065223239263611823:=0
def tw18108421225377076046:=0
def tw18134423952140620782:=0
def tw18178432272401496145:=0
def tw18214204825615393251:=0
def tw18239798570041592379:=0
def tw18254843567898645199:=0
def tw18270485822337549500:=0
def tw18286747349239824533:=0
def tw18316556991121927311:=0
def tw18338739439678537805:=0
def tw18350190631228306288:=0
def tw18382913022297524632:=0
def tw18396842208701898945:=0
def tw18445294766484998686:=0
def tw1868238321038990145:=0
def tw1882160379270269013:=0
def tw1903741366114355942:=0
def tw1960299717540966307:=0
def tw1961417513159674158:=0
def tw1984054251032037762:=0
def tw2016518119775148380:=0
def tw2085650386123129291:=0
def tw2094985868890290720:=0
def tw2113561735420419144:=0
def tw2115457736978423343:=0
def tw2132953103660198473:=0
def tw2166291241209068862:=0
def tw2274251763135540490:=0
def tw2300268651719577608:=0
def tw2334981976155301532:=0
def tw2379958105616369958:=0
def tw2392578631360907967:=0
def tw2409163780487974740:=0
def tw2626195707854667251:=0
def tw2634822780137657725:=0
def tw2849221065697844695:=0
def tw2962701391716221689:=0
def tw3046762662531853940:=0
def tw3081713327226866861:=0
def tw3089011248558187771:=0
def tw3147821537317931551:=0
def tw3182136754296270664:=0
def tw3226123706761903128:=0
def tw3263117999748792960:=0
def tw3280923869081834373:=0
def tw3315678699681676566:=0
def tw3341401344230886791:=0
def tw3359376596902675367:=0
def tw3390814154999551430:=0
def tw3490876626867794259:=0
def tw3561263657249374344:=0
def tw3653512594138270624:=0
def tw3672716400930019259:=0
def tw3679176962032400758:=0
def tw3690267605138863273:=0
def tw3712114414284125877:=0
def tw3720524841699199659:=0
def tw3748670018296803853:=0
def tw3869150557729849114:=0
def tw3895075496128712381:=0
def tw3940096245983533773:=0
def tw3971051978406006536:=0
def tw401241396934674483:=0
def tw4018086985269005933:=0
def tw4047071613498275386:=0
def tw4086852314454044514:=0
def tw4087584877762968679:=0
def tw4122026205477842773:=0
def tw4170245218254054053:=0
def tw4195238130058824241:=0
def tw4208900715583370590:=0
def tw4289098779604585871:=0
def tw4319094620497103744:=0
def tw433864955717417074:=0
def tw4349408407857022554:=0
def tw43502374121786087:=0
def tw4364913617631829716:=0
def tw4457471619865800387:=0
def tw4485990784992493404:=0
def tw4524974154568462551:=0
def tw4563269568956178446:=0
def tw4589175279168050168:=0
def tw4593130969634349336:=0
def tw4602983922374528913:=0
def tw4604938721059914452:=0
def tw4605196581848182975:=0
def tw4734259739207016267:=0
def tw4759922316563658904:=0
def tw4774582404949820143:=0
def tw4829562656999247351:=0
def tw4864916943828311347:=0
def tw4881716060009438112:=0
def tw4934265459326916657:=0
def tw493641549912312185:=0
def tw4937481569025848539:=0
def tw4999151972380719386:=0
def tw5009839899153354983:=0
def tw5015450964376205389:=0
def tw5033993846935735586:=0
def tw5092533416419288643:=0
def tw5108132344802219800:=0
def tw5117896024656423476:=0
def tw5289457854842800930:=0
def tw52983712963604886:=0
def tw5332418037273352461:=0
def tw5373154960333924471:=0
def tw5456653906197179820:=0
def tw5460650904541563857:=0
def tw5506843005049333343:=0
def tw5544355366753753346:=0
def tw5558779072737656990:=0
def tw5616531196627745039:=0
def tw5681514750039854015:=0
def tw5719281922471275611:=0
def tw5739507394221567039:=0
def tw5740458982354419374:=0
def tw5781693327860167054:=0
def tw5818399801677036558:=0
def tw582712793003436347:=0
def tw587231144767601045:=0
def tw5875977404833867320:=0
def tw5888861571662813537:=0
def tw5906785899722911435:=0
def tw5940375245359698941:=0
def tw5958835717114714949:=0
def tw5967241958216322623:=0
def tw5980187621023911212:=0
def tw598619572329147645:=0
def tw6012134534898923536:=0
def tw6066263545204155235:=0
def tw608079288684804616:=0
def tw6113896105034800548:=0
def tw6166199479272662505:=0
def tw6171969479295205908:=0
def tw6201775545699583668:=0
def tw6234122762853495093:=0
def tw6307336413007202950:=0
def tw631235577455688571:=0
def tw638821944893407977:=0
def tw6390908754871019832:=0
def tw6421503123738352723:=0
def tw6435436099399194606:=0
def tw6484003050362420118:=0
def tw6498749871463967416:=0
def tw6641011089512603394:=0
def tw6671768451571344703:=0
def tw6713280850755091266:=0
def tw6739511549644714161:=0
def tw6812720584537750828:=0
def tw6830076670877968721:=0
def tw6858039586795043563:=0
def tw6921575527343488238:=0
def tw6929926952968918711:=0
def tw6952344081728962408:=0
def tw6959642880956560916:=0
def tw6980053076127048133:=0
def tw7002094089423884760:=0
def tw7031047425602962930:=0
def tw7050334456125317369:=0
def tw7058989530379671659:=0
def tw7096120816755705035:=0
def tw7098052007964627166:=0
def tw7115558147436529239:=0
def tw7146491436524992161:=0
def tw7171970046736679431:=0
def tw7194189056710849216:=0
def tw7217007351233380907:=0
def tw7239638607443807399:=0
def tw734089857654412505:=0
def tw7364488137037423839:=0
def tw7394001583111665072:=0
def tw74265493908195260:=0
def tw756120438952527659:=0
def tw7579627332962090008:=0
def tw7704922470134610336:=0
def tw7722147694864065159:=0
def tw7727949925868153756:=0
def tw774130022761645585:=0
def tw7789025330805321262:=0
def tw7892231526986771092:=0
def tw7951338184171960991:=0
def tw7958284551186467784:=0
def tw7978081544745186582:=0
def tw7986581353973479354:=0
def tw7998321152043432194:=0
def tw803074003215718624:=0
def tw8064562319469715369:=0
def tw8101696903817385762:=0
def tw8141293073542421336:=0
def tw8266807871621589623:=0
def tw8281350745446238572:=0
def tw8297979476092583793:=0
def tw8313021989263650913:=0
def tw8355909193686970742:=0
def tw8388829411852592365:=0
def tw8399890870377249231:=0
def tw8410949248321817970:=0
def tw8455107178440703626:=0
def tw8542817850729784987:=0
def tw8599377407157443865:=0
def tw8601736956531009558:=0
def tw8670855354207636955:=0
def tw8703830118777841290:=0
def tw8741714175580683582:=0
def tw8744635748125139277:=0
def tw875044673024304444:=0
def tw8814132272875847880:=0
def tw8847713062973862096:=0
def tw887174845051710850:=0
def tw8920129084453391633:=0
def tw894369367479205137:=0
def tw8982913061583200232:=0
def tw9067194183650027739:=0
def tw9176466061025927031:=0
def tw928710843964274013:=0
def tw9298063758734427509:=0
def tw9301399836823990746:=0
def tw9345644027968945866:=0
def tw9445844006250513837:=0
def tw9449619410526892071:=0
def tw9451795524750115101:=0
def tw9458101008884520655:=0
def tw94754658004191718:=0
def tw9484379665015871526:=0
def tw9492425417855714002:=0
def tw9507042944620789109:=0
def tw9558330925709142786:=0
def tw9564249757700006932:=0
def tw9709861319701225:=0
def tw9728592687343797419:=0
def tw9762679195530673612:=0
def tw9788366380516450016:=0
def tw9804853616915622059:=0
def tw9831253152223241032:=0
def tw9839641885668800651:=0
def tw989744689166356589:=0
def tw9919072148379028629:=0
end PySem.W.Fast
open PySem PySem.W PyProof.Rows
set_option maxRecDepth 100000 in
set_option maxHeartbeats 0 in
theorem PySem.Challenge.cw_wireparley_k36_sides_say_and_take_holds : PySem.Challenge.rw_wireparley_k36_sides_say_and_take.Holds := by
 w_on;o_law;k_head;(case hw=>w_witness2)
 k_fill
 refine K36.walk (l:=PySem.Challenge.rw_wireparley_k36_sides_say_and_take) 100 ⟨rfl,by decide,by decide⟩ rfl rfl (λw h Y=>PySem.W.kIn_of Y) K36.law_true ?F
 case F=>
  intro w mg fa h KX G hmg;refine' K36.fin_mk KX G hmg ?H ?bV ?bW ?bY ?b8 ?cD ?bH ?cB ?cE ?cF ?bG ?b9 ?cG ?bJ ?b6 ?b7 ?b5 ?bD ?xm ?cJ ?c7 ?cI ?bX ?cL ?cR ?bB ?b4 ?cT ?cS ?bK ?bR ?bC ?cK
  (case H=>intro x;cases x <;> first | (refine' K36.at_mk rfl ?a ?l ?c ?k;(case a=>k_is);(case l=>k_is);(case c=>k_is);(case k=>k_is)) | (refine' K36.VF rfl ?h ?a ?l ?c ?k ?t;(case h=>k_is);(case a=>k_is);(case l=>k_is);(case c=>k_is);(case k=>k_is);(case t=>k_is)))
  (case cJ=>k_is)
  (case c7=>k_is)
  (case cI=>k_is)
  (case bX=>k_is)
  (case cL=>k_is)
  (case cR=>k_is)
  (case bB=>k_is)
  (case b4=>k_is)
  (case cT=>kernel_rfl)
  (case cS=>kernel_rfl)
  (case bK=>kernel_rfl)
  (case bR=>kernel_rfl)
  (case bC=>kernel_rfl)
  (case cK=>kernel_rfl)
  (case bV=>k_is)
  (case bW=>k_is)
  (case bY=>k_is)
  (case b8=>k_is)
  (case cD=>k_is)
  (case bH=>k_is)
  (case cB=>k_is)
  (case cE=>k_is)
  (case cF=>k_is)
  (case bG=>k_is)
  (case b9=>k_is)
  (case cG=>k_is)
  (case bJ=>k_is)
  (case b6=>k_is)
  (case b7=>k_is)
  (case b5=>k_is)
  (case bD=>k_is)
  (case xm=>refine' K36.xm_all KX G ?x_p ?x_a1 ?x_a2 ?x_a3 ?x_q ?x_nd ?x_fi ?x_l ?x_ii ?x_hf ?x_hs ?x_cc ?x_k ?y_fi ?y_l ?y_ii ?y_hf ?y_hs ?y_cc ?y_k ?x_n1;(case x_p=>k_is);(case x_a1=>k_is);(case x_a2=>k_is);(case x_a3=>k_is);(case x_q=>kernel_rfl);(case x_nd=>decide);(case x_fi=>k_is);(case x_l=>k_is);(case x_ii=>kernel_rfl);(case x_hf=>k_is);(case x_hs=>k_is);(case x_cc=>k_is);(case x_k=>k_is);(case y_fi=>k_is);(case y_l=>k_is);(case y_ii=>kernel_rfl);(case y_hf=>k_is);(case y_hs=>k_is);(case y_cc=>k_is);(case y_k=>k_is);(case x_n1=>kernel_rfl))
