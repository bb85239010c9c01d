import PyProof.Rows.All
import Wide.All
import OpenK.AllK
import Wide.FinOn
import Lean
import PyProof.EqAt
import PyProof.EqKinds
import PyProof.TupleCall
import PyProof.NeKinds
import PyProof.ListMulRoad
import PyProof.MaxThree
import PyProof.Rows.StrJoinMade
import PyProof.ListStr
import PyProof.Rows.MinMaxN
import PyProof.Rows.Range3
import PyProof.ListRange
import PyProof.Rows.SetFrom
import PyProof.Rows.StrCase
import PyProof.SumAny
import PyProof.AutoIntG2
import PyProof.AutoListH
import PyProof.EnumStmt
import PyProof.EnumFor
import PyProof.EnumMake
import PyProof.Rows.EnumRows
import PyProof.ConsumeS
import PyProof.Rows.SortWalk
import KE.KDictSum
import PyProof.ZipIter
import KE.KEqDict
import PyProof.ExcClass2
import PyProof.RaisesMany
import PyProof.ExcBaseAll.ValueError
import PyProof.RulesDel
import PyProof.RulesAs
import PyProof.ExcArgs
import KE.KDictOf
import PyProof.AttrMissHeap
import KE.KMinKey
import PyProof.Rows.CallKwBuiltin
import PySem.Challenge.RW_wireparley_k79_said_behind
noncomputable section
abbrev ua0:=@List.findIdx?_eq_some_iff_getElem
abbrev ua1:=@Array.getElem?_setIfInBounds_ne
abbrev ua2:=@List.eq_nil_of_length_eq_zero
abbrev ua3:=@PyProof.Rows.callWith_type1
abbrev ua4:=@PySem.F.slot_int_bit_length
abbrev ua5:=@List.getElem?_append_right
abbrev ua6:=@PySem.F.excBase_ValueError
abbrev ua7:=@Array.getElem?_eq_some_iff
abbrev ua8:=@List.getD_eq_getElem?_getD
abbrev ua9:=@List.getElem?_eq_some_iff
abbrev ub0:=@List.getElem?_append_left
abbrev ub1:=@List.drop_eq_getElem_cons
abbrev ub2:=@List.getElem?_eq_none_iff
abbrev ub3:=@List.getElem?_eq_getElem
abbrev ub4:=@Array.size_setIfInBounds
abbrev ub5:=@List.getElem?_replicate
abbrev ub6:=@PySem.F.plainAttrs_list
abbrev ub7:=@Int.eq_ofNat_of_zero_le
abbrev ub8:=@List.getElem?_set_self
abbrev ub9:=@PySem.Heap.get?_push_of_some
abbrev uc0:=@PySem.W.cellsFrom_some
abbrev uc1:=@PySem.Heap.get?_update_other
abbrev uc2:=@Option.map_eq_some_iff
abbrev uc3:=@List.take_of_length_le
abbrev uc4:=@Nat.div_div_eq_div_mul
abbrev uc5:=@List.mem_append_right
abbrev uc6:=@PySem.W.methodCall_KW
abbrev uc7:=@List.length_replicate
abbrev uc8:=@PySem.Heap.get?_update_self
abbrev uc9:=@List.mem_cons_of_mem
abbrev ud0:=@List.mem_append_left
abbrev ud1:=@List.getElem?_set_ne
abbrev ud2:=@List.mem_of_getElem?
abbrev ud3:=@List.filterMap_cons
abbrev ud4:=@PySem.Heap.get?_push_size
abbrev ud5:=@PySem.W.plainGet_of
abbrev ud6:=@List.replicate_succ
abbrev ud7:=@List.map_congr_left
abbrev ud8:=@Nat.lt_of_lt_of_le
abbrev ud9:=@List.mem_cons_self
abbrev ue0:=@Bool.false_ne_true
abbrev ue1:=@Array.find?_toList
abbrev ue2:=@PySem.W.callWith_K
abbrev ue3:=@List.length_append
abbrev ue4:=@Bool.false_eq_true
abbrev ue5:=@List.mem_singleton
abbrev ue6:=@List.contains_cons
abbrev ue7:=@List.getElem?_take
abbrev ue8:=@Int.emod_lt_of_pos
abbrev ue9:=@PySem.W.mg_none_of
abbrev uf0:=@List.size_toArray
abbrev uf1:=@List.getElem?_map
abbrev uf2:=@Int.toNat_natCast
abbrev uf3:=@List.flatten_cons
abbrev uf4:=@List.append_assoc
abbrev uf5:=@Bool.eq_false_iff
abbrev uf6:=@List.getElem?_set
abbrev uf7:=@Option.some.injEq
abbrev uf8:=@decide_eq_true_eq
abbrev uf9:=@of_decide_eq_true
abbrev ug0:=@List.getElem_inj
abbrev ug1:=@List.length_cons
abbrev ug2:=@Nat.lt_succ_self
abbrev ug3:=@List.length_take
abbrev ug4:=@List.length_drop
abbrev ug5:=@Bool.and_eq_true
abbrev ug6:=@List.lookup_cons
abbrev ug7:=@List.drop_length
abbrev ug8:=@Nat.le_add_right
abbrev ug9:=@List.all_eq_true
abbrev uh0:=@List.not_mem_nil
abbrev uh1:=@Option.bind_some
abbrev uh2:=@List.getElem_mem
abbrev uh3:=@beq_self_eq_true
abbrev uh4:=@List.mem_append
abbrev uh5:=@Option.some.inj
abbrev uh6:=@List.length_map
abbrev uh7:=@PySem.W.kia_one
abbrev uh8:=@List.append_nil
abbrev uh9:=@List.nodup_cons
abbrev ui0:=@List.of_mem_zip
abbrev ui1:=@List.find?_cons
abbrev ui2:=@List.length_nil
abbrev ui3:=@Option.map_some
abbrev ui4:=@List.map_append
abbrev ui5:=@List.length_set
abbrev ui6:=@List.nil_append
abbrev ui7:=@Int.emod_nonneg
abbrev ui8:=@decide_eq_false
abbrev ui9:=@List.mem_range
abbrev uj0:=@Bool.false_and
abbrev uj1:=@Bool.and_false
abbrev uj2:=@List.drop_zero
abbrev uj3:=@decide_eq_true
abbrev uj4:=@Nat.lt_irrefl
abbrev uj5:=@List.mem_cons
abbrev uj6:=@List.map_cons
abbrev uj7:=@List.all_cons
abbrev uj8:=@List.any_cons
abbrev uj9:=@Bool.true_and
abbrev uk0:=@Bool.and_true
abbrev uk1:=@Nat.add_assoc
abbrev uk2:=@Bool.and_self
abbrev uk3:=@PySem.W.mg_of
abbrev uk4:=@PySem.wpAny_holding
abbrev uk5:=@PySem.Heap.lt_size
abbrev uk6:=@Nat.ne_of_lt
abbrev uk7:=@Nat.le_trans
abbrev uk8:=@Nat.le_of_lt
abbrev uk9:=@Nat.ne_of_gt
abbrev ul0:=@List.map_nil
abbrev ul1:=@Bool.or_true
abbrev ul2:=@Nat.pow_succ
abbrev ul3:=@List.mem_map
abbrev ul4:=@Nat.sub_self
abbrev ul5:=@Nat.le_refl
abbrev ul6:=@Nat.zero_le
abbrev ul7:=@Nat.le_succ
abbrev ul8:=@List.map_id
abbrev ul9:=@PySem.wpAny_field
abbrev um0:=@PySem.wpAny_bind
abbrev um1:=@PySem.wpAny_pure
abbrev um2:=@PySem.wpAny_mono
set_option Elab.async false
set_option linter.all false
set_option maxRecDepth 100000
local macro_rules | `(tactic| walk_at "h") => `(tactic| first | exact Or.inl rfl | exact Or.inr rfl | exact Or.inr (Or.inl rfl) | exact Or.inr (Or.inr rfl) | assumption)
namespace L2
open PySem PySem.Spec PyProof.Rows
abbrev Key:=Sum Int Str
noncomputable def HQ:Key->Value->Bool
 | .inl k,v=>Value.isInt k v
 | .inr x,v=>Value.isStrOf x v
noncomputable def am (w:World):Key->Int
 | .inl k=>hashInt k
 | .inr x=>hashStr w x
theorem BM:∀{k:Key} {v:Value},HQ k v=true->(∃i t,k=Sum.inl i/\v=Value.int i t)\/(∃x t,k=Sum.inr x/\v=Value.str x t)
 | .inl i,v,h=>by
   obtain ⟨t,e⟩:=Value.isInt_shape (k:=i) (v:=v) h;exact .inl ⟨i,t,rfl,e⟩
 | .inr x,v,h=>by
   obtain ⟨t,e⟩:=Value.isStrOf_shape (x:=x) (v:=v) h;exact .inr ⟨x,t,rfl,e⟩
theorem P7 (i:Int)(t:Tok):HQ (.inl i) (.int i t)=true:=by simp [HQ,Value.isInt]
theorem P8 (x:Str)(t:Tok):HQ (.inr x) (.str x t)=true:=by simp [HQ,Value.isStrOf]
theorem Xb (a b:Int):decide ((Sum.inl a:Key)=Sum.inl b)=(a == b):=by
 by_cases e:a=b
 ·subst e;simp
 ·have h:¬(Sum.inl a:Key)=Sum.inl b:=λq=>e (Sum.inl.inj q);rw [ui8 h];exact (beq_eq_false_iff_ne.mpr e).symm
theorem Xe (a b:Str):decide ((Sum.inr a:Key)=Sum.inr b)=decide (a=b):=by
 by_cases e:a=b
 ·subst e;simp
 ·have h:¬(Sum.inr a:Key)=Sum.inr b:=λq=>e (Sum.inr.inj q);rw [ui8 h,ui8 e]
theorem Xc (a:Int)(b:Str):decide ((Sum.inl a:Key)=Sum.inr b)=false:=ui8 (λq=>nomatch q)
theorem Xd (a:Str)(b:Int):decide ((Sum.inr a:Key)=Sum.inl b)=false:=ui8 (λq=>nomatch q)
def B2 (prog:Program)(w:World):PySem.KeyKind prog w Key where
 is:=HQ
 hash:=am w
 inj:=λv a b ha hb=>by
  rcases BM ha with ⟨i,t,rfl,rfl⟩ | ⟨x,t,rfl,rfl⟩
  ·rcases BM hb with ⟨j,u,rfl,e⟩ | ⟨y,u,rfl,e⟩
   ·injection e with e1 _;rw [e1]
   ·exact nomatch e
  ·rcases BM hb with ⟨j,u,rfl,e⟩ | ⟨y,u,rfl,e⟩
   ·exact nomatch e
   ·injection e with e1 _;rw [e1]
 byValue:=λk v h=>by
  rcases BM h with ⟨i,t,rfl,rfl⟩ | ⟨x,t,rfl,rfl⟩ <;> rfl
 pyHash:=λhv h=>by
  rcases BM hv with ⟨i,t,rfl,rfl⟩ | ⟨x,t,rfl,rfl⟩
  ·exact wpAny_pyHash_int h
  ·exact wpAny_pyHash_str h
 eqBool:=λhu hv h=>by
  rcases BM hu with ⟨i,t,rfl,rfl⟩ | ⟨x,t,rfl,rfl⟩
  ·rcases BM hv with ⟨j,u,rfl,rfl⟩ | ⟨y,u,rfl,rfl⟩
   ·rw [Xb] at h;exact wpAny_eqBool_int h
   ·rw [Xc] at h;exact SeqAt.EqAt.int_str i t y u _ _ _ _ h
  ·rcases BM hv with ⟨j,u,rfl,rfl⟩ | ⟨y,u,rfl,rfl⟩
   ·rw [Xd] at h;exact SeqAt.EqAt.str_int x t j u _ _ _ _ h
   ·rw [Xe] at h;exact wpAny_eqBool_str h
 «strs»:=λk x t v h=>by
  rcases BM h with ⟨i,u,rfl,e⟩ | ⟨y,u,rfl,e⟩
  ·exact nomatch e
  ·injection e with e1 _
   subst e1
   cases v <;> rfl
theorem M7 (prog:Program)(w:World)(i:Int)(t:Tok):(B2 prog w).is (.inl i) (.int i t)=true:=P7 i t
theorem M8 (prog:Program)(w:World)(x:Str)(t:Tok):(B2 prog w).is (.inr x) (.str x t)=true:=P8 x t
inductive V where
 | non | bl (b:Bool) | int (i:Int) | str (x:Str) | byt (b:Array UInt8) | flt (b:UInt64) | ref (a:Addr) | ty (n:String)
 deriving DecidableEq
noncomputable def RelV:V->Value->Prop
 | .non,u=>u=Value.none
 | .bl b,u=>u=Value.bool b
 | .int i,u=>∃t,u=Value.int i t
 | .str x,u=>∃t,u=Value.str x t
 | .byt b,u=>∃t,u=Value.bytes b t
 | .flt b,u=>∃t,u=Value.float b t
 | .ref a,u=>u=Value.ref a
 | .ty n,u=>u=Value.type n
abbrev Vals:List V->List Value->Prop:=Paired RelV
theorem Vals.length {xs:List V}{us:List Value}(r:Vals xs us):xs.length=us.length:=Paired.length r
theorem Vals.get:∀{xs:List V} {us:List Value} {i:Nat} {x:V},Vals xs us->xs[i]?=some x->∃u,us[i]?=some u/\RelV x u
 | _,_,_,_,.nil,e=>by simp at e
 | _,_,0,_,.cons r _,e=>by simp at e;subst e;exact ⟨_,rfl,r⟩
 | _,_,i + 1,x,.cons _ t,e=>by
   obtain ⟨u,h1,h2⟩:=Vals.get (i:=i) (x:=x) t (by simpa using e);exact ⟨u,by simpa using h1,h2⟩
theorem Vals.append {xs ys:List V}{us ws:List Value}(r:Vals xs us)(s:Vals ys ws):Vals (xs++ys) (us++ws):=by
 cases r with
 | nil=>exact s
 | cons r t=>exact .cons r (Vals.append t s)
theorem Vals.take:∀{xs:List V} {us:List Value} (n:Nat),Vals xs us->Vals (xs.take n) (us.take n)
 | _,_,0,_=>.nil
 | _,_,_ + 1,.nil=>.nil
 | _,_,n + 1,.cons r t=>.cons r (Vals.take n t)
theorem Vals.drop:∀{xs:List V} {us:List Value} (n:Nat),Vals xs us->Vals (xs.drop n) (us.drop n)
 | _,_,0,r=>r
 | _,_,_ + 1,.nil=>.nil
 | _,_,n + 1,.cons _ t=>Vals.drop n t
def RelO:Option V->Option Value->Prop
 | some v,some u=>RelV v u
 | none,none=>True
 | _,_=>False
def KV {κ:Type}:List (κ×V)->List (κ×Value)->Prop:=Paired λ(p:κ×V) (q:κ×Value)=>p.1=q.1/\RelV p.2 q.2
noncomputable def kV:Key->V
 | .inl i=>.int i
 | .inr x=>.str x
inductive HO where
 /-- a list -/
 | lst (xs:List V)
 /-- a tuple (never changes) -/
 | tup (xs:List V)
 /-- a dict whose keys are ints and texts;one whose keys are tuples of ints and texts (the empty one is both) -/
 | dK (kvs:List (Key×V)) | dT (kvs:List (List Key×V))
 /-- a set of ints: its members,its size -/
 | set (S:Int->Bool) (n:Nat)
 /-- an instance of the class at C,its dict at dx,its attributes -/
 | ins (C dx:Addr) (fs:List (Str×V))
 /-- the dict of the instance at x -/
 | own (x:Addr)
 /-- the dict of an exception -/
 | xd (fs:List (Str×V))
 /-- a bound method,f of x -/
 | met (f x:Addr)
 /-- a range object lo,lo + 1,.. below hi -/
 | rng (lo hi:Int)
 /-- a thing that is known to the object (the script;a dict while a loop walks it): read,never written while it is so -/
 | frz (o:Obj) (u:HO)
 /-- a code object's table -/
 | tbl (ps:Array Value)
 /-- any other thing,by what is true of its one object (a def of one's own: SetO a S n:=HO.ext λh=>..) -/
 | ext (φ:Heap->Prop)
abbrev Hp:=Addr->Option HO
noncomputable def upd (H:Hp)(a:Addr)(o:HO):Hp:=λb=>if b=a then some o else H b
variable {H:Hp}{a:Addr}
theorem Aj {o:HO}:upd H a o a=some o:=by unfold upd;rw [if_pos rfl]
variable {b:Addr}
theorem Ag {o:HO}(h:b≠a):upd H a o b=H b:=by unfold upd;rw [if_neg h]
theorem Km {o u:HO}:upd (upd H a o) a u=upd H a u:=by
 funext b;unfold upd;split <;> rfl
theorem AJ {o:HO}(h:H a=some o)(h':H b=none):a≠b:=by
 intro e;subst e;rw [h] at h';cases h'
section
variable (P:Program)(w:World)
def ObjOk (H:Hp)(h:Heap)(a:Addr):HO->Prop
 | .lst xs=>xs.length<=sizeLine/\∃(its:List Value) (n:Nat),Vals xs its/\h.get? a=some { cls:=.type "list",data:=.seq its.toArray n }
 | .tup xs=>xs.length<=sizeLine/\∃its:List Value,Vals xs its/\IsTup h a its.toArray
 | .dK kvs=>kvs.length<=sizeLine/\(a == sysModules)=false/\∃vs,KV kvs vs/\h.DictOf (B2 P w) a vs
 | .dT kvs=>kvs.length<=sizeLine/\(a == sysModules)=false/\∃xs:List (List Key×Addr×Value),
    Paired (λ(p:List Key×V) (q:List Key×Addr×Value)=>p.1=q.1/\H q.2.1=some (.tup (p.1.map kV))/\RelV p.2 q.2.2) kvs xs/\
    ∃o es ep,h.get? a=some o/\o.ExactDict/\o.data = .dict es ep/\es.toList=xs.map (entryOfKey (tupleKind (B2 P w)))/\(xs.map (·.1)).Nodup
 | .set S n=>h.SetOf (intKind P w) a S n
 | .ins C dx fs=>H dx=some (.own a)/\fs.length<=1000/\dx≠a/\h.get? a=some (PySem.W.instObj C dx)/\
    ∃mA,h.Ns1 dx mA/\(∀f,RelO (fs.lookup f) (mA f))/\PySem.Within mA (fs.map (·.1))
 | .own _=>∃o,h.get? a=some o
 | .xd fs=>∃mA,h.Ns1 a mA/\∀f,RelO (fs.lookup f) (mA f)
 | .rng lo hi=>∃t u v,h.get? a=some { cls:=.type "range",data:=.fields #[.int lo t,.int hi u,.int 1 v] }
 | .frz o u=>h.get? a=some o/\ObjOk H h a u
 | .tbl ps=>h.get? a=some { cls:=.none,data:=.fields ps }
 | .met f x=>h.get? a=some (PySem.W.methodObj (.ref f) (.ref x))
 | .ext φ=>φ h/\(∃o,h.get? a=some o)/\∀h1 h2:Heap,φ h1->(∀o,h1.get? a=some o->h2.get? a=some o)->φ h2
def HOk (H:Hp)(h:Heap):Prop:=∀a o,H a=some o->ObjOk P w H h a o
end
section
variable {P:Program}{w:World}{H H':Hp}{h h':Heap}{a:Addr}{o:HO}
theorem ObjOk.lt (x:ObjOk P w H h a o):a < h.objs.size:=by
 cases o with
 | lst xs=>obtain ⟨_,_,_,_,e⟩:=x;exact uk5 e
 | tup xs=>obtain ⟨_,_,_,p⟩:=x;exact p.lt
 | dK kvs=>obtain ⟨_,_,_,_,o,_,_,e,_⟩:=x;exact uk5 e
 | dT kvs=>obtain ⟨_,_,_,_,o,_,_,e,_⟩:=x;exact uk5 e
 | set S n=>obtain ⟨o,_,_,_,e,_⟩:=x;exact uk5 e
 | ins C dx fs=>obtain ⟨_,_,_,e,_⟩:=x;exact uk5 e
 | own y=>obtain ⟨_,e⟩:=x;exact uk5 e
 | xd fs=>obtain ⟨_,⟨_,_,_,e,_⟩,_⟩:=x;exact uk5 e
 | rng lo hi=>obtain ⟨_,_,_,e⟩:=x;exact uk5 e
 | frz ob u=>obtain ⟨e,_⟩:=x;exact uk5 e
 | tbl ps=>exact uk5 (show h.get? a=some _ from x)
 | met f y=>exact uk5 (show h.get? a=some _ from x)
 | ext φ=>obtain ⟨_,⟨_,e⟩,_⟩:=x;exact uk5 e
theorem Paired.mapP {α β:Type}{F G:α->β->Prop}:∀{l₁:List α} {l₂:List β},Paired F l₁ l₂->(∀a b,F a b->G a b)->Paired G l₁ l₂
 | _,_,.nil,_=>.nil
 | _,_,.cons r t,f=>.cons (f _ _ r) (Paired.mapP t f)
theorem ObjOk.stay (x:ObjOk P w H h a o)(k:∀b u,(b=a\/H b=some (.own a))->h.get? b=some u->h'.get? b=some u)
 (ho:∀b,H b=some (.own a)->H' b=some (.own a)) (ht:∀b xs,H b=some (.tup xs)->H' b=some (.tup xs)):ObjOk P w H' h' a o:=by
 induction o with
 | lst xs=>obtain ⟨z,its,n,r,e⟩:=x;exact ⟨z,its,n,r,k _ _ (.inl rfl) e⟩
 | tup xs=>obtain ⟨z,its,r,ob,e,c⟩:=x;exact ⟨z,its,r,ob,k _ _ (.inl rfl) e,c⟩
 | dK kvs=>obtain ⟨z,y,vs,r,ob,es,ep,e,c⟩:=x;exact ⟨z,y,vs,r,ob,es,ep,k _ _ (.inl rfl) e,c⟩
 | dT kvs=>
   obtain ⟨z,y,xs,r,ob,es,ep,e,c⟩:=x;exact ⟨z,y,xs,Paired.mapP r λp q z=>⟨z.1,ht _ _ z.2.1,z.2.2⟩,ob,es,ep,k _ _ (.inl rfl) e,c⟩
 | set S n=>obtain ⟨ob,es,ep,t,e,c⟩:=x;exact ⟨ob,es,ep,t,k _ _ (.inl rfl) e,c⟩
 | ins C dx fs=>
   obtain ⟨d,z,ne,e,mA,⟨od,es,ep,e2,c⟩,r⟩:=x;exact ⟨ho _ d,z,ne,k _ _ (.inl rfl) e,mA,⟨od,es,ep,k _ _ (.inr d) e2,c⟩,r⟩
 | own y=>obtain ⟨ob,e⟩:=x;exact ⟨ob,k _ _ (.inl rfl) e⟩
 | xd fs=>obtain ⟨mA,⟨od,es,ep,e,c⟩,r⟩:=x;exact ⟨mA,⟨od,es,ep,k _ _ (.inl rfl) e,c⟩,r⟩
 | rng lo hi=>obtain ⟨t,u,v,e⟩:=x;exact ⟨t,u,v,k _ _ (.inl rfl) e⟩
 | frz ob u ih=>obtain ⟨e,q⟩:=x;exact ⟨k _ _ (.inl rfl) e,ih q⟩
 | tbl ps=>
   have e:h.get? a=some { cls:=.none,data:=.fields ps }:=x;show h'.get? a=some { cls:=.none,data:=.fields ps };exact k a _ (.inl rfl) e
 | met f y=>
   have e:h.get? a=some (PySem.W.methodObj (.ref f) (.ref y)):=x;show h'.get? a=some (PySem.W.methodObj (.ref f) (.ref y));exact k a _ (.inl rfl) e
 | ext φ=>obtain ⟨p,⟨o,e⟩,st⟩:=x;exact ⟨st _ _ p λo q=>k _ _ (.inl rfl) q,⟨o,k _ _ (.inl rfl) e⟩,st⟩
theorem HOk.lt (x:HOk P w H h)(e:H a=some o):a < h.objs.size:=(x a o e).lt
theorem HOk.fresh (x:HOk P w H h)(e:h.objs.size<=a):H a=none:=by
 cases q:H a with
 | none=>rfl
 | some u=>exact absurd (ud8 (x.lt q) e) (uj4 _)
theorem HOk.kept (x:HOk P w H h)(k:∀b u,h.get? b=some u->h'.get? b=some u):HOk P w H h':=λa o e=>
 (x a o e).stay (λb u _ q=>k b u q) (λ_ q=>q) λ_ _ q=>q
theorem HOk.laid (x:HOk P w H h)(k:∀b u,h.get? b=some u->h'.get? b=some u)(hp:h.objs.size<=a)(new:ObjOk P w (upd H a o) h' a o):HOk P w (upd H a o) h':=λb u e=>by
 have hn:=x.fresh hp
 by_cases hb:b=a
 ·subst hb;rw [Aj] at e;cases e;exact new
 ·rw [Ag hb] at e;exact (x b u e).stay (λc v _ q=>k c v q) (λc q=>by rw [Ag (AJ q hn)];exact q) λc xs q=>by rw [Ag (AJ q hn)];exact q
end
noncomputable def Rd (H:Hp)(a:Addr)(u:HO):Prop:=H a=some u\/∃o,H a=some (.frz o u)
variable {P:Program}{w:World}{h:Heap}
theorem Rd.ok {u:HO}(r:Rd H a u)(x:HOk P w H h):ObjOk P w H h a u:=by
 rcases r with r | ⟨o,r⟩
 ·exact x a u r
 ·obtain ⟨_,q⟩:=x a _ r;exact q
def Mut:Option HO->Prop
 | some (.lst _)=>True
 | some (.dK _)=>True
 | some (.dT _)=>True
 | some (.set _ _)=>True
 | some (.ins _ _ _)=>True
 | some (.ext _)=>True
 | _=>False
section
variable {P:Program}{w:World}{H:Hp}{h h':Heap}{x e:Addr}{o':HO}
theorem HOk.write (ok:HOk P w H h)(mu:Mut (H x))(he:e=x\/H e=some (.own x))(k:∀b u,b≠e->h.get? b=some u->h'.get? b=some u)(heo:∃u,h'.get? e=some u)
 (new:ObjOk P w (upd H x o') h' x o'):HOk P w (upd H x o') h':=λb u q=>by
 have nown:∀c y,H c=some (.own y)->c≠x:=λc y r z=>by subst z;rw [r] at mu;exact mu
 have ntup:∀c xs,H c=some (.tup xs)->c≠x:=λc xs r z=>by subst z;rw [r] at mu;exact mu
 by_cases hb:b=x
 ·subst hb;rw [Aj] at q;cases q;exact new
 ·rw [Ag hb] at q
  by_cases hbe:b=e
  ·have q':H b=some (.own x):=by
    rcases he with z | z
    ·exact absurd (hbe.trans z) hb
    ·rw [hbe];exact z
   rw [q] at q';cases q'
   obtain ⟨v,hv⟩:=heo;exact ⟨v,by rw [hbe];exact hv⟩
  ·refine (ok b u q).stay (λc v hc r=>k c v ?_ r) (λc r=>by rw [Ag (nown c b r)];exact r) λc xs r=>by rw [Ag (ntup c xs r)];exact r
   rcases hc with rfl | hc
   ·exact hbe
   ·rintro rfl;rcases he with z | z
    ·exact nown c b hc z
    ·rw [hc] at z;cases z;exact hb rfl
end
structure Un (fs ex:List Addr)(H H':Hp)(h h':Heap):Prop where
 keep:∀b o,h.get? b=some o->H b=none->b∉fs->b∉ex->h'.get? b=some o
 slot:∀b o,h.get? b=some o->H b=none->b∈fs->b∉ex->∃sl,h'.get? b=some { o with slots:=sl }
 free:∀b o,h.get? b=some o->H b=none->b∉ex->H' b=none
 there:∀b o,h.get? b=some o->b∉ex->∃o',h'.get? b=some o'
 tups:∀b xs,H b=some (.tup xs)->H' b=some (.tup xs)
 frzs:∀b o u,H b=some (.frz o u)->H' b=some (.frz o u)
 tbls:∀b ps,H b=some (.tbl ps)->∃more,H' b=some (.tbl (ps++more))
section
variable {fs fs' ex ex':List Addr}{H H1 H2:Hp}{h h1 h2 h':Heap}{a x e:Addr}{o:HO}
theorem Un.any (u:Un fs ex H H1 h h1){b:Addr}{ob:Obj}(q:h.get? b=some ob)(n:H b=none)(hx:b∉ex):∃sl,h1.get? b=some { ob with slots:=sl }:=by
 by_cases hb:b∈fs
 ·exact u.slot b ob q n hb hx
 ·exact ⟨ob.slots,u.keep b ob q n hb hx⟩
theorem Un.kept (k:∀b u,h.get? b=some u->h'.get? b=some u):Un fs ex H H h h':=
 ⟨λb ob q _ _ _=>k b ob q,λb ob q _ _ _=>⟨ob.slots,k b ob q⟩,λ_ _ _ n _=>n,λb ob q _=>⟨ob,k b ob q⟩,λ_ _ q=>q,λ_ _ _ q=>q,λ_ ps q=>⟨#[],by rw [q];simp⟩⟩
theorem Un.refl:Un fs ex H H h h:=Un.kept λ_ _ q=>q
theorem Un.laid (k:∀b u,h.get? b=some u->h'.get? b=some u)(hp:h.objs.size<=a)(hn:H a=none):Un fs ex H (upd H a o) h h' where
 keep:=λb u q _ _ _=>k b u q
 slot:=λb u q _ _ _=>⟨u.slots,k b u q⟩
 free:=λb u q n _=>by rw [Ag (uk6 (ud8 (uk5 q) hp))];exact n
 there:=λb u q _=>⟨u,k b u q⟩
 tups:=λb xs q=>by rw [Ag (AJ q hn)];exact q
 frzs:=λb u xs q=>by rw [Ag (AJ q hn)];exact q
 tbls:=λb ps q=>⟨#[],by rw [Ag (AJ q hn),q];simp⟩
theorem Un.write (mu:Mut (H x))(he:e=x\/H e=some (.own x))(k:∀b u,b≠e->h.get? b=some u->h'.get? b=some u)(heo:∃u,h'.get? e=some u):Un fs ex H (upd H x o) h h':=by
 have hx:∀b,H b=none->b≠x:=λb n z=>by subst z;rw [n] at mu;exact mu
 have hb:∀b,H b=none->b≠e:=λb n z=>by
  subst z;rcases he with r | r
  ·exact hx b n r
  ·rw [n] at r;cases r
 have hm:∀b u,H b=some u->¬Mut (some u)->b≠x:=λb u q nm z=>by subst z;rw [q] at mu;exact nm mu
 refine ⟨λb u q n _ _=>k b u (hb b n) q,λb u q n _ _=>⟨u.slots,k b u (hb b n) q⟩,λb u q n _=>by rw [Ag (hx b n)];exact n,λb u q _=>?_,
  λb xs q=>by rw [Ag (hm b _ q λz=>z)];exact q,λb u xs q=>by rw [Ag (hm b _ q λz=>z)];exact q,λb ps q=>⟨#[],by rw [Ag (hm b _ q λz=>z),q];simp⟩⟩
 by_cases hbe:b=e
 ·subst hbe;exact heo
 ·exact ⟨u,k b u hbe q⟩
end
noncomputable def trk (h:Heap)(H:Hp):List Addr:=(List.range h.objs.size).filter λa=>(H a).isSome
def Gv (h:Heap)(H:Hp):Heap:=PySem.W.hideAll h (trk h H)
theorem PX (h:Heap)(H:Hp):(Gv h H).objs.size=h.objs.size:=PySem.W.hideAll_size _ _
theorem R6 {o:Obj}(e:h.get? b=some o)(n:H b=none):(Gv h H).get? b=some o:=
 PySem.W.hideAll_get _ e λhm=>by
  have q:(H b).isSome=true:=(List.mem_filter.mp hm).2;rw [n] at q;simp at q
theorem UY {o:Obj}(e:(Gv h H).get? b=some o):h.get? b=some o/\H b=none:=by
 have e':h.get? b=some o:=PySem.W.of_hideAll (trk h H) e;refine ⟨e',?_⟩
 cases q:H b with
 | none=>rfl
 | some x=>
   have hm:b∈trk h H:=List.mem_filter.mpr ⟨ui9.mpr (uk5 e'),by simp [q]⟩;have z:(Gv h H).get? b=none:=PySem.W.hideAll_none (trk h H) hm;rw [z] at e;cases e
noncomputable def Uc (g h:Heap)(L:Addr):List (Addr×Obj):=(List.range h.objs.size).filterMap λa=>if a=L\/(g.get? a).isSome=true then none else (h.get? a).map λo=>(a,o)
def rest (g h:Heap)(L d:Addr):List (Addr×Obj):=(Uc g h L).filter λp=>decide (p.1≠d)
structure Mod (K:PySem.W.Frag)(mg:Str->Option Value)(base:Heap):Prop where
 kin:K.In base
 glob:base.Ns mainGlobals mg
 blt:∃mb,base.Ns builtinsNs mb/\∀x:Str,x≠"__name__"->mb x=bootBuiltins x
 nolimit:base.NoLimit
structure Cx where
 prog:Program
 w:World
 K:PySem.W.Frag
 mg:Str->Option Value
 base:Heap
 A:Around
 N:List Str
 s₀:Shared
 H₀:Hp
 env:Env
 outer:List Env
 stack:List Env
 ex:List Addr
 fn:Str->Bool
 calm:Bool
 pn:List (Addr×Obj)
 xe:Value->Shared->Prop
noncomputable def frs (l:List Env):List Addr:=l.filterMap (·.frame)
abbrev Cx.fs (X:Cx):List Addr:=frs X.outer
def Vis (sc:Scope)(x:Str):Prop:=sc.names.lookup x=some .local\/sc.names.lookup x=some .cell\/sc.names.lookup x=some .free
def Loc (sc:Scope)(x:Str):Prop:=sc.names.lookup x=some .local\/sc.names.lookup x=some .cell
def Z3 (env:Env)(h:Heap)(m:Str->Option Value)(x:Str)(u:Value):Prop:=
 (env.kindOf x=some .local/\m x=some u)\/((env.kindOf x=some .cell\/env.kindOf x=some .free)/\∃c,env.cells.lookup x=some c/\h.IsCell c (some u))
structure Cx.Ok (X:Cx):Prop where
 mod:Mod X.K X.mg X.base
 kind:X.env.scope.kind = .function
 glob:X.env.globals=mainGlobals
 blt:X.env.builtins=builtinsNs
 above:X.s₀.heap.objs.size<=X.env.locals
 inj:∀x y c,X.env.cells.lookup x=some c->X.env.cells.lookup y=some c->x=y
 has:∀x,(X.env.kindOf x=some .cell\/X.env.kindOf x=some .free)->∃c,X.env.cells.lookup x=some c
 cab:∀x c,X.fn x=true->X.env.cells.lookup x=some c->X.s₀.heap.objs.size<=c
 hd:X.calm=true->X.A.handled=none
 frames:X.A.frames=some X.stack
 stk:X.stack=X.outer\/(X.stack=X.env :: X.outer/\X.env.frame=some X.env.locals)
 exf:∀b∈X.ex,b≠X.env.locals/\∀x c,X.env.cells.lookup x=some c->c≠b
 bs:∀b o,X.base.get? b=some o->X.s₀.heap.get? b=some o/\X.H₀ b=none
 bsz:X.base.objs.size<=X.s₀.heap.objs.size
 noex:∀b o,X.base.get? b=some o->b∉X.ex
 exfs:∀b∈X.ex,b∉X.fs
 funs:X.s₀.heap.FunFrames X.base X.outer
 frf:∀b∈X.fs,X.H₀ b=none
structure Inv (X:Cx)(pins:List (Addr×Obj))(σ:List (Option V))(H:Hp)(s:Shared):Prop where
 ok:X.Ok
 os:s.os=X.s₀.os
 bare:AllBare s.gens
 base:Un X.fs X.ex X.H₀ H X.s₀.heap s.heap
 loc:∃m,s.heap.Ns X.env.locals m/\∀(i:Nat) (x:Str) (v:V),X.N[i]?=some x->σ[i]?=some (some v)->Vis X.env.scope x->∃u,RelV v u/\Z3 X.env s.heap m x u
 cell:∀x c,X.env.cells.lookup x=some c->∃v,s.heap.IsCell c v
 free:H X.env.locals=none
 freeC:∀x c,X.env.cells.lookup x=some c->H c=none
 pin:∀p∈X.pn++pins,s.heap.get? p.1=some p.2/\H p.1=none/\p.1≠X.env.locals/\p.1∉X.fs/\∀v,p.2.data≠.cell v
 hok:HOk X.prog X.w H s.heap
 len:σ.length=X.N.length
variable {t' i:Nat}{ch:List Addr}{E:Value->Shared->Prop}{v:V}{u:Value}{Q:Unit->Shared->Prop}
section
variable {X:Cx}{pins:List (Addr×Obj)}{σ:List (Option V)}{H H':Hp}{s:Shared}{h':Heap}
theorem Cx.Ok.nofr (ok:X.Ok){b:Addr}{o:Obj}(e:X.base.get? b=some o):b∉X.fs:=λhb=>by
 have:=(ok.funs.mem hb).1;rw [e] at this;cases this
theorem Inv.bs (I:Inv X pins σ H s):∀b o,X.base.get? b=some o->s.heap.get? b=some o/\H b=none:=λb o e=>
 ⟨I.base.keep b o (I.ok.bs b o e).1 (I.ok.bs b o e).2 (I.ok.nofr e) (I.ok.noex b o e),I.base.free b o (I.ok.bs b o e).1 (I.ok.bs b o e).2 (I.ok.noex b o e)⟩
theorem Inv.bk (I:Inv X pins σ H s):∀b o,X.base.get? b=some o->s.heap.get? b=some o:=λb o e=>(I.bs b o e).1
theorem Inv.mod (I:Inv X pins σ H s):Mod X.K X.mg X.base:=I.ok.mod
theorem Inv.kIn (I:Inv X pins σ H s):X.K.In s.heap:=I.ok.mod.kin.keeps I.bk
theorem Inv.lt (I:Inv X pins σ H s):X.env.locals < s.heap.objs.size:=let ⟨_,hn,_⟩:=I.loc;hn.lt
theorem Inv.sz (I:Inv X pins σ H s):X.s₀.heap.objs.size<=s.heap.objs.size:=uk7 I.ok.above (uk8 I.lt)
theorem Inv.nofs (I:Inv X pins σ H s){a:Addr}(h:s.heap.objs.size<=a):a∉X.fs:=λhb=>by
 obtain ⟨_,o,ho,_⟩:=I.ok.funs.mem hb;exact absurd (ud8 (uk5 ho) (uk7 I.sz h)) (uj4 _)
theorem Inv.cne (I:Inv X pins σ H s):∀x c,X.env.cells.lookup x=some c->c≠X.env.locals:=λx c e z=>by
 obtain ⟨v,o,ho,hd⟩:=I.cell x c e;obtain ⟨m,⟨o',es,ep,ho',hd',_⟩,_⟩:=I.loc;rw [z,ho'] at ho;cases ho;rw [hd'] at hd;cases hd
theorem Inv.funs (I:Inv X pins σ H s):s.heap.FunFrames X.base X.outer:=by
 have all:∀(l:List Env),(∀b∈frs l,b∈X.fs)->X.s₀.heap.FunFrames X.base l->s.heap.FunFrames X.base l:=by
  intro l
  induction l with
  | nil=>intro _ _;trivial
  | cons env r ih=>
    intro hs hl;obtain ⟨hk,⟨L,o,hf,hn,ho,hd⟩,hr⟩:=hl;have hL:L∈X.fs:=hs L (by unfold frs;rw [ud3,hf];exact ud9);obtain ⟨sl,e⟩:=I.base.slot L o ho (I.ok.frf L hL) hL λz=>I.ok.exfs L z hL;exact ⟨hk,⟨L,_,hf,hn,e,hd⟩,ih (λb hb=>hs b (by unfold frs;rw [ud3,hf];exact uc9 _ hb)) hr⟩
 exact all X.outer (λ_ hb=>hb) I.ok.funs
theorem Inv.stack (I:Inv X pins σ H s):s.heap.FunFrames X.base X.stack:=by
 rcases I.ok.stk with e | ⟨e,hf⟩
 ·rw [e];exact I.funs
 ·rw [e];obtain ⟨m,hn,_⟩:=I.loc;refine .cons (by rw [I.ok.kind];decide) hf hn ?_ I.funs;exact Heap.get?_none_of_le (uk7 I.ok.bsz I.ok.above)
theorem Inv.stkSub (I:Inv X pins σ H s):∀b∈frs X.stack,b∈X.env.locals :: X.fs:=λb hb=>by
 rcases I.ok.stk with e | ⟨e,hf⟩
 ·rw [e] at hb;exact uc9 _ hb
 ·rw [e] at hb;unfold frs at hb;rw [ud3,hf] at hb;exact hb
theorem Inv.stkFree (I:Inv X pins σ H s):∀b∈frs X.stack,H b=none:=λb hb=>by
 rcases uj5.mp (I.stkSub b hb) with e | hb
 ·rw [e];exact I.free
 ·obtain ⟨_,o,ho,_⟩:=I.ok.funs.mem hb;exact I.base.free b o ho (I.ok.frf b hb) λz=>I.ok.exfs b z hb
theorem Inv.step {g':Array GenState}{d':Drawn}(I:Inv X pins σ H s)
 (hch:∀b∈ch,(b∈X.ex\/X.s₀.heap.objs.size<=b)/\b≠X.env.locals/\(∀x c,X.env.cells.lookup x=some c->c≠b)/\∀p∈X.pn++pins,p.1≠b)
 (keep:∀b o,b≠X.env.locals->b∉X.fs->b∉ch->s.heap.get? b=some o->H b=none->h'.get? b=some o)
 (slot:∀b o,b≠X.env.locals->b∈X.fs->b∉ch->s.heap.get? b=some o->H b=none->∃sl,h'.get? b=some { o with slots:=sl }) (free:∀b o,b∉ch->s.heap.get? b=some o->H b=none->H' b=none)
 (there:∀b o,b∉ch->s.heap.get? b=some o->∃o',h'.get? b=some o')
 (tups:∀b xs,H b=some (.tup xs)->H' b=some (.tup xs)) (frzs:∀b o u,H b=some (.frz o u)->H' b=some (.frz o u)) (tbls:∀b ps,H b=some (.tbl ps)->∃more,H' b=some (.tbl (ps++more)))
 (ns:∀m,s.heap.Ns X.env.locals m->h'.Ns X.env.locals m) (hok:HOk X.prog X.w H' h') (hg:AllBare g') :
 Inv X pins σ H' { s with heap:=h',gens:=g',drawn:=d',toks:=t' }:=by
 have neL:∀b o,X.s₀.heap.get? b=some o->b≠X.env.locals:=λb o e=>uk6 (ud8 (uk5 e) I.ok.above);have neC:∀b o,X.s₀.heap.get? b=some o->b∉X.ex->b∉ch:=λb o e hx hb=>by
  rcases (hch b hb).1 with z | z
  ·exact hx z
  ·exact absurd (ud8 (uk5 e) z) (uj4 _)
 have cellK:∀x c,X.env.cells.lookup x=some c->∀v,s.heap.IsCell c v->h'.IsCell c v:=λx c e v z9=>by
  obtain ⟨o,ho,hd⟩:=z9;have nch:c∉ch:=λz=>(hch c z).2.2.1 x c e rfl
  by_cases hc:c∈X.fs
  ·obtain ⟨sl,q⟩:=slot c o (I.cne x c e) hc nch ho (I.freeC x c e);exact ⟨_,q,hd⟩
  ·exact ⟨o,keep c o (I.cne x c e) hc nch ho (I.freeC x c e),hd⟩
 refine ⟨I.ok,I.os,hg,⟨λb o e n hb hx=>?_,λb o e n hb hx=>?_,λb o e n hx=>?_,λb o e hx=>?_,λb xs e=>tups b xs (I.base.tups b xs e),λb o xs e=>frzs b o xs (I.base.frzs b o xs e),λb ps e=>?_⟩,?_,λx c e=>?_,?_,λx c e=>?_,λp hp=>?_,hok,I.len⟩
 ·exact keep b o (neL b o e) hb (neC b o e hx) (I.base.keep b o e n hb hx) (I.base.free b o e n hx)
 ·obtain ⟨sl,e1⟩:=I.base.slot b o e n hb hx;obtain ⟨sl',e2⟩:=slot b _ (neL b o e) hb (neC b o e hx) e1 (I.base.free b o e n hx);exact ⟨sl',e2⟩
 ·obtain ⟨o',e1⟩:=I.base.there b o e hx;exact free b o' (neC b o e hx) e1 (I.base.free b o e n hx)
 ·obtain ⟨o',e1⟩:=I.base.there b o e hx;exact there b o' (neC b o e hx) e1
 ·obtain ⟨m1,e1⟩:=I.base.tbls b ps e;obtain ⟨m2,e2⟩:=tbls b _ e1;exact ⟨m1++m2,by rw [e2,Array.append_assoc]⟩
 ·obtain ⟨m,hn,hl⟩:=I.loc;refine ⟨m,ns m hn,λi x v e1 e2 e3=>?_⟩;obtain ⟨u,r,l⟩:=hl i x v e1 e2 e3;refine ⟨u,r,?_⟩;rcases l with l | ⟨k,c,e,z⟩
  ·exact .inl l
  ·exact .inr ⟨k,c,e,cellK x c e _ z⟩
 ·obtain ⟨v,z⟩:=I.cell x c e;exact ⟨v,cellK x c e v z⟩
 ·obtain ⟨m,⟨o,_,_,ho,_⟩,_⟩:=I.loc;exact free _ o (λz=>(hch _ z).2.1 rfl) ho I.free
 ·obtain ⟨v,o,ho,hd⟩:=I.cell x c e;exact free c o (λz=>(hch c z).2.2.1 x c e rfl) ho (I.freeC x c e)
 ·obtain ⟨e,n,ne,nf,d⟩:=I.pin p hp;have nch:p.1∉ch:=λz=>(hch p.1 z).2.2.2 p hp rfl;exact ⟨keep p.1 p.2 ne nf nch e n,free p.1 p.2 nch e n,ne,nf,d⟩
theorem Inv.un (I:Inv X pins σ H s)(u:Un X.fs [] H H' s.heap h')(hok:HOk X.prog X.w H' h'):Inv X pins σ H' { s with heap:=h',toks:=t' }:=by
 obtain ⟨m,⟨o,es,ep,ho,r⟩,_⟩:=id I.loc;obtain ⟨sl,hL⟩:=u.any ho I.free (by simp);exact I.step (g':=s.gens) (d':=s.drawn) (ch:=[]) (λ_ z=>nomatch z) (λb o _ hb _ e n=>u.keep b o e n hb (by simp)) (λb o _ hb _ e n=>u.slot b o e n hb (by simp)) (λb o _ e n=>u.free b o e n (by simp)) (λb o _ e=>u.there b o e (by simp)) u.tups u.frzs u.tbls (λm' hm=>by
  obtain ⟨o',es',ep',ho',r'⟩:=hm;rw [ho] at ho';cases ho'
  exact ⟨_,es',ep',hL,r'⟩) hok I.bare
theorem Inv.call {g':Array GenState}{d':Drawn}(I:Inv X pins σ H s)(u:Un (frs X.stack) ch H H' s.heap h')(hok:HOk X.prog X.w H' h')(hg:AllBare g')
 (hch:∀b∈ch,(b∈X.ex\/X.s₀.heap.objs.size<=b)/\b≠X.env.locals/\(∀x c,X.env.cells.lookup x=some c->c≠b)/\∀p∈X.pn++pins,p.1≠b) :
 Inv X pins σ H' { s with heap:=h',gens:=g',drawn:=d',toks:=t' }:=by
 obtain ⟨m,⟨o,es,ep,ho,r⟩,_⟩:=id I.loc;obtain ⟨sl,hL⟩:=u.any ho I.free λz=>(hch _ z).2.1 rfl;exact I.step (ch:=ch) hch (λb o hL hb hc e n=>u.keep b o e n (λz=>(uj5.mp (I.stkSub b z)).elim hL hb) hc) (λb o _ _ hc e n=>u.any e n hc) (λb o hc e n=>u.free b o e n hc) (λb o hc e=>u.there b o e hc) u.tups u.frzs u.tbls (λm' hm=>by
  obtain ⟨o',es',ep',ho',r'⟩:=hm;rw [ho] at ho';cases ho'
  exact ⟨_,es',ep',hL,r'⟩) hok hg
theorem Inv.turned {it:Addr}(I:Inv X pins σ H s)(k:∀b o,b≠it->s.heap.get? b=some o->h'.get? b=some o)(hn:H it=none)(hL:it≠X.env.locals)
 (h1:it∈X.ex\/X.s₀.heap.objs.size<=it) (h2:∀x c,X.env.cells.lookup x=some c->c≠it) (h3:∀p∈X.pn++pins,p.1≠it):Inv X pins σ H { s with heap:=h',toks:=t' }:=by
 have nit:∀b u,H b=some u->b≠it:=λb u e z=>by rw [z,hn] at e;cases e
 refine I.step (g':=s.gens) (d':=s.drawn) (ch:=[it]) (λb hb=>?_) (λb o _ _ hc e _=>k b o (λz=>hc (by simp [z])) e) (λb o _ _ hc e _=>⟨o.slots,k b o (λz=>hc (by simp [z])) e⟩) (λ_ _ _ _ n=>n)
  (λb o hc e=>⟨o,k b o (λz=>hc (by simp [z])) e⟩) (λ_ _ e=>e) (λ_ _ _ e=>e) (λb ps e=>⟨#[],by rw [e];simp⟩) (λm hm=>?_) (λb u e=>?_) I.bare
 ·have e:b=it:=by simpa using hb
  subst e;exact ⟨h1,hL,h2,h3⟩
 ·obtain ⟨o,es,ep,ho,r⟩:=hm;exact ⟨o,es,ep,k _ o (Ne.symm hL) ho,r⟩
 ·refine (I.hok b u e).stay (λc v hc q=>k c v ?_ q) (λ_ q=>q) λ_ _ q=>q;rcases hc with z | z
  ·rw [z];exact nit b u e
  ·exact nit c _ z
theorem Inv.tok (I:Inv X pins σ H s)(t:Nat):Inv X pins σ H { s with toks:=t }:=I.un (h':=s.heap) (t':=t) Un.refl I.hok
theorem Inv.kept {t':Nat}(I:Inv X pins σ H s)(k:∀b u,s.heap.get? b=some u->h'.get? b=some u):Inv X pins σ H { s with heap:=h',toks:=t' }:=I.un (Un.kept k) (I.hok.kept k)
theorem Inv.laid {a:Addr}{o:HO}{t':Nat}(I:Inv X pins σ H s)(k:∀b u,s.heap.get? b=some u->h'.get? b=some u)(hp:s.heap.objs.size<=a)(new:ObjOk X.prog X.w (upd H a o) h' a o) :
 Inv X pins σ (upd H a o) { s with heap:=h',toks:=t' }:=I.un (Un.laid k hp (I.hok.fresh hp)) (I.hok.laid k hp new)
theorem Inv.write {x e:Addr}{o:HO}{t':Nat}(I:Inv X pins σ H s)(mu:Mut (H x))(he:e=x\/H e=some (.own x))(k:∀b u,b≠e->s.heap.get? b=some u->h'.get? b=some u)(heo:∃u,h'.get? e=some u)
 (new:ObjOk X.prog X.w (upd H x o) h' x o):Inv X pins σ (upd H x o) { s with heap:=h',toks:=t' }:=I.un (Un.write mu he k heo) (I.hok.write mu he k heo new)
theorem Inv.pins_of {pins':List (Addr×Obj)}(I:Inv X pins σ H s)(h:∀p∈pins',s.heap.get? p.1=some p.2/\H p.1=none/\p.1≠X.env.locals/\p.1∉X.fs/\∀v,p.2.data≠.cell v):Inv X pins' σ H s:=
 ⟨I.ok,I.os,I.bare,I.base,I.loc,I.cell,I.free,I.freeC,λp hp=>(uh4.mp hp).elim (λz=>I.pin p (ud0 _ z)) (h p),I.hok,I.len⟩
theorem GB {N:List Str}(hN:N.Nodup){i j:Nat}{x:Str}(a:N[i]?=some x)(b:N[j]?=some x):i=j:=by
 obtain ⟨h1,e1⟩:=ua9.mp a;obtain ⟨h2,e2⟩:=ua9.mp b;exact (ug0 hN).mp (e1.trans e2.symm)
theorem KZ {M:Model}{A:Around}{x:Str}(I:Inv X pins σ H s)(hN:X.N.Nodup)(hi:X.N[i]?=some x)(hx:Loc X.env.scope x)(r:RelV v u)
 (h:∀s',Inv X pins (σ.set i (some v)) H s'->(∃a,Heap.SameBut a s.heap s'.heap/\(a=X.env.locals\/X.env.cells.lookup x=some a))->Q () s') (hf:X.fn x=true\/X.env.scope.names.lookup x=some .local:=by walk_at "h"):wpAny M A (storeName X.env x u) Q E s:=by
 obtain ⟨m,hn,hl⟩:=id I.loc;have hcls:(X.env.scope.kind == .class || (X.env.scope.kind == .module && X.env.locals != X.env.globals))=false:=by rw [I.ok.kind];rfl
 have hiσ:i < σ.length:=by rw [I.len];exact (ua9.mp hi).1
 have cne:=I.cne;have tracked:∀{a:Addr} {h':Heap},(∃o,s.heap.get? a=some o/\H a=none)->Heap.SameBut a s.heap h'->HOk X.prog X.w H h':=λ{a h'} ha hs b ob e=>by
  obtain ⟨_,_,hfree⟩:=ha;refine (I.hok b ob e).stay (λc w' hc q=>(hs.2 c ?_).trans q) (λ_ q=>q) λ_ _ q=>q;rintro rfl;rcases hc with rfl | hc
  ·rw [hfree] at e;cases e
  ·rw [hfree] at hc;cases hc
 rcases hx with hk | hk
 ·refine wpAny_storeName_local hk hn (λh' hn' hs=>?_) hcls;obtain ⟨oL,_,_,hoL,_⟩:=id hn;refine h _ ⟨I.ok,I.os,I.bare,⟨λb o e n hb hx=>?_,λb o e n hb hx=>?_,I.base.free,λb o e hx=>?_,I.base.tups,I.base.frzs,I.base.tbls⟩,⟨_,hn',λj y v' e1 e2 e3=>?_⟩,λy c e=>?_,I.free,I.freeC,λp hp=>?_,tracked ⟨oL,hoL,I.free⟩ hs,by simpa using I.len⟩ ⟨_,hs,.inl rfl⟩
  ·exact (hs.2 b (uk6 (ud8 (uk5 e) I.ok.above))).trans (I.base.keep b o e n hb hx)
  ·obtain ⟨sl,e1⟩:=I.base.slot b o e n hb hx;exact ⟨sl,(hs.2 b (uk6 (ud8 (uk5 e) I.ok.above))).trans e1⟩
  ·obtain ⟨o',e1⟩:=I.base.there b o e hx;exact ⟨o',(hs.2 b (uk6 (ud8 (uk5 e) I.ok.above))).trans e1⟩
  ·by_cases hj:j=i
   ·subst hj;rw [hi] at e1;cases e1
    rw [ub8 hiσ] at e2
    cases e2
    exact ⟨u,r,.inl ⟨hk,by simp⟩⟩
   ·rw [ud1 (Ne.symm hj)] at e2;obtain ⟨u',r',q⟩:=hl j y v' e1 e2 e3;refine ⟨u',r',?_⟩;rcases q with ⟨k,e⟩ | ⟨k,c,e,z⟩
    ·refine .inl ⟨k,?_⟩;have:y≠x:=λe=>hj (GB hN e1 (e ▸ hi));simp [this,e]
    ·exact .inr ⟨k,c,e,z.sameBut hs (cne y c e)⟩
  ·obtain ⟨w',z⟩:=I.cell y c e;exact ⟨w',z.sameBut hs (cne y c e)⟩
  ·obtain ⟨e,n,ne,nf,d⟩:=I.pin p hp;exact ⟨(hs.2 p.1 ne).trans e,n,ne,nf,d⟩
 ·have hfn:X.fn x=true:=by
   rcases hf with z | z
   ·exact z
   ·rw [z] at hk;cases hk
  obtain ⟨c,hc⟩:=I.ok.has x (.inl hk);obtain ⟨w',z⟩:=I.cell x c hc;refine wpAny_storeName_cell I.ok.kind hk hc z (λh' hc' hs=>?_);obtain ⟨oc,hoc,hocd⟩:=id z;refine h { s with heap:=h' } ⟨I.ok,I.os,I.bare,⟨λb o e n hb hx=>?_,λb o e n hb hx=>?_,I.base.free,λb o e hx=>?_,I.base.tups,I.base.frzs,I.base.tbls⟩,⟨m,hn.sameBut hs (Ne.symm (cne x c hc)),λj y v' e1 e2 e3=>?_⟩,λy c' e=>?_,I.free,I.freeC,λp hp=>?_,tracked ⟨oc,hoc,I.freeC x c hc⟩ hs,by simpa using I.len⟩ ⟨c,hs,.inr hc⟩
  ·exact (hs.2 b (uk6 (ud8 (uk5 e) (I.ok.cab x c hfn hc)))).trans (I.base.keep b o e n hb hx)
  ·obtain ⟨sl,e1⟩:=I.base.slot b o e n hb hx;exact ⟨sl,(hs.2 b (uk6 (ud8 (uk5 e) (I.ok.cab x c hfn hc)))).trans e1⟩
  ·obtain ⟨o',e1⟩:=I.base.there b o e hx;exact ⟨o',(hs.2 b (uk6 (ud8 (uk5 e) (I.ok.cab x c hfn hc)))).trans e1⟩
  ·by_cases hj:j=i
   ·subst hj;rw [hi] at e1;cases e1
    rw [ub8 hiσ] at e2
    cases e2
    exact ⟨u,r,.inr ⟨.inl hk,c,hc,hc'⟩⟩
   ·rw [ud1 (Ne.symm hj)] at e2;obtain ⟨u',r',q⟩:=hl j y v' e1 e2 e3;refine ⟨u',r',?_⟩;rcases q with q | ⟨k,c',e,z'⟩
    ·exact .inl q
    ·refine .inr ⟨k,c',e,z'.sameBut hs ?_⟩;rintro rfl;exact hj (GB hN e1 (I.ok.inj _ _ _ e hc ▸ hi))
  ·by_cases hcc:c'=c
   ·subst hcc;exact ⟨_,hc'⟩
   ·obtain ⟨w2,z2⟩:=I.cell y c' e;exact ⟨w2,z2.sameBut hs hcc⟩
  ·obtain ⟨e,n,ne,nf,d⟩:=I.pin p hp;refine ⟨(hs.2 p.1 ?_).trans e,n,ne,nf,d⟩;intro q;rw [q,hoc] at e;have q':oc=p.2:=uh5 e;exact d w' (by rw [<-q'];exact hocd)
theorem FB {M:Model}{A:Around}{x:Str}(I:Inv X pins σ H s)(hN:X.N.Nodup)(hi:X.N[i]?=some x)(hx:Loc X.env.scope x)(r:RelV v u)
 (h:∀s',Inv X pins (σ.set i (some v)) H s'->Q () s') (hf:X.fn x=true\/X.env.scope.names.lookup x=some .local:=by walk_at "h"):wpAny M A (storeName X.env x u) Q E s:=
 KZ I hN hi hx r (λs' I' _=>h s' I') hf
theorem Inv.call' {s':Shared}(I:Inv X pins σ H s)(ho:s'.os=s.os)(u:Un (frs X.stack) ch H H' s.heap s'.heap)(hok:HOk X.prog X.w H' s'.heap)(hg:AllBare s'.gens)
 (hch:∀b∈ch,(b∈X.ex\/X.s₀.heap.objs.size<=b)/\b≠X.env.locals/\(∀x c,X.env.cells.lookup x=some c->c≠b)/\∀p∈X.pn++pins,p.1≠b):Inv X pins σ H' s':=by
 obtain ⟨h',g',d',t',o'⟩:=s';have e:o'=s.os:=ho;subst e;exact I.call (g':=g') (t':=t') (d':=d') u hok hg hch
end
abbrev XK:=Value->Option Addr->Hp->Prop
abbrev St:=List (Option V)
abbrev VK:=V->Hp->Prop
abbrev TE:=St->Hp->VK->Prop
abbrev TT:=St->Hp->(Bool->Hp->Prop)->Prop
abbrev TA:=St->Hp->(List V->Hp->Prop)->Prop
structure Ends where
 nx:St->Hp->Prop
 rt:VK
 bk:St->Hp->Prop:=λ_ _=>False
 ct:St->Hp->Prop:=λ_ _=>False
abbrev TS:=Ends->St->Hp->Prop
inductive EP (X:Cx)(pins:List (Addr×Obj))(σ:St)(Q:VK)(u:Value)(s':Shared):Prop where
 | mk (v:V) (H':Hp) (i:Inv X pins σ H' s') (r:RelV v u) (q:Q v H'):EP X pins σ Q u s'
inductive TP (X:Cx)(pins:List (Addr×Obj))(σ:St)(Q:Bool->Hp->Prop)(b:Bool)(s':Shared):Prop where
 | mk (H':Hp) (i:Inv X pins σ H' s') (q:Q b H'):TP X pins σ Q b s'
inductive AP (X:Cx)(pins:List (Addr×Obj))(σ:St)(Q:List V->Hp->Prop)(us:List Value)(s':Shared):Prop where
 | mk (vs:List V) (H':Hp) (i:Inv X pins σ H' s') (r:Vals vs us) (q:Q vs H'):AP X pins σ Q us s'
def SP (X:Cx)(pins:List (Addr×Obj))(D:Ends)(f:Flow)(s':Shared):Prop:=
 match f with
 | .next=>∃σ' H',Inv X pins σ' H' s'/\D.nx σ' H'
 | .brk=>∃σ' H',Inv X pins σ' H' s'/\D.bk σ' H'
 | .cont=>∃σ' H',Inv X pins σ' H' s'/\D.ct σ' H'
 | .ret u=>∃v σ' H',Inv X pins σ' H' s'/\RelV v u/\D.rt v H'
def PE (X:Cx)(e:Expr)(t:TE):Prop:=
 ∀(pins:List (Addr×Obj)) (s:Shared) (σ:St) (H:Hp) (Q:VK),Inv X pins σ H s->t σ H Q->wpAny (model X.prog X.w) X.A (eval e X.env) (EP X pins σ Q) X.xe s
def PT (X:Cx)(e:Expr)(t:TT):Prop:=
 ∀(pins:List (Addr×Obj)) (s:Shared) (σ:St) (H:Hp) (Q:Bool->Hp->Prop),Inv X pins σ H s->t σ H Q->wpAny (model X.prog X.w) X.A (isTrue e X.env (eval e X.env)) (TP X pins σ Q) X.xe s
def PW (X:Cx)(e:Expr)(t:TT):Prop:=
 ∀(whole:Sem Value) (pins:List (Addr×Obj)) (s:Shared) (σ:St) (H:Hp) (Q:Bool->Hp->Prop),Inv X pins σ H s->t σ H Q->wpAny (model X.prog X.w) X.A (isTrue e X.env whole) (TP X pins σ Q) X.xe s
variable {X:Cx}{e:Expr}
theorem PW.pt {t:TT}(h:PW X e t):PT X e t:=h _
def PA (X:Cx)(es:List Expr)(t:TA):Prop:=
 ∀(pos:Pos) (pins:List (Addr×Obj)) (s:Shared) (σ:St) (H:Hp) (Q:List V->Hp->Prop),Inv X pins σ H s->t σ H Q->wpAny (model X.prog X.w) X.A (spliced (backTo pos (starEach es X.env))) (AP X pins σ Q) X.xe s
def PS (X:Cx)(st:Stmt)(t:TS):Prop:=
 ∀(pins:List (Addr×Obj)) (s:Shared) (σ:St) (H:Hp) (D:Ends),Inv X pins σ H s->t D σ H->wpAny (model X.prog X.w) X.A (exec st X.env) (SP X pins D) X.xe s
def PSs (X:Cx)(st:List Stmt)(t:TS):Prop:=
 ∀(pins:List (Addr×Obj)) (s:Shared) (σ:St) (H:Hp) (D:Ends),Inv X pins σ H s->t D σ H->wpAny (model X.prog X.w) X.A (execs st X.env) (SP X pins D) X.xe s
variable {s:Shared}
theorem thn {α:Type}{t:Sem α}{Q Q':α->Shared->Prop}{M:Model}{A:Around}(h:wpAny M A t Q E s)(hQ:∀a s,Q a s->Q' a s):wpAny M A t Q' E s:=um2 h hQ λ_ _ x=>x
variable {pins:List (Addr×Obj)}{σ:St}{c:Expr}
section
variable {X:Cx}
def Yk (i:Nat):TE:=λσ H Q=>∃v,σ[i]?=some (some v)/\Q v H
def tC (v:V):TE:=λ_ H Q=>Q v H
theorem Cm {x:Str}{pos:Pos}(hN:X.N[i]?=some x)(hv:Vis X.env.scope x)(hd:(x == ("__debug__" : Str))=false:=by decide)(hcd:(x == ("__classdict__" : Str))=false:=by decide):PE X (.Name x pos) (Yk i):=by
 intro pins s σ H Q I h;obtain ⟨v,e,h⟩:=h;obtain ⟨m,hn,hl⟩:=I.loc;obtain ⟨u,r,l⟩:=hl i x v hN e hv;have fin:EP X pins σ Q u s:=⟨v,H,I,r,h⟩;rcases l with ⟨hk,hm⟩ | ⟨hk,c,hc,hcell⟩
 ·exact wpAny_Name (wpAny_loadName_local I.ok.kind hk hn hm fin) hd
 ·rcases hk with hk | hk
  ·exact wpAny_Name (wpAny_loadName_cell I.ok.kind hk hc hcell fin) hd
  ·exact wpAny_Name (wpAny_loadName_free I.ok.kind hk hc hcell fin hcd) hd
theorem XA {i j pos}:PE X (.Constant (.int i) j pos) (tC (.int i)):=λ_ _ _ H _ I h=>wpAny_Constant_int ⟨.int i,H,I.tok _,⟨_,rfl⟩,h⟩
theorem Y0 {b j pos}:PE X (.Constant (.bool b) j pos) (tC (.bl b)):=λ_ _ _ H _ I h=>Constant_bool ⟨.bl b,H,I,rfl,h⟩
theorem XC {j pos}:PE X (.Constant .none j pos) (tC .non):=λ_ _ _ H _ I h=>Constant_none ⟨.non,H,I,rfl,h⟩
theorem XG {x j pos}:PE X (.Constant (.str x) j pos) (tC (.str x)):=λ_ _ _ H _ I h=>Calls.Constant_str ⟨.str x,H,I.tok _,⟨_,rfl⟩,h⟩
def Gl (X:Cx)(x:Str):Prop:=X.env.kindOf x=some .globalImplicit
theorem Ch {x:Str}{pos:Pos}{Q:Value->Shared->Prop}(I:Inv X pins σ H s)(hg:Gl X x)(hm:X.mg x=some u)(h:Q u s)
 (hd:(x == ("__debug__" : Str))=false:=by decide):wpAny (model X.prog X.w) X.A (eval (.Name x pos) X.env) Q E s:=
 Calls.Name_function_global I.ok.kind hg (Calls.loadGlobal_global (by rw [I.ok.glob];exact I.mod.glob.keeps I.bk) hm h) hd
theorem F3 {x:Str}{pos:Pos}{Q:Value->Shared->Prop}(I:Inv X pins σ H s)(hg:Gl X x)(hm:X.mg x=none)(hv:bootBuiltins x=some u)(h:Q u s)
 (hn:x≠"__name__":=by decide) (hd:(x == ("__debug__" : Str))=false:=by decide):wpAny (model X.prog X.w) X.A (eval (.Name x pos) X.env) Q E s:=by
 obtain ⟨mb,h1,h2⟩:=I.mod.blt;exact Calls.Name_function_global I.ok.kind hg (Calls.loadGlobal_builtin (by rw [I.ok.glob];exact I.mod.glob.keeps I.bk) hm (by rw [I.ok.blt];exact h1.keeps I.bk) ((h2 x hn).trans hv) h) hd
theorem Ke {x:Str}{pos:Pos}(hg:Gl X x)(hm:X.mg x=some u)(r:RelV v u)(hd:(x == ("__debug__" : Str))=false:=by decide):PE X (.Name x pos) (tC v):=
 λ_ _ _ H _ I h=>Ch I hg hm ⟨v,H,I,r,h⟩ hd
theorem NH {x:Str}{pos:Pos}(hg:Gl X x)(hm:X.mg x=none)(hv:bootBuiltins x=some u)(r:RelV v u)(hn:x≠"__name__":=by decide)(hd:(x == ("__debug__" : Str))=false:=by decide):PE X (.Name x pos) (tC v):=
 λ_ _ _ H _ I h=>F3 I hg hm hv ⟨v,H,I,r,h⟩ hn hd
variable {a b:Expr}{ta tb:TE}{pos:Pos}
def tB (t:TE):TT:=λσ H Q=>t σ H λx H1=>∃c,x = .bl c/\Q c H1
theorem XS {t:TE}(h:PE X e t)(he:∀whole,isTrue e X.env whole=(do let v <-whole;standAt e.pos;holding [v] (truthy v)):=by intro _;rfl):PT X e (tB t):=by
 intro pins s σ H Q I hw;refine isTrue_plain (thn (h pins s σ H _ I hw) λv s1 z9=>?_) (he _);obtain ⟨x,H1,I1,r1,q1⟩:=z9;obtain ⟨d,rfl,q⟩:=q1
 cases r1
 exact wpAny_truthy_bool ⟨H1,I1,q⟩
variable {tA tB':TT}{rest:List Expr}
def aA (t u:TT):TT:=λσ H Q=>t σ H λc H1=>if c=true then u σ H1 Q else Q false H1
def tOr (t u:TT):TT:=λσ H Q=>t σ H λc H1=>if c=true then Q true H1 else u σ H1 Q
def aH (t:TT):TT:=λσ H Q=>t σ H λc H1=>Q (!c) H1
theorem Vk (ha:PT X a tA):PW X (.BoolOp .And [a] pos) tA:=by
 intro wh pins s σ H Q I h;refine isTrue_and (thn (ha pins s σ H Q I h) λc s1 e=>?_)
 cases c with
 | true=>exact isTrue_and_nil e
 | false=>exact e
theorem XU (ha:PT X a tA):PW X (.BoolOp .Or [a] pos) tA:=by
 intro wh pins s σ H Q I h;refine isTrue_or (thn (ha pins s σ H Q I h) λc s1 e=>?_)
 cases c with
 | false=>exact isTrue_or_nil e
 | true=>exact e
theorem XT (ha:PT X a tA)(hb:PW X (.BoolOp .And (b :: rest) pos) tB'):PW X (.BoolOp .And (a :: b :: rest) pos) (aA tA tB'):=by
 intro wh pins s σ H Q I h;refine isTrue_and (thn (ha pins s σ H _ I h) λc s1 z9=>?_);obtain ⟨H1,I1,q1⟩:=z9
 cases c with
 | true=>exact hb wh pins s1 σ H1 Q I1 q1
 | false=>exact ⟨H1,I1,q1⟩
theorem Y9 (ha:PT X a tA)(hb:PW X (.BoolOp .Or (b :: rest) pos) tB'):PW X (.BoolOp .Or (a :: b :: rest) pos) (tOr tA tB'):=by
 intro wh pins s σ H Q I h;refine isTrue_or (thn (ha pins s σ H _ I h) λc s1 z9=>?_);obtain ⟨H1,I1,q1⟩:=z9
 cases c with
 | true=>exact ⟨H1,I1,q1⟩
 | false=>exact hb wh pins s1 σ H1 Q I1 q1
theorem XR (ha:PT X a tA):PT X (.UnaryOp .Not a pos) (aH tA):=by
 intro pins s σ H Q I h;refine isTrue_not (thn (ha pins s σ H (λc H1=>Q (!c) H1) I h) λc s1 z=>?_);obtain ⟨H1,I1,q1⟩:=z;exact ⟨H1,I1,q1⟩
def Zd (ta tb:TE):TE:=λσ H Q=>ta σ H λx H1=>∃c,x = .bl c/\if c=true then tb σ H1 Q else Q (.bl false) H1
def Zg (ta:TE):TE:=λσ H Q=>ta σ H λx H1=>∃c,x = .bl c/\Q (.bl (!c)) H1
theorem XF {op}{t:TE}(h:PE X a t):PE X (.BoolOp op [a] pos) t:=λpins s σ H Q I hw=>BoolOp_one (h pins s σ H Q I hw)
theorem Xy (ha:PE X a ta)(hb:PE X (.BoolOp .And (b :: rest) pos) tb):PE X (.BoolOp .And (a :: b :: rest) pos) (Zd ta tb):=by
 intro pins s σ H Q I h;refine BoolOp_and (thn (ha pins s σ H _ I h) λv s1 z9=>?_);obtain ⟨x,H1,I1,r1,q1⟩:=z9;obtain ⟨c,rfl,q1⟩:=q1
 cases r1
 refine wpAny_truthy_bool ?_
 cases c with
 | true=>exact hb pins s1 σ H1 Q I1 q1
 | false=>exact ⟨.bl false,H1,I1,rfl,q1⟩
theorem XD (ha:PE X a ta):PE X (.UnaryOp .Not a pos) (Zg ta):=by
 intro pins s σ H Q I h;refine UnaryOp_ (thn (ha pins s σ H _ I h) λv s1 z9=>?_);obtain ⟨x,H1,I1,r1,q1⟩:=z9;obtain ⟨c,rfl,q1⟩:=q1
 cases r1
 exact not_of (wpAny_truthy_bool ⟨.bl (!c),H1,I1,rfl,q1⟩)
def tIf (t:TT)(ta tb:TE):TE:=λσ H Q=>t σ H λc H1=>if c=true then ta σ H1 Q else tb σ H1 Q
theorem SH (hc:PT X c tA)(ha:PE X a ta)(hb:PE X b tb):PE X (.IfExp c a b pos) (tIf tA ta tb):=by
 intro pins s σ H Q I h;refine wpAny_IfExp (thn (hc pins s σ H _ I h) λd s1 z9=>?_);obtain ⟨H1,I1,q1⟩:=z9
 cases d with
 | true=>exact ha pins s1 σ H1 Q I1 q1
 | false=>exact hb pins s1 σ H1 Q I1 q1
end
def SqL (K:PySem.W.Frag)(H:Hp)(a:Addr)(xs:List V):Prop:=
 Rd H a (.lst xs)\/
  ∃(o:Obj) (its:Array Value) (n:Nat),K.lookup a=some o/\o.cls = .type "list"/\o.dict=none/\o.data = .seq its n/\its.size<=sizeLine/\Vals xs its.toList
def SqT (K:PySem.W.Frag)(H:Hp)(a:Addr)(xs:List V):Prop:=
 Rd H a (.tup xs)\/
  ∃(o:Obj) (its:Array Value) (n:Nat),K.lookup a=some o/\o.cls = .type "tuple"/\o.data = .seq its n/\its.size<=sizeLine/\Vals xs its.toList
noncomputable def Z9:Value->Option V
 | .none=>some .non
 | .bool b=>some (.bl b)
 | .int i _=>some (.int i)
 | .str x _=>some (.str x)
 | .bytes b _=>some (.byt b)
 | .float b _=>some (.flt b)
 | .ref a=>some (.ref a)
 | .type n=>some (.ty n)
 | _=>none
theorem RelV.abs {x:V}(r:RelV x u):Z9 u=some x:=by
 cases x with
 | non=>cases r;rfl
 | bl _=>cases r;rfl
 | int _=>obtain ⟨t,rfl⟩:=r;rfl
 | str _=>obtain ⟨t,rfl⟩:=r;rfl
 | byt _=>obtain ⟨t,rfl⟩:=r;rfl
 | flt _=>obtain ⟨t,rfl⟩:=r;rfl
 | ref _=>cases r;rfl
 | ty _=>cases r;rfl
theorem RelV.inj {x y:V}{u:Value}(r:RelV x u)(q:RelV y u):x=y:=uh5 (r.abs.symm.trans q.abs)
theorem Vals.inj {xs ys:List V}{us:List Value}(a:Vals xs us)(b:Vals ys us):xs=ys:=by
 cases a with
 | nil=>
   cases b
   rfl
 | cons r t=>
   cases b with
   | cons r' t'=>rw [r.inj r',Vals.inj t t']
variable {K:PySem.W.Frag}
section
variable {X:Cx}{pins:List (Addr×Obj)}{σ:St}{H:Hp}{s:Shared}{a:Addr}{xs ys:List V}
theorem SqL.of (h:H a=some (.lst xs)):SqL K H a xs:=.inl (.inl h)
theorem SqT.of (h:H a=some (.tup xs)):SqT K H a xs:=.inl (.inl h)
theorem Inv.list (I:Inv X pins σ H s)(h:SqL X.K H a xs):∃its:List Value,Vals xs its/\PlainL s.heap a its.toArray/\xs.length<=sizeLine:=by
 rcases h with h | ⟨o,its,n,hk,hc,hd,hs,hz,r⟩
 ·obtain ⟨z,its,n,r,e⟩:=h.ok I.hok;exact ⟨its,r,⟨_,n,e,rfl,rfl,rfl⟩,z⟩
 ·refine ⟨its.toList,r,⟨o,n,I.kIn a o hk,hc,hd,by simpa using hs⟩,?_⟩;have e:=r.length;simp only [Array.length_toList] at e;lia
theorem Inv.tuple (I:Inv X pins σ H s)(h:SqT X.K H a xs):∃its:List Value,Vals xs its/\IsTup s.heap a its.toArray/\xs.length<=sizeLine:=by
 rcases h with h | ⟨o,its,n,hk,hc,hs,hz,r⟩
 ·obtain ⟨z,its,r,p⟩:=h.ok I.hok;exact ⟨its,r,p,z⟩
 ·refine ⟨its.toList,r,⟨o,I.kIn a o hk,hc,n,by simpa using hs⟩,?_⟩;have e:=r.length;simp only [Array.length_toList] at e;lia
theorem Inv.list_inj (I:Inv X pins σ H s)(h:SqL X.K H a xs)(h':SqL X.K H a ys):xs=ys:=by
 obtain ⟨its,r,⟨o,n,e,_,_,d⟩,_⟩:=I.list h;obtain ⟨its',r',⟨o',n',e',_,_,d'⟩,_⟩:=I.list h';rw [e] at e';cases e'
 rw [d] at d';injection d' with d1 _
 have:its=its':=by simpa using congrArg Array.toList d1
 subst this;exact r.inj r'
theorem Inv.tuple_inj (I:Inv X pins σ H s)(h:SqT X.K H a xs)(h':SqT X.K H a ys):xs=ys:=by
 obtain ⟨its,r,⟨o,e,_,n,d⟩,_⟩:=I.tuple h;obtain ⟨its',r',⟨o',e',_,n',d'⟩,_⟩:=I.tuple h';rw [e] at e';cases e'
 rw [d] at d';injection d' with d1 _
 have:its=its':=by simpa using congrArg Array.toList d1
 subst this;exact r.inj r'
end
abbrev Cx.wish (X:Cx)(E:Value->Shared->Prop):Cx:={ X with xe:=E }
abbrev Cx.nox (X:Cx):Cx:=X.wish λ_ _=>False
theorem Cx.Ok.wish {X:Cx}(ok:X.Ok)(E:Value->Shared->Prop):(X.wish E).Ok:=
 ⟨ok.mod,ok.kind,ok.glob,ok.blt,ok.above,ok.inj,ok.has,ok.cab,ok.hd,ok.frames,ok.stk,ok.exf,ok.bs,ok.bsz,ok.noex,ok.exfs,ok.funs,ok.frf⟩
theorem Cx.Ok.unwish (ok:(X.wish E).Ok):X.Ok:=
 ⟨ok.mod,ok.kind,ok.glob,ok.blt,ok.above,ok.inj,ok.has,ok.cab,ok.hd,ok.frames,ok.stk,ok.exf,ok.bs,ok.bsz,ok.noex,ok.exfs,ok.funs,ok.frf⟩
section
variable {X:Cx}{pins:List (Addr×Obj)}{σ:St}{H:Hp}{s:Shared}{E:Value->Shared->Prop}
theorem Inv.wish (I:Inv X pins σ H s)(E:Value->Shared->Prop):Inv (X.wish E) pins σ H s:=⟨I.ok.wish E,I.os,I.bare,I.base,I.loc,I.cell,I.free,I.freeC,I.pin,I.hok,I.len⟩
theorem Inv.unwish (I:Inv (X.wish E) pins σ H s):Inv X pins σ H s:=⟨I.ok.unwish,I.os,I.bare,I.base,I.loc,I.cell,I.free,I.freeC,I.pin,I.hok,I.len⟩
theorem SP.unwish {D:Ends}{f:Flow}{s':Shared}(h:SP (X.wish E) pins D f s'):SP X pins D f s':=by
 cases f with
 | next=>obtain ⟨σ',H',I,q⟩:=h;exact ⟨σ',H',I.unwish,q⟩
 | brk=>obtain ⟨σ',H',I,q⟩:=h;exact ⟨σ',H',I.unwish,q⟩
 | cont=>obtain ⟨σ',H',I,q⟩:=h;exact ⟨σ',H',I.unwish,q⟩
 | ret u=>obtain ⟨v,σ',H',I,r,q⟩:=h;exact ⟨v,σ',H',I.unwish,r,q⟩
theorem PSs.nox {st:List Stmt}{t:TS}(h:PSs X.nox st t):PSs X st t:=λpins s σ H D I hw=>
 um2 (h pins s σ H D (I.wish _) hw) (λ_ _ q=>q.unwish) λ_ _ z=>False.elim z
end
section
variable {X:Cx}{st:Stmt}{rest:List Stmt}{t u:TS}{e:Expr}{te:TE}{pos:Pos}
def T5:TS:=λD σ H=>D.nx σ H
def aJ (t u:TS):TS:=λD σ H=>t { D with nx:=u D } σ H
theorem Vi:PSs X [] T5:=λ_ _ σ H _ I h=>wpAny_execs_nil ⟨σ,H,I,h⟩
theorem IF (h1:PS X st t)(h2:PSs X rest u):PSs X (st :: rest) (aJ t u):=by
 intro pins s σ H D I h;refine wpAny_execs_cons (thn (h1 pins s σ H { D with nx:=u D } I h) λf s1 q=>?_)
 cases f with
 | next=>
   obtain ⟨σ',H',I',q⟩:=q;exact h2 pins s1 σ' H' D I' q
 | ret v=>exact q
 | brk=>exact q
 | cont=>exact q
theorem F7 (h1:PS X st t):PSs X [st] t:=by
 intro pins s σ H D I h;refine wpAny_execs_cons (thn (h1 pins s σ H D I h) λf s1 q=>?_)
 cases f with
 | next=>exact wpAny_execs_nil q
 | ret v=>exact q
 | brk=>exact q
 | cont=>exact q
def Yh:TS:=λD σ H=>D.bk σ H
theorem Vh:PS X (.Pass pos) T5:=λ_ _ σ H _ I h=>wpAny_Pass ⟨σ,H,I,h⟩
theorem SL:PS X (.Break pos) Yh:=λ_ _ σ H _ I h=>wpAny_Break ⟨σ,H,I,h⟩
theorem Inv.quiet (I:Inv X pins σ H s):interactive X.env=false:=by simp [interactive,I.ok.kind]
def T3 (te:TE):TS:=λD σ H=>te σ H λ_ H1=>D.nx σ H1
theorem HV (he:PE X e te)(hs:swapsWith e none pos.line X.env=pure false:=by rfl):PS X (.Expr e pos) (T3 te):=by
 intro pins s σ H D I h;exact wpAny_Expr_any (thn (he pins s σ H _ I h) λv s1 z9=>by obtain ⟨x,H1,I1,r1,q1⟩:=z9;exact ⟨σ,H1,I1,q1⟩) I.quiet hs
def aI (te:TE):TS:=λD σ H=>te σ H D.rt
theorem Hq (he:PE X e te):PS X (.Return (some e) pos) (aI te):=by
 intro pins s σ H D I h;exact wpAny_Return_some (thn (he pins s σ H _ I h) λv s1 z9=>by obtain ⟨x,H1,I1,r1,q1⟩:=z9;exact ⟨x,σ,H1,I1,r1,q1⟩)
def aF (c:TT)(t u:TS):TS:=λD σ H=>c σ H λb H1=>if b=true then t D σ H1 else u D σ H1
theorem Y8 {a b:List Stmt}{tc:TT}(hc:PT X c tc)(ha:PSs X a t)(hb:PSs X b u):PS X (.If c a b pos) (aF tc t u):=by
 intro pins s σ H D I h;refine wpAny_If (thn (hc pins s σ H _ I h) λd s1 z9=>?_);obtain ⟨H1,I1,q1⟩:=z9
 cases d with
 | true=>exact ha pins s1 σ H1 D I1 q1
 | false=>exact hb pins s1 σ H1 D I1 q1
end
abbrev TG:=V->St->Hp->(St->Hp->Prop)->Prop
abbrev TGs:=List V->St->Hp->(St->Hp->Prop)->Prop
def PG (X:Cx)(target:Expr)(t:TG):Prop:=
 ∀(pins:List (Addr×Obj)) (s:Shared) (σ:St) (H:Hp) (v:V) (u:Value) (Q:St->Hp->Prop),Inv X pins σ H s->RelV v u->t v σ H Q->
  wpAny (model X.prog X.w) X.A (assign target X.env u) (λ_ s'=>∃σ' H',Inv X pins σ' H' s'/\Q σ' H') X.xe s
def PGs (X:Cx)(ts:List Expr)(t:TGs):Prop:=
 ∀(pins:List (Addr×Obj)) (s:Shared) (σ:St) (H:Hp) (vs:List V) (us:List Value) (Q:St->Hp->Prop),Inv X pins σ H s->Vals vs us->t vs σ H Q->
  wpAny (model X.prog X.w) X.A (assignInOrder ((assignEach ts X.env).map (·.2)) us) (λ_ s'=>∃σ' H',Inv X pins σ' H' s'/\Q σ' H') X.xe s
abbrev Rc:=V->V->V->Hp->(Hp->Prop)->Prop
def We (X:Cx)(t:Rc):Prop:=
 ∀(pins:List (Addr×Obj)) (s:Shared) (σ:St) (H:Hp) (o i v:V) (ov iv u:Value) (Q:Hp->Prop),Inv X pins σ H s->RelV o ov->RelV i iv->RelV v u->t o i v H Q->
  wpAny (model X.prog X.w) X.A (setItem ov iv u) (λ_ s'=>∃H',Inv X pins σ H' s'/\Q H') X.xe s
variable {tg:Expr}
section
variable {X:Cx}{pos:Pos}
def Lo (i:Nat):TG:=λv σ H Q=>Q (σ.set i (some v)) H
theorem U8 {x:Str}(hN:X.N.Nodup)(hi:X.N[i]?=some x)(hx:Loc X.env.scope x)(hf:X.fn x=true\/X.env.scope.names.lookup x=some .local:=by walk_at "h"):PG X (.Name x pos) (Lo i):=by
 intro pins s σ H v u Q I r h;exact wpAny_assign_Name (FB I hN hi hx r (λs' I'=>⟨_,H,I',h⟩) hf)
def ag:TGs:=λvs σ H Q=>vs=[]/\Q σ H
def TR (t:TG)(u:TGs):TGs:=λvs σ H Q=>∃v r,vs=v :: r/\t v σ H λσ' H'=>u r σ' H' Q
theorem U9:PGs X [] ag:=by
 intro pins s σ H vs us Q I r h;obtain ⟨e,h⟩:=h;subst e
 cases r
 exact assignInOrder_nil ⟨σ,H,I,h⟩
theorem SK {es:List Expr}{t:TG}{u:TGs}(h1:PG X e t)(h2:PGs X es u)
 (hs:(assignEach (e :: es) X.env).map (·.2)=assign e X.env :: (assignEach es X.env).map (·.2):=by rfl):PGs X (e :: es) (TR t u):=by
 intro pins s σ H vs us Q I r h;obtain ⟨v,vr,e1,h⟩:=h;subst e1
 cases r with
 | cons r rr=>
   rw [hs];refine assignInOrder_cons (thn (h1 pins s σ H _ _ _ I r h) λ_ s1 z9=>?_);obtain ⟨σ1,H1,I1,q1⟩:=z9;exact h2 pins s1 σ1 H1 _ _ Q I1 rr q1
def ai (K:PySem.W.Frag)(n:Nat)(t:TGs):TG:=λv σ H Q=>∃a xs,v = .ref a/\SqT K H a xs/\xs.length=n/\t xs σ H Q
theorem XJ {es:List Expr}{k:Nat}{t:TGs}{n:Nat}(hc:X.calm=true)(h:PGs X es t)
 (hn:(assignEach es X.env).length=n:=by rfl) (hst:(assignEach es X.env).findIdx? (·.1)=none:=by rfl):PG X (.Tuple es k pos) (ai X.K n t):=by
 intro pins s σ H v u Q I r hw;obtain ⟨a,xs,e1,hq,hl,hw⟩:=hw;subst e1
 cases r
 obtain ⟨its,rv,ht,hz⟩:=I.tuple hq;refine assign_Tuple_tuple (I.ok.hd hc) ht (by simp [hn,<-hl,rv.length]) hst λh' hx=>?_;have I1:Inv X pins σ H { s with heap:=h' }:=I.kept (t':=s.toks) λb o e=>hx b o (uk6 (uk5 e)) e;exact h pins _ σ H xs _ Q I1 (by simpa using rv) hw
def ah (to ti:TE)(t:Rc):TG:=λv σ H Q=>to σ H λo H1=>ti σ H1 λi H2=>t o i v H2 λH3=>Q σ H3
theorem XI {o i:Expr}{to ti:TE}{t:Rc}(ho:PE X o to)(hi:PE X i ti)(hs:We X t)
 (ha:∀v,assign (.Subscript o i pos) X.env v=(do
   let ov <-holding [v] (eval o X.env)
   let iv <-holding [v,ov] (eval i X.env)
   standAt pos
   holding [v,ov,iv] (setItem ov iv v)
   release [v,ov,iv] []):=by intro _;rfl):PG X (.Subscript o i pos) (ah to ti t):=by
 intro pins s σ H v u Q I r h;rw [ha];refine um0 (uk4 (thn (ho pins s σ H _ I h) λov s1 z9=>?_));obtain ⟨x,H1,I1,r1,q1⟩:=z9;refine um0 (uk4 (thn (hi pins s1 σ H1 _ I1 q1) λiv s2 z9=>?_));obtain ⟨y,H2,I2,r2,q2⟩:=z9;refine um0 (wpAny_standAt (um0 (uk4 (thn (hs pins s2 σ H2 x y v ov iv u _ I2 r1 r2 r q2) λ_ s3 z9=>?_))));obtain ⟨H3,I3,q3⟩:=z9;exact wpAny_release ⟨σ,H3,I3,q3⟩
def OW (te:TE)(g:TG):TS:=λD σ H=>te σ H λx H1=>g x σ H1 D.nx
theorem Qw {te:TE}{g:TG}(he:PE X e te)(hg:PG X tg g)(hs:swapsWithSole [tg] e pos.line X.env=pure false:=by rfl)(hw:swappedStores [tg] e X.env=pure none:=by rfl)
 (h1:(assignEach [tg] X.env).map (·.2)=[assign tg X.env]:=by rfl):PS X (.Assign [tg] e pos) (OW te g):=by
 intro pins s σ H D I h;refine wpAny_Assign_stores (thn (he pins s σ H _ I h) λv s1 z9=>?_) hs hw;obtain ⟨x,H1,I1,r1,q1⟩:=z9;rw [h1];exact thn (hg pins s1 σ H1 x v _ I1 r1 q1) λ_ s2 q=>q
theorem MC {x:Str}{te:TE}{pos':Pos}(hN:X.N.Nodup)(hi:X.N[i]?=some x)(hx:Loc X.env.scope x)(he:PE X e te)(hs:swapsWith e (some (.Name x pos')) pos.line X.env=pure false:=by rfl)(hf:X.fn x=true\/X.env.scope.names.lookup x=some .local:=by walk_at "h") :
 PS X (.Assign [.Name x pos'] e pos) (OW te (Lo i)):=by
 intro pins s σ H D I h;refine wpAny_Assign_Name (thn (he pins s σ H _ I h) λv s1 z9=>?_) hs;obtain ⟨y,H1,I1,r1,q1⟩:=z9;exact FB I1 hN hi hx r1 (λs2 I2=>⟨_,H1,I2,q1⟩) hf
end
section
variable {X:Cx}{pos:Pos}
def QS (c:TT)(tb:TS):TS:=λD σ H=>∃W:Nat->St->Hp->Prop,(∃m,W m σ H)/\∀m σ H,W m σ H->
 c σ H λb H1=>if b=true then ∃N:St->Hp->Prop,(∀σ' H',N σ' H'->∃m',m' < m/\W m' σ' H')/\tb { D with nx:=N,ct:=N,bk:=D.nx } σ H1 else D.nx σ H1
theorem SM {body:List Stmt}{tc:TT}{tb:TS}(hp:PassesOwn (model X.prog X.w) X.A X.env X.xe)(hc:PT X c tc)(hb:PSs X body tb):PS X (.While c body [] pos) (QS tc tb):=by
 intro pins s σ H D I h;obtain ⟨W,⟨m0,w0⟩,turn⟩:=h;refine wpAny_While (codeAny_whileLoop (λn s'=>∃σ' H',Inv X pins σ' H' s'/\W n σ' H') ?_ m0 ⟨σ,H,I,w0⟩);rintro n s1 ⟨σ1,H1,I1,w1⟩;refine wpAny_passesOwn hp (thn (hc pins s1 σ1 H1 _ I1 (turn n σ1 H1 w1)) λb s2 z9=>?_);obtain ⟨H2,I2,q2⟩:=z9
 cases b with
 | true=>
   obtain ⟨N,hN,q2⟩:=q2;rw [if_pos rfl];refine wpAny_passesOwn hp (thn (hb pins s2 σ1 H2 _ I2 q2) λf s3 q3=>?_)
   cases f with
   | next=>
     obtain ⟨σ3,H3,I3,n3⟩:=q3;obtain ⟨m',hm,w3⟩:=hN σ3 H3 n3;exact ⟨m',hm,σ3,H3,I3,w3⟩
   | cont=>
     obtain ⟨σ3,H3,I3,n3⟩:=q3;obtain ⟨m',hm,w3⟩:=hN σ3 H3 n3;exact ⟨m',hm,σ3,H3,I3,w3⟩
   | brk=>exact q3
   | ret v=>exact q3
 | false=>
   rw [if_neg ue0];exact wpAny_execs_nil ⟨σ1,H2,I2,q2⟩
end
structure It where
 go:Nat->Hp->Prop
 yld:Nat->Hp->V->Hp->Prop
 stop:Nat->Hp->Prop
def FpOk (X:Cx)(pins:List (Addr×Obj))(H:Hp)(b:Addr):Prop:=
 H b=none/\b≠X.env.locals/\b∉X.fs/\(b∈X.ex\/X.s₀.heap.objs.size<=b)/\(∀x c,X.env.cells.lookup x=some c->c≠b)/\∀p∈X.pn++pins,p.1≠b
theorem Inv.fpOk {H':Hp}(I:Inv X pins σ H s)(hb:s.heap.objs.size<=b)(hn:H' b=none):FpOk X pins H' b:=by
 refine ⟨hn,uk9 (ud8 I.lt hb),I.nofs hb,.inr (uk7 I.sz hb),λx c e z=>?_,λp hp z=>?_⟩
 ·obtain ⟨v,q⟩:=I.cell x c e;exact absurd (ud8 q.lt (by rw [z];exact hb)) (uj4 _)
 ·exact absurd (ud8 (uk5 (I.pin p hp).1) (by rw [z];exact hb)) (uj4 _)
structure Turn (P:Program)(w:World)(K:PySem.W.Frag)(tg:Expr)(J:It)(fp:List Addr)(it:Addr)(tn:Nat->Heap->Prop):Prop where
 mem:it∈fp
 obj:∀i h,tn i h->∀b∈fp,∃o,h.get? b=some o/\∀v,o.data≠.cell v
 keep:∀i h h',tn i h->(∀b∈fp,∀o,h.get? b=some o->h'.get? b=some o)->tn i h'
 item:∀(X:Cx),X.prog=P->X.w=w->X.K=K->X.calm=true->∀(i:Nat) (pins:List (Addr×Obj)) (s:Shared) (σ:St) (H:Hp) (E:Value->Shared->Prop),Inv X pins σ H s->(∀b∈fp,FpOk X pins H b)->tn i s.heap->J.go i H->
  wpAny (model P w) X.A (pyNext (.ref it)) (λr s1=>∃u,r=some u/\
   wpAny (model P w) X.A (letOwnedTupleGo tg (.ref it) u) (λ_ s2=>∃x H',Inv X pins σ H' s2/\RelV x u/\J.yld i H x H'/\tn (i + 1) s2.heap/\∀b∈fp,H' b=none) E s1) E s
 done:∀(X:Cx),X.prog=P->X.w=w->X.K=K->X.calm=true->∀(i:Nat) (pins:List (Addr×Obj)) (s:Shared) (σ:St) (H:Hp) (E:Value->Shared->Prop),Inv X pins σ H s->(∀b∈fp,FpOk X pins H b)->tn i s.heap->J.stop i H->
  wpAny (model P w) X.A (pyNext (.ref it)) (λr s1=>r=none/\Inv X pins σ H s1) E s
 self:∀(A:Around) (i:Nat) (s:Shared) (Q:Value->Shared->Prop) (E:Value->Shared->Prop),tn i s.heap->Q (.ref it) s->wpAny (model P w) A (pyIter (.ref it)) Q E s
abbrev TI:=St->Hp->(It->Hp->Prop)->Prop
def PIE (X:Cx)(pins:List (Addr×Obj))(σ:St)(tg:Expr)(R:It->Hp->Prop)(itv:Value)(s2:Shared):Prop:=
 ∃(it:Addr) (fp:List Addr) (tn:Nat->Heap->Prop) (J:It) (H':Hp),itv = .ref it/\Inv X pins σ H' s2/\Turn X.prog X.w X.K tg J fp it tn/\tn 0 s2.heap/\(∀b∈fp,FpOk X pins H' b)/\R J H'
def PI (X:Cx)(tg iter:Expr)(wi:TI):Prop:=
 ∀(pins:List (Addr×Obj)) (s:Shared) (σ:St) (H:Hp) (R:It->Hp->Prop),Inv X pins σ H s->wi σ H R->
  wpAny (model X.prog X.w) X.A (eval iter X.env) (λv s1=>wpAny (model X.prog X.w) X.A (pyIter v) (PIE X pins σ tg R) X.xe s1) X.xe s
theorem Lp {M:Model}{A:Around}{it:Addr}{o:Obj}{n:String}{vs:Array Value}(ho:s.heap.get? it=some o)(hc:o.cls = .type n)(hd:o.data = .fields vs)
 (hn:["enumerate", "zip", "dict_itemiterator", "dict_reverseitemiterator", "odict_iterator", "itertools.zip_longest", "itertools.pairwise"].contains n=false) (hQ:Q () s):wpAny M A (letOwnedTupleGo tg (.ref it) u) Q E s:=by
 unfold letOwnedTupleGo
 cases tg <;> first
  | exact um1 hQ
  | (cases u <;> first
      | exact um1 hQ
      | (refine um0 (wpAny_load ho ?_)
         rw [hc,hd];show wpAny M A (if (["enumerate", "zip", "dict_itemiterator", "dict_reverseitemiterator", "odict_iterator", "itertools.zip_longest", "itertools.pairwise"].contains n && vs[0]? == some (rawInt _))=true then _ else _) Q E s;rw [if_neg (by intro h;rw [hn,uj0] at h;cases h)]
         exact um1 hQ))
def Itl (K:PySem.W.Frag)(a:Addr):It:=
 ⟨λi H=>∃xs x,SqL K H a xs/\xs[i]?=some x,λi H x H'=>H'=H/\∀xs,SqL K H a xs->xs[i]?=some x,λi H=>∃xs,SqL K H a xs/\xs.length<=i⟩
def Itt (K:PySem.W.Frag)(a:Addr):It:=
 ⟨λi H=>∃xs x,SqT K H a xs/\xs[i]?=some x,λi H x H'=>H'=H/\∀xs,SqT K H a xs->xs[i]?=some x,λi H=>∃xs,SqT K H a xs/\xs.length<=i⟩
noncomputable def Itr (lo:Int)(n:Nat):It:=⟨λi _=>i < n,λi H x H'=>H'=H/\x = .int (lo + i),λi _=>n<=i⟩
theorem QY (a it:Addr):Turn P w K tg (Itl K a) [it] it (λi h=>h.IsListIter it a i) where
 mem:=by simp
 obj:=λi h st b hb=>by
  have e:b=it:=by simpa using hb
  subst e;obtain ⟨o,e,c,d⟩:=st;exact ⟨o,e,λv z=>by rw [d] at z;cases z⟩
 keep:=λi h h' st k=>st.at λo e=>k it (by simp) o e
 item:=by
  intro X hP hw hK hc i pins s σ H E I hf st hg;subst hP hw hK;obtain ⟨xs,x,hq,hx⟩:=hg;obtain ⟨its,rv,p,hz⟩:=I.list hq;obtain ⟨u,hu,ru⟩:=rv.get hx;obtain ⟨f0,f1,f2,f3,f4,f5⟩:=hf it (by simp);refine wpAny_pyNext_list_item st p.isList (x:=u) (by simpa using hu) λh' st' sb=>?_;have I1:Inv X pins σ H { s with heap:=h' }:=I.turned (t':=s.toks) (λb o hb e=>(sb.2 b hb).trans e) f0 f1 f3 f4 f5;obtain ⟨o,e,c,d⟩:=id st';exact ⟨u,rfl,Lp (s:={ s with heap:=h' }) e c d (by decide) ⟨x,H,I1,ru,⟨rfl,λys hy=>by rw [I.list_inj hy hq];exact hx⟩,st',λb hb=>(hf b hb).1⟩⟩
 done:=by
  intro X hP hw hK hc i pins s σ H E I hf st hg;subst hP hw hK;obtain ⟨xs,hq,hx⟩:=hg;obtain ⟨its,rv,p,hz⟩:=I.list hq;obtain ⟨f0,f1,f2,f3,f4,f5⟩:=hf it (by simp);have hl:=rv.length;exact wpAny_pyNext_list_end (I.ok.hd hc) st p.isList (by simp;lia) λh' eb=>⟨rfl,I.turned (t':=s.toks) (λb o hb e=>eb b o hb e) f0 f1 f3 f4 f5⟩
 self:=λ_ _ _ _ _ st h=>wpAny_pyIter_listiter st h
theorem OZ (a it:Addr):Turn P w K tg (Itt K a) [it] it (λi h=>h.IsTupleIter it a i) where
 mem:=by simp
 obj:=λi h st b hb=>by
  have e:b=it:=by simpa using hb
  subst e;obtain ⟨o,e,c,d⟩:=st;exact ⟨o,e,λv z=>by rw [d] at z;cases z⟩
 keep:=λi h h' st k=>st.at λo e=>k it (by simp) o e
 item:=by
  intro X hP hw hK hc i pins s σ H E I hf st hg;subst hP hw hK;obtain ⟨xs,x,hq,hx⟩:=hg;obtain ⟨its,rv,p,hz⟩:=I.tuple hq;obtain ⟨u,hu,ru⟩:=rv.get hx;obtain ⟨f0,f1,f2,f3,f4,f5⟩:=hf it (by simp);refine wpAny_pyNext_tuple_item st (show s.heap.IsTuple a its.toArray from p) (x:=u) (by simpa using hu) λh' st' sb=>?_;have I1:Inv X pins σ H { s with heap:=h' }:=I.turned (t':=s.toks) (λb o hb e=>(sb.2 b hb).trans e) f0 f1 f3 f4 f5;obtain ⟨o,e,c,d⟩:=id st';exact ⟨u,rfl,Lp (s:={ s with heap:=h' }) e c d (by decide) ⟨x,H,I1,ru,⟨rfl,λys hy=>by rw [I.tuple_inj hy hq];exact hx⟩,st',λb hb=>(hf b hb).1⟩⟩
 done:=by
  intro X hP hw hK hc i pins s σ H E I hf st hg;subst hP hw hK;obtain ⟨xs,hq,hx⟩:=hg;obtain ⟨its,rv,p,hz⟩:=I.tuple hq;obtain ⟨f0,f1,f2,f3,f4,f5⟩:=hf it (by simp);have hl:=rv.length;exact wpAny_pyNext_tuple_end (I.ok.hd hc) st (show s.heap.IsTuple a its.toArray from p) (by simp;lia) λh' eb=>⟨rfl,I.turned (t':=s.toks) (λb o hb e=>eb b o hb e) f0 f1 f3 f4 f5⟩
 self:=λ_ _ _ _ _ st h=>wpAny_pyIter_tupleiter st h
theorem OY (it:Addr)(lo:Int)(n:Nat):Turn P w K tg (Itr lo n) [it] it (λi h=>IsRangeIter h it (lo + (i:Nat) * 1) ((n:Int) - (i:Nat)) 1) where
 mem:=by simp
 obj:=λi h st b hb=>by
  have e:b=it:=by simpa using hb
  subst e;exact ⟨_,st,λv z=>by
   have z':Data.fields _=Data.cell v:=z
   cases z'⟩
 keep:=λi h h' st k=>k it (by simp) _ st
 item:=by
  intro X hP hw hK hc i pins s σ H E I hf st hg;subst hP hw hK;obtain ⟨f0,f1,f2,f3,f4,f5⟩:=hf it (by simp);have W:=Walks.range (prog:=X.prog) (w:=X.w) (I.ok.hd hc) it lo 1 n;refine W.item i s _ _ hg st λv h' tk hv st' kk=>?_;obtain ⟨t,rfl⟩:=hv;have I1:Inv X pins σ H { s with heap:=h',toks:=tk }:=I.turned (λb o hb e=>kk b o (by simpa using hb) e) f0 f1 f3 f4 f5;refine ⟨_,rfl,Lp (s:={ s with heap:=h',toks:=tk }) (n:="range_iterator") st' rfl rfl (by decide) ⟨.int (lo + i),H,I1,⟨t,?_⟩,⟨rfl,rfl⟩,st',λb hb=>(hf b hb).1⟩⟩;rw [Int.mul_one]
 done:=by
  intro X hP hw hK hc i pins s σ H E I hf st hg;subst hP hw hK;obtain ⟨f0,f1,f2,f3,f4,f5⟩:=hf it (by simp);exact wpAny_pyNext_range_end (I.ok.hd hc) st (by have:n<=i:=hg;lia) λh' eb=>⟨rfl,I.turned (t':=s.toks) (λb o hb e=>eb b o hb e) f0 f1 f3 f4 f5⟩
 self:=λ_ _ _ _ _ st h=>wpAny_pyIter_rangeiter st h
variable {fp:List Addr}
section
variable {X:Cx}{tg:Expr}
theorem MD {R:It->Hp->Prop}{lo hi:Int}{t u v:Tok}{tk:Nat}(I:Inv X pins σ H s)(h1 : -(2 ^ 62)<=lo)(h2:lo < 2 ^ 62)(h3 : -(2 ^ 62)<=hi)(h4:hi < 2 ^ 62)
 (q:R (Itr lo (hi - lo).toNat) H):wpAny (model X.prog X.w) X.A (pyIter (.ref s.heap.objs.size)) (PIE X pins σ tg R) E { s with heap:=s.heap.push { cls:=.type "range",data:=.fields #[.int lo t,.int hi u,.int 1 v] },toks:=tk }:=by
 refine wpAny_pyIter_range (IsRange.new ..) (small_one h1 h2 h3 h4) ?_;have I1:Inv X pins σ H { s with heap:=s.heap.push { cls:=.type "range",data:=.fields #[.int lo t,.int hi u,.int 1 v] },toks:=tk }:=I.kept λb o e=>ub9 _ e;refine ⟨(s.heap.push { cls:=.type "range",data:=.fields #[.int lo t,.int hi u,.int 1 v] }).objs.size,[(s.heap.push { cls:=.type "range",data:=.fields #[.int lo t,.int hi u,.int 1 v] }).objs.size],_,_,H,rfl,
  I1.kept (t':=tk) λb o e=>ub9 _ e,OY _ lo (hi - lo).toNat,?_,λb hb=>?_,q⟩
 ·have e1:lo + ((0:Nat):Int) * 1=lo:=by simp
  have e2:(((hi - lo).toNat:Nat):Int) - ((0:Nat):Int)=Builtin.Range.rangeSize lo hi 1:=by rw [rangeSize_one];split <;> lia
  show IsRangeIter _ _ (lo + ((0:Nat):Int) * 1) ((((hi - lo).toNat:Nat):Int) - ((0:Nat):Int)) 1;rw [e1,e2];exact ud4 _ rfl
 ·have e:b=(s.heap.push { cls:=.type "range",data:=.fields #[.int lo t,.int hi u,.int 1 v] }).objs.size:=by simpa using hb
  subst e;exact I1.fpOk (ul5 _) (I1.hok.fresh (ul5 _))
def YU (ta:TA):TI:=λσ H R=>ta σ H λvs H1=>∃j:Int,vs=[.int j]/\-(2 ^ 62)<=j/\j < 2 ^ 62/\R (Itr 0 j.toNat) H1
def YV (ta:TA):TI:=λσ H R=>ta σ H λvs H1=>∃i j:Int,vs=[.int i,.int j]/\(-(2 ^ 62)<=i/\i < 2 ^ 62/\-(2 ^ 62)<=j/\j < 2 ^ 62)/\R (Itr i (j - i).toNat) H1
theorem Qt {a:Expr}{ta:TA}{p pos:Pos}(hg:Gl X "range")(hm:X.mg "range" = none)(ha:PA X [a] ta)(hs:starEach [a] X.env=[(false,eval a X.env)]:=by rfl):PI X tg (.Call (.Name "range" p) [a] [] pos) (YU ta):=by
 intro pins s σ H R I h;refine Call_ (F3 I hg hm boot_range (ua3 (thn (ha pos pins s σ H _ I h) λus s1 z9=>?_) hs rfl));obtain ⟨vs,H1,I1,r1,q1⟩:=z9;obtain ⟨j,e,q1,q2,q⟩:=q1;subst e
 cases r1 with
 | cons r rr=>
   cases rr
   obtain ⟨t,rfl⟩:=r;exact call_range_1 (MD I1 (by lia) (by lia) q1 q2 (by simpa using q))
theorem Qu {a b:Expr}{ta:TA}{p pos:Pos}(hg:Gl X "range")(hm:X.mg "range" = none)(ha:PA X [a,b] ta)(hs:starEach [a,b] X.env=[(false,eval a X.env),(false,eval b X.env)]:=by rfl)(hs2:starEach [b] X.env=[(false,eval b X.env)]:=by rfl) :
 PI X tg (.Call (.Name "range" p) [a,b] [] pos) (YV ta):=by
 intro pins s σ H R I h;refine Call_ (F3 I hg hm boot_range (ua3 (thn (ha pos pins s σ H _ I h) λus s1 z9=>?_) (by rw [hs,hs2]) (by rw [hs2];rfl)));obtain ⟨vs,H1,I1,r1,q1⟩:=z9;obtain ⟨i,j,e,⟨q1,q2,q3,q4⟩,q⟩:=q1;subst e
 cases r1 with
 | cons r rr=>
   cases rr with
   | cons r' rr=>
     cases rr
     obtain ⟨t,rfl⟩:=r;obtain ⟨t',rfl⟩:=r';exact call_range_2 (MD I1 q1 q2 q3 q4 q)
def Te (wi:TI)(g:TG)(tb:TS):TS:=λD σ H=>wi σ H λJ H1=>∃W:Nat->Nat->St->Hp->Prop,(∃m,W 0 m σ H1)/\∀i m σ H,W i m σ H->
 (J.stop i H/\D.nx σ H)\/(J.go i H/\∃N:St->Hp->Prop,(∀σ' H',N σ' H'->∃m',m' < m/\W (i + 1) m' σ' H')/\∀x H',J.yld i H x H'->g x σ H' λσ2 H2=>tb { D with nx:=N,ct:=N,bk:=D.nx } σ2 H2)
noncomputable def Ho (fp:List Addr)(h:Heap):List (Addr×Obj):=fp.filterMap λb=>(h.get? b).map λo=>(b,o)
theorem E8 {o:Obj}(hb:b∈fp)(e:h.get? b=some o):(b,o)∈Ho fp h:=List.mem_filterMap.mpr ⟨b,hb,by rw [e];rfl⟩
theorem Qn {p:Addr×Obj}(hp:p∈Ho fp h):p.1∈fp/\h.get? p.1=some p.2:=by
 obtain ⟨b,hb,e⟩:=List.mem_filterMap.mp hp
 cases q:h.get? b with
 | none=>rw [q] at e;cases e
 | some o=>
   rw [q] at e;have e':(b,o)=p:=uh5 e;subst e';exact ⟨hb,q⟩
theorem Inv.pinned (I:Inv X pins σ H s)(hf:∀b∈fp,FpOk X pins H b)(ho:∀b∈fp,∃o,s.heap.get? b=some o/\∀v,o.data≠.cell v):Inv X (pins++Ho fp s.heap) σ H s:=
 I.pins_of λp hp=>(uh4.mp hp).elim (λz=>I.pin p (uc5 _ z)) λz=>by
  obtain ⟨hb,e⟩:=Qn z;obtain ⟨f0,f1,f2,_⟩:=hf p.1 hb;obtain ⟨o,e',d⟩:=ho p.1 hb;rw [e] at e';cases e'
  exact ⟨e,f0,f1,f2,d⟩
theorem Inv.unpinned {pl:List (Addr×Obj)}(I:Inv X (pins++pl) σ H s):Inv X pins σ H s:=I.pins_of λp hp=>I.pin p (uc5 _ (ud0 _ hp))
theorem Qx {iter:Expr}{body:List Stmt}{wi:TI}{g:TG}{tb:TS}{pos:Pos}(hp:PassesOwn (model X.prog X.w) X.A X.env X.xe)(hc:X.calm=true)(hi:PI X tg iter wi)(hg:PG X tg g)(hb:PSs X body tb)
 (hs:∀x,foldedSetIterable iter X.env x=pure x:=by intro _;rfl):PS X (.For tg iter body [] pos) (Te wi g tb):=by
 intro pins s σ H D I h;refine wpAny_For (thn (hi pins s σ H _ I h) λv s1 h1=>thn h1 λitv s2 h2=>?_) hs;obtain ⟨it,fp,tn,J,H2,e,I2,T,st2,f2,W,⟨m0,w0⟩,turn⟩:=h2;subst e
 -- what stays true of the iterator's objects through the loop
 have stat:∀{H':Hp},(∀b∈fp,H' b=none)->∀b∈fp,FpOk X pins H' b:=λhn b hb=>⟨hn b hb,(f2 b hb).2⟩;refine codeAny_forLoop_any (λn s'=>∃i σ' H',Inv X pins σ' H' s'/\tn i s'.heap/\(∀b∈fp,H' b=none)/\W i n σ' H') ?_ m0 ⟨0,σ,H2,I2,st2,λb hb=>(f2 b hb).1,w0⟩;rintro n s3 ⟨i,σ3,H3,I3,st3,fr3,w3⟩;rcases turn i n σ3 H3 w3 with ⟨stop,qn⟩ | ⟨go,N,hN,step⟩
 ·refine wpAny_passesOwn hp (thn (T.done X rfl rfl rfl hc i pins s3 σ3 H3 X.xe I3 (stat fr3) st3 stop) λr s4 z9=>?_);obtain ⟨hr,I4⟩:=z9;subst hr;exact wpAny_execs_nil ⟨σ3,H3,I4,qn⟩
 ·refine wpAny_passesOwn hp (thn (T.item X rfl rfl rfl hc i pins s3 σ3 H3 X.xe I3 (stat fr3) st3 go) λr s4 z9=>?_);obtain ⟨u,hr,h4⟩:=z9;subst hr;refine wpAny_passesOwn hp (thn h4 λ_ s5 z9=>?_);obtain ⟨x,H5,I5,r5,y5,st5,fr5⟩:=z9;have I5':=I5.pinned (stat fr5) (T.obj _ _ st5);refine wpAny_passesOwn hp (thn (hg _ s5 σ3 H5 x u _ I5' r5 (step x H5 y5)) λ_ s6 z9=>?_);obtain ⟨σ6,H6,I6,q6⟩:=z9;refine wpAny_passesOwn hp (thn (hb _ s6 σ6 H6 _ I6 q6) λf s7 q7=>?_);have again:∀{σ7:St} {H7:Hp},Inv X (pins++Ho fp s5.heap) σ7 H7 s7->N σ7 H7->∃m,m < n/\∃i σ' H',Inv X pins σ' H' s7/\tn i s7.heap/\(∀b∈fp,H' b=none)/\W i m σ' H':=λ{σ7 H7} I7 n7=>by
   obtain ⟨m',hm,w7⟩:=hN σ7 H7 n7;refine ⟨m',hm,i + 1,σ7,H7,I7.unpinned,T.keep _ _ _ st5 λb hb o e=>(I7.pin (b,o) (uc5 _ (uc5 _ (E8 hb e)))).1,λb hb=>?_,w7⟩;obtain ⟨o,e,d⟩:=T.obj _ _ st5 b hb;exact (I7.pin (b,o) (uc5 _ (uc5 _ (E8 hb e)))).2.1
  cases f with
  | next=>obtain ⟨σ7,H7,I7,n7⟩:=q7;exact again I7 n7
  | cont=>obtain ⟨σ7,H7,I7,n7⟩:=q7;exact again I7 n7
  | brk=>obtain ⟨σ7,H7,I7,q7⟩:=q7;exact ⟨σ7,H7,I7.unpinned,q7⟩
  | ret v=>obtain ⟨x7,σ7,H7,I7,r7,q7⟩:=q7;exact ⟨x7,σ7,H7,I7.unpinned,r7,q7⟩
end
abbrev R2:=V->V->Hp->VK->Prop
def OpR (X:Cx)(f:Value->Value->Sem Value)(r:R2):Prop:=
 ∀(pins:List (Addr×Obj)) (s:Shared) (σ:St) (H:Hp) (x y:V) (v u:Value) (Q:VK),Inv X pins σ H s->RelV x v->RelV y u->r x y H Q->
  wpAny (model X.prog X.w) X.A (f v u) (EP X pins σ Q) X.xe s
def UnR (X:Cx)(f:Value->Sem Value)(r:V->Hp->VK->Prop):Prop:=
 ∀(pins:List (Addr×Obj)) (s:Shared) (σ:St) (H:Hp) (x:V) (v:Value) (Q:VK),Inv X pins σ H s->RelV x v->r x H Q->
  wpAny (model X.prog X.w) X.A (f v) (EP X pins σ Q) X.xe s
def DO (X:Cx)(f:Value)(r:List V->Hp->VK->Prop):Prop:=
 ∀(pins:List (Addr×Obj)) (s:Shared) (σ:St) (H:Hp) (xs:List V) (us:List Value) (Q:VK),Inv X pins σ H s->Vals xs us->r xs H Q->
  wpAny (model X.prog X.w) X.A (call f us) (EP X pins σ Q) X.xe s
def tOp (r:R2)(ta tb:TE):TE:=λσ H Q=>ta σ H λx H1=>tb σ H1 λy H2=>r x y H2 Q
def tUn (r:V->Hp->VK->Prop)(ta:TE):TE:=λσ H Q=>ta σ H λx H1=>r x H1 Q
def rI (C:Int->Int->Prop)(g:Int->Int->V):R2:=λx y H Q=>∃i j,x = .int i/\y = .int j/\C i j/\Q (g i j) H
def rI0 (g:Int->Int->V):R2:=λx y H Q=>∃i j,x = .int i/\y = .int j/\Q (g i j) H
def rU (g:Int->V):V->Hp->VK->Prop:=λx H Q=>∃i,x = .int i/\Q (g i) H
variable {r:R2}{f:Value->Value->Sem Value}
section
variable {X:Cx}{a b c:Expr}{ta tb tc:TE}{pos:Pos}
theorem Rj (ha:PE X a ta)(hb:PE X b tb){pins:List (Addr×Obj)}{s:Shared}{σ:St}{H:Hp}{R:V->V->Hp->Prop}(I:Inv X pins σ H s)
 (h:ta σ H λx H1=>tb σ H1 λy H2=>R x y H2) {Q:Value->Shared->Prop} {f:Value->Value->Sem Value}
 (hf:∀v u s2 x y H2,Inv X pins σ H2 s2->RelV x v->RelV y u->R x y H2->wpAny (model X.prog X.w) X.A (f v u) Q X.xe s2) :
 wpAny (model X.prog X.w) X.A (eval a X.env) (λv s₁=>wpAny (model X.prog X.w) X.A (eval b X.env) (λu s₂=>wpAny (model X.prog X.w) X.A (f v u) Q X.xe s₂) X.xe s₁) X.xe s:=by
 refine thn (ha pins s σ H _ I h) λv s1 z9=>?_;obtain ⟨x,H1,I1,r1,q1⟩:=z9;refine thn (hb pins s1 σ H1 _ I1 q1) λu s2 z9=>?_;obtain ⟨y,H2,I2,r2,q2⟩:=z9;exact hf v u s2 x y H2 I2 r1 r2 q2
theorem OE {op:Operator}(ho:OpR X (binaryOp op) r)(ha:PE X a ta)(hb:PE X b tb):PE X (.BinOp a op b pos) (tOp r ta tb):=by
 intro pins s σ H Q I h;exact wpAny_BinOp (Rj ha hb I h λv u s2 x y H2 I2 rx ry q=>ho pins s2 σ H2 x y v u Q I2 rx ry q)
theorem Y2 {op:UnaryOp}{r:V->Hp->VK->Prop}(ho:UnR X (unaryOp op) r)(ha:PE X a ta):PE X (.UnaryOp op a pos) (tUn r ta):=by
 intro pins s σ H Q I h;exact UnaryOp_ (thn (ha pins s σ H _ I h) λv s1 z9=>by obtain ⟨x,H1,I1,r1,q1⟩:=z9;exact ho pins s1 σ H1 x v Q I1 r1 q1)
theorem opI {C:Int->Int->Prop}{g:Int->Int->Int}
 (rule:∀(i j:Int) (t u:Tok) (s:Shared) (Q:Value->Shared->Prop) (E:Value->Shared->Prop),C i j->Q (.int (g i j) s.toks) { s with toks:=s.toks + 1 }->wpAny (model X.prog X.w) X.A (f (.int i t) (.int j u)) Q E s) :
 OpR X f (rI C λi j=>.int (g i j)):=by
 intro pins s σ H x y v u Q I rx ry h;obtain ⟨i,j,rfl,rfl,hc,q⟩:=h;obtain ⟨t,rfl⟩:=rx;obtain ⟨t',rfl⟩:=ry;exact rule i j t t' s _ _ hc ⟨.int (g i j),H,I.tok _,⟨_,rfl⟩,q⟩
theorem Xm {g:Int->Int->Int}
 (rule:∀(i j:Int) (t u:Tok) (s:Shared) (Q:Value->Shared->Prop) (E:Value->Shared->Prop),Q (.int (g i j) s.toks) { s with toks:=s.toks + 1 }->wpAny (model X.prog X.w) X.A (f (.int i t) (.int j u)) Q E s) :
 OpR X f (rI0 λi j=>.int (g i j)):=by
 intro pins s σ H x y v u Q I rx ry h;obtain ⟨i,j,rfl,rfl,q⟩:=h;obtain ⟨t,rfl⟩:=rx;obtain ⟨t',rfl⟩:=ry;exact rule i j t t' s _ _ ⟨.int (g i j),H,I.tok _,⟨_,rfl⟩,q⟩
theorem OD {g:Int->Int->Bool}
 (rule:∀(i j:Int) (t u:Tok) (s:Shared) (Q:Value->Shared->Prop) (E:Value->Shared->Prop),Q (.bool (g i j)) s->wpAny (model X.prog X.w) X.A (f (.int i t) (.int j u)) Q E s) :
 OpR X f (rI0 λi j=>.bl (g i j)):=by
 intro pins s σ H x y v u Q I rx ry h;obtain ⟨i,j,rfl,rfl,q⟩:=h;obtain ⟨t,rfl⟩:=rx;obtain ⟨t',rfl⟩:=ry;exact rule i j t t' s _ _ ⟨.bl (g i j),H,I,rfl,q⟩
def V9 (i j:Int):Prop:=0 < j/\j < 1073741824
def Wa (i j:Int):Prop:=0<=j/\j<=1000000/\i.natAbs < 2 ^ 64
def CMul (i j:Int):Prop:=(-(2 ^ 64) < i/\i < 2 ^ 64)\/(-(2 ^ 64) < j/\j < 2 ^ 64)
theorem CMul.ok {i j:Int}(h:CMul i j):IntMulOk i j:=by
 rcases h with ⟨h1,h2⟩ | ⟨h1,h2⟩
 ·exact .of_left (intBits_le_64 h1 h2)
 ·exact .of_right (intBits_le_64 h1 h2)
theorem two_pow_nn (k:Nat):(0:Int)<=2 ^ k:=by
 rw [two_pow_cast];exact Int.natCast_nonneg _
theorem op_add:OpR X (binaryOp .Add) (rI0 λi j=>.int (i + j)):=Xm λ_ _ _ _ _ _ _ q=>add_int q
theorem Xv:OpR X (binaryOp .Sub) (rI0 λi j=>.int (i - j)):=Xm λ_ _ _ _ _ _ _ q=>sub_int q
theorem Xs:OpR X (binaryOp .Mult) (rI CMul λi j=>.int (i * j)):=opI λ_ _ _ _ _ _ _ hc q=>mul_int q hc.ok
theorem U0:OpR X (binaryOp .FloorDiv) (rI V9 λi j=>.int (i / j)):=opI λi j _ _ _ _ _ hc q=>by
 have h1:(0:Int) < j:=hc.1;have h2:j < 1073741824:=hc.2;exact floordiv_int (by lia) (by rw [Int.fdiv_eq_ediv_of_nonneg i (by lia)];exact q) (.inl (PyProof.noPylong_small (by lia)))
theorem Xr:OpR X (binaryOp .Mod) (rI (λ_ j=>0 < j) λi j=>.int (i % j)):=opI λi j _ _ _ _ _ hc q=>by
 have h1:(0:Int) < j:=hc;exact mod_int' (by lia) (by rw [Int.fmod_eq_emod_of_nonneg i (by lia)];exact q)
theorem Xt:OpR X (binaryOp .Pow) (rI Wa λi j=>.int (i ^ j.toNat)):=opI λ_ _ _ _ _ _ _ hc q=>pow_int_small hc.1 hc.2.1 hc.2.2 q
theorem Xu:OpR X (binaryOp .RShift) (rI (λ_ j=>0<=j) λi j=>.int (i / 2 ^ j.toNat)):=opI λi j _ _ _ _ _ hc q=>
 rshift_int hc (by rw [Int.fdiv_eq_ediv_of_nonneg i (two_pow_nn _)];exact q)
theorem unI {f:Value->Sem Value}{g:Int->Int}
 (rule:∀(i:Int) (t:Tok) (s:Shared) (Q:Value->Shared->Prop) (E:Value->Shared->Prop),Q (.int (g i) s.toks) { s with toks:=s.toks + 1 }->wpAny (model X.prog X.w) X.A (f (.int i t)) Q E s) :
 UnR X f (rU λi=>.int (g i)):=by
 intro pins s σ H x v Q I rx h;obtain ⟨i,rfl,q⟩:=h;obtain ⟨t,rfl⟩:=rx;exact rule i t s _ _ ⟨.int (g i),H,I.tok _,⟨_,rfl⟩,q⟩
theorem Ym:UnR X (unaryOp .USub) (rU λi=>.int (-i)):=unI λ_ _ _ _ _ q=>neg_int q
end
variable {op:CmpOp}{us:List Value}
section
variable {X:Cx}{a b c:Expr}{ta tb tc:TE}{pos:Pos}
theorem op_lt:OpR X (compareOp .Lt) (rI0 λi j=>.bl (decide (i < j))):=OD λ_ _ _ _ _ _ _ q=>lt_int q
theorem op_le:OpR X (compareOp .LtE) (rI0 λi j=>.bl (decide (i<=j))):=OD λ_ _ _ _ _ _ _ q=>le_int q
theorem op_gt:OpR X (compareOp .Gt) (rI0 λi j=>.bl (decide (j < i))):=OD λ_ _ _ _ _ _ _ q=>gt_int q
theorem op_ge:OpR X (compareOp .GtE) (rI0 λi j=>.bl (decide (j<=i))):=OD λ_ _ _ _ _ _ _ q=>ge_int q
theorem OpR.or {r':R2}(h:OpR X f r)(h':OpR X f r'):OpR X f (λx y H Q=>r x y H Q\/r' x y H Q):=by
 intro pins s σ H x y v u Q I rx ry q;rcases q with q | q
 ·exact h pins s σ H x y v u Q I rx ry q
 ·exact h' pins s σ H x y v u Q I rx ry q
theorem DM (b:Expr){op:CmpOp}(h:op≠.In:=by decide)(h2:op≠.NotIn:=by decide):behindInMarks op b=false:=by
 have e1:(op == CmpOp.In)=false:=by cases op <;> first | rfl | exact absurd rfl h
 have e2:(op == CmpOp.NotIn)=false:=by cases op <;> first | rfl | exact absurd rfl h2
 cases b <;> simp [behindInMarks,e1,e2]
theorem U5 (ho:OpR X (compareOp op) r)(ha:PE X a ta)(hb:PE X b tb)(hm:behindInMarks op b=false):PE X (.Compare a [op] [b] pos) (tOp r ta tb):=by
 intro pins s σ H Q I h;exact wpAny_Compare1 (Rj ha hb I h λv u s2 x y H2 I2 rx ry q=>ho pins s2 σ H2 x y v u Q I2 rx ry q) hm
def Zi (t:TE):TT:=λσ H Q=>t σ H λx H'=>∃k,x = .bl k/\Q k H'
theorem Vj (ho:OpR X (compareOp op) r)(ha:PE X a ta)(hb:PE X b tb)(hm:behindInMarks op b=false):PT X (.Compare a [op] [b] pos) (Zi (tOp r ta tb)):=by
 intro pins s σ H Q I h;refine wpAny_isTrue_Compare1 (thn (ha pins s σ H _ I h) λv s1 ⟨x,H1,I1,r1,q1⟩=>thn (hb pins s1 σ H1 _ I1 q1) λu s2 ⟨y,H2,I2,r2,q2⟩=>
  thn (ho pins s2 σ H2 x y v u _ I2 r1 r2 q2) λc s3 ⟨z,H3,I3,r3,k,e,q3⟩=>?_) hm
 subst e
 cases r3
 exact wpAny_truthy_bool ⟨H3,I3,q3⟩
def QR (r r':R2)(ta tb tc:TE):TE:=λσ H Q=>ta σ H λx H1=>tb σ H1 λy H2=>r x y H2 λz H3=>∃k,z = .bl k/\
 (if k=true then tc σ H3 λw' H4=>r' y w' H4 Q else Q (.bl false) H3)
theorem SE {op':CmpOp}{r':R2}(ho:OpR X (compareOp op) r)(ho':OpR X (compareOp op') r')(ha:PE X a ta)(hb:PE X b tb)(hc:PE X c tc)
 (hm:lastMarks [op,op'] [b,c]=false:=by with_unfolding_all rfl):PE X (.Compare a [op,op'] [b,c] pos) (QR r r' ta tb tc):=by
 intro pins s σ H Q I h;refine Compare_chain (thn (ha pins s σ H _ I h) λv s1 ⟨x,H1,I1,r1,q1⟩=>chain_link (thn (hb pins s1 σ H1 _ I1 q1) λu s2 ⟨y,H2,I2,r2,q2⟩=>
  thn (ho pins s2 σ H2 x y v u _ I2 r1 r2 q2) λd s3 ⟨z,H3,I3,r3,k,e,q3⟩=>?_)) hm
 subst e
 cases r3
 refine wpAny_truthy_bool ?_
 cases k with
 | false=>exact ite_ff ⟨.bl false,H3,I3,rfl,q3⟩
 | true=>exact ite_tt (chain_last (thn (hc pins s3 σ H3 _ I3 q3) λw' s4 z9=>by obtain ⟨z',H4,I4,r4,q4⟩:=z9;exact ho' pins s4 σ H4 y z' u w' Q I4 r2 r4 q4))
theorem Jn:(sizeLine:Nat) < 2 ^ 63:=by rw [sizeLine_eq];decide
theorem op_add_str:OpR X (binaryOp .Add) (λx y H Q=>∃i j,x = .str i/\y = .str j/\i.length + j.length<=sizeLine/\Q (.str (i++j)) H):=by
 intro pins s σ H x y v u Q I rx ry h;obtain ⟨i,j,rfl,rfl,hz,q⟩:=h;obtain ⟨t,rfl⟩:=rx;obtain ⟨t',rfl⟩:=ry;exact add_str (λt' tk=>⟨.str (i++j),H,I.tok _,⟨_,rfl⟩,q⟩) hz
theorem Jz {x:V}(r:Vals [x] us):∃u,us=[u]/\RelV x u:=by
 cases r with
 | cons r1 r2=>cases r2;exact ⟨_,rfl,r1⟩
theorem T6 {x y:V}(r:Vals [x,y] us):∃u w',us=[u,w']/\RelV x u/\RelV y w':=by
 cases r with
 | cons r1 r2=>
   cases r2 with
   | cons r3 r4=>cases r4;exact ⟨_,_,rfl,r1,r3⟩
theorem Ro:DO X (.builtin "ord") (λxs H Q=>∃x,xs=[.str x]/\x.length=1/\Q (.int (x.cps.getD 0 0:Nat)) H):=by
 intro pins s σ H xs us Q I r h;obtain ⟨x,rfl,hz,q⟩:=h;obtain ⟨u,rfl,t,rfl⟩:=Jz r;exact ord_of_one hz ⟨.int _,H,I.tok _,⟨_,rfl⟩,q⟩
def Wc (K:PySem.W.Frag)(x:V)(H:Hp)(n:Nat):Prop:=
 match x with
 | .str y=>y.length<=sizeLine/\n=y.length
 | .byt y=>y.size<=sizeLine/\n=y.size
 | .ref p=>(∃xs,SqL K H p xs/\n=xs.length)\/∃xs,SqT K H p xs/\n=xs.length
 | _=>False
theorem Rn:DO X (.builtin "len") (λxs H Q=>∃x n,xs=[x]/\Wc X.K x H n/\Q (.int n) H):=by
 intro pins s σ H xs us Q I r h;obtain ⟨x,n,rfl,e,q⟩:=h;obtain ⟨u,rfl,rx⟩:=Jz r;have hl:=Jn;have hs:sizeLine=16777216:=sizeLine_eq
 cases x with
 | str y=>
   obtain ⟨t,rfl⟩:=rx;obtain ⟨hy,e'⟩:y.length<=sizeLine/\n=y.length:=e;subst e';exact len_str (by lia) ⟨.int _,H,I.tok _,⟨_,rfl⟩,q⟩
 | byt y=>
   obtain ⟨t,rfl⟩:=rx;obtain ⟨hy,e'⟩:y.size<=sizeLine/\n=y.size:=e;subst e';exact PySem.W.len_bytes (by lia) ⟨.int _,H,I.tok _,⟨_,rfl⟩,q⟩
 | ref p=>
   cases rx
   have e':(∃xs,SqL X.K H p xs/\n=xs.length)\/∃xs,SqT X.K H p xs/\n=xs.length:=e;rcases e' with ⟨xs,hx,e'⟩ | ⟨xs,hx,e'⟩
   ·subst e';obtain ⟨its,r',pl,hz⟩:=I.list hx;have hlen:=r'.length;exact Calls.call_len_list pl.isList (by simp only [uf0];lia) ⟨.int xs.length,H,I.tok _,⟨_,by simp only [uf0];rw [hlen]⟩,q⟩
   ·subst e';obtain ⟨its,r',pl,hz⟩:=I.tuple hx;have hlen:=r'.length;exact len_tuple pl (by simp only [uf0];lia) ⟨.int xs.length,H,I.tok _,⟨_,by simp only [uf0];rw [hlen]⟩,q⟩
 | _=>exact (show False from e).elim
end
structure ObjM (h:Heap)(x dx C:Addr)(mA:Str->Option Value):Prop where
 obj:h.get? x=some (PySem.W.instObj C dx)
 ns:h.Ns1 dx mA
 ne:dx≠x
theorem FO {dx:Addr}{mA:Str->Option Value}(n:h.Ns1 dx mA):∃od,h.get? dx=some od/\∀name,PySem.W.lookIn name od=some (mA name):=by
 obtain ⟨o,es,ep,ho,hd,hk,_,hm⟩:=n;refine ⟨o,ho,λname=>?_⟩;have e:=hm name;unfold nsFind findBy at e;rw [<-ue1] at e;unfold PySem.W.lookIn;rw [hd];dsimp only
 split
 ·rename_i y q;rw [q] at e;exact congrArg some e
 ·rename_i q;rw [q] at e;have a:es.toList.any (·.refKey)=false:=by
   rw [List.any_eq_false];intro y hy;obtain ⟨z,t,hkey⟩:=hk y (Array.mem_toList_iff.mp hy);simp [DictEntry.refKey,hkey]
  have a':¬es.toList.any (·.refKey)=true:=by rw [a];exact ue0
  rw [if_neg a'];exact congrArg some e
variable {C:Addr}
theorem ObjM.look {x dx:Addr}{mA:Str->Option Value}(I:ObjM h x dx C mA):∃od,PySem.W.InstAt h x (PySem.W.instObj C dx) C (some od)/\∀name,PySem.W.lookIn name od=some (mA name):=
 let ⟨od,ho,hl⟩:=FO I.ns
 ⟨od,⟨I.obj,rfl,rfl,ho⟩,hl⟩
variable {pl:Sem Bool}{kw:List (Str×Value)}
section
variable {prog:Program}{w:World}{A:Around}{E:Value->Shared->Prop}{s:Shared}{K:PySem.W.Frag}{x dx C f:Addr}{mA:Str->Option Value}{name:Str}{v:Value}
theorem UH {expr:Bool}{Q:Value->Shared->Prop}(X:K.In s.heap)(I:ObjM s.heap x dx C mA)(hg:PySem.W.plainGet K C name=true)(hh:PySem.W.hasDictIn K C=true)
 (ha:PySem.W.findIn K (.ref C) name=some none) (hv:mA name=some v) (hv':PySem.W.handedIn v=true) (h:Q v { s with toks:=s.toks + 1 }) :
 wpAny (model prog w) A (getAttr (.ref x) name expr) Q E s:=by
 obtain ⟨od,J,hl⟩:=I.look;exact PySem.W.get_value X J (ud5 hg).1 (PySem.W.findObj_own hh ha rfl (by rw [hl,hv])) hv' h
theorem RY {Q:Value×List Value->Shared->Prop}(X:K.In s.heap)(I:ObjM s.heap x dx C mA)(hg:PySem.W.plainGet K C name=true)
 (hf:PySem.W.findIn K (.ref C) name=some (some (.ref f))) (ht:PySem.W.isFn K (.ref f)=true) (hv:mA name=none) (h:Q (.ref f,[.ref x]) s) :
 wpAny (model prog w) A (getMethod (.ref x) name pl) Q E s:=by
 obtain ⟨od,J,hl⟩:=I.look;exact PySem.W.method_fn X J (ud5 hg).1 (ud5 hg).2 hf (beq_iff_eq.mp ht) (by show (PySem.W.lookIn name od).map (·.isSome)=some false;rw [hl,hv];rfl) h
theorem VO {ns:List Str}(X:K.In s.heap)(I:ObjM s.heap x dx C mA)
 (hs:PySem.W.findIn K (.ref C) "__setattr__" = some (some (.builtin "object.__setattr__"))) (hp:PySem.W.plainOver K C=true) (ht:PySem.W.takerIn K C name=some none) (hh:PySem.W.hasDictIn K C=true)
 (hw:PySem.Within mA ns) (hsz:ns.length<=sizeLine)
 (h:∀h',ObjM h' x dx C (λy=>if y=name then some v else mA y)->Heap.SameBut dx s.heap h'->Q () { s with heap:=h',toks:=s.toks + 2 }) :
 wpAny (model prog w) A (setAttr (.ref x) name v) Q E s:=by
 obtain ⟨od,J,hl⟩:=I.look;refine PySem.W.set_plain X J hs (PySem.W.osa_open (s:={ s with toks:=s.toks + 1 }) (r:=none) X J hp ht λb=>?_);obtain ⟨cd,hc,hd'⟩:=PySem.W.any_some hh;have hx:s.heap.get? x=some ⟨.ref C,some dx,.plain,#[]⟩:=I.obj;refine um0 (um1 (um0 (um0 (wpAny_loadPart hx (um0 (PySem.W.Looks.here (s:={ s with toks:=s.toks + 1 }) (PySem.W.looks_clsIn X hc) ?_))))));rw [hd'];refine um1 (a:=some dx) (um0 (um1 (um0 ?_)));refine wpAny_nsSet1 (s:={ s with toks:=s.toks + 1 }) I.ns λh' hn2 hs2=>?_;obtain ⟨oD,esD,epD,hoD,hdD,hcD⟩:=hn2.count (PySem.Within.cons name v hw);refine um0 (wpAny_lookBehind hoD (by rw [hdD];exact pastItsLine_dict (uk7 hcD (by rw [ug1];lia))) ?_);exact um1 (h _ ⟨(hs2.2 _ (Ne.symm I.ne)).trans I.obj,hn2,I.ne⟩ hs2)
theorem Si {R:Result->Shared->Prop}{vs:List Value}(X:K.In s.heap)(hm:PySem.W.makesIn K C=true)
 (hi:PySem.W.findIn K (.ref C) "__init__" = some (some (.ref f))) (hf:PySem.W.typeIn K (.ref f)=some (.type "function"))
 (h:codeAny (model prog w) (A.under (.builtin "type.__call__" ⟨.ref C :: vs,kw⟩)) (.call (.ref f) ⟨.ref (s.heap.objs.size + 1) :: vs,kw⟩) (PySem.W.InitBack (s.heap.objs.size + 1) R)
   { s with heap:=(s.heap.push PySem.W.emptyDict).push (PySem.W.instObj C s.heap.objs.size) }) :
 codeAny (model prog w) A (.call (.ref C) ⟨vs,kw⟩) R s:=by
 obtain ⟨hh,g,d,t,os⟩:=s;exact PySem.W.make_core (PySem.W.makes_of X hm) (PySem.W.looks_findIn X hi) (λself=>PySem.W.bind_fn X self hf) (.inl rfl) h
end
noncomputable def CO (f:Str)(v:V):List (Str×V)->List (Str×V)
 | []=>[(f,v)]
 | (g,x) :: r=>if g=f then (g,v) :: r else (g,x) :: CO f v r
theorem Ig (f g:Str)(v:V):∀fs:List (Str×V),(CO f v fs).lookup g=if g=f then some v else fs.lookup g
 | []=>by
   show List.lookup g [(f,v)]=_
   by_cases h:g=f
   ·have hb:(g == f)=true:=beq_iff_eq.mpr h;simp only [List.lookup,hb,if_pos h]
   ·have hb:(g == f)=false:=beq_eq_false_iff_ne.mpr h;simp only [List.lookup,hb,if_neg h]
 | (k,x) :: r=>by
   have ih:=Ig f g v r;rw [show CO f v ((k,x) :: r)=(if k=f then (k,v) :: r else (k,x) :: CO f v r) from rfl]
   by_cases hk:k=f
   ·rw [if_pos hk]
    by_cases h:g=k
    ·have hb:(g == k)=true:=beq_iff_eq.mpr h;simp only [List.lookup,hb,if_pos (h.trans hk)]
    ·have hb:(g == k)=false:=beq_eq_false_iff_ne.mpr h;simp only [List.lookup,hb,if_neg (λe:g=f=>h (e.trans hk.symm))]
   ·rw [if_neg hk]
    by_cases h:g=k
    ·have hb:(g == k)=true:=beq_iff_eq.mpr h;simp only [List.lookup,hb,if_neg (λe:g=f=>hk (h.symm.trans e))]
    ·have hb:(g == k)=false:=beq_eq_false_iff_ne.mpr h;simp only [List.lookup,hb];exact ih
theorem Hg (f:Str)(v:V):∀fs:List (Str×V),f∈(CO f v fs).map (·.1)/\∀g,g∈fs.map (·.1)->g∈(CO f v fs).map (·.1)
 | []=>⟨by simp [CO],λg h=>by simp at h⟩
 | (k,x) :: r=>by
   obtain ⟨i1,i2⟩:=Hg f v r;rw [show CO f v ((k,x) :: r)=(if k=f then (k,v) :: r else (k,x) :: CO f v r) from rfl]
   by_cases hk:k=f
   ·rw [if_pos hk];subst hk;exact ⟨by simp,λg h=>by simpa using h⟩
   ·rw [if_neg hk];refine ⟨?_,λg h=>?_⟩
    ·rw [uj6];exact uc9 _ i1
    ·rw [uj6] at h ⊢;rcases uj5.mp h with e | e
     ·exact uj5.mpr (.inl e)
     ·exact uc9 _ (i2 g e)
theorem Ic (f:Str)(v:V):∀fs:List (Str×V),(CO f v fs).length<=fs.length + 1
 | []=>by simp [CO]
 | (k,x) :: r=>by
   have ih:=Ic f v r;rw [show CO f v ((k,x) :: r)=(if k=f then (k,v) :: r else (k,x) :: CO f v r) from rfl]
   by_cases hk:k=f
   ·rw [if_pos hk,ug1,ug1];lia
   ·rw [if_neg hk,ug1,ug1];lia
theorem RelO.some_of {o:Option Value}(r:RelO (some v) o):∃u,o=some u/\RelV v u:=by
 cases o with
 | none=>exact (show False from r).elim
 | some u=>exact ⟨u,rfl,r⟩
theorem RelO.none_of {o:Option Value}(r:RelO none o):o=none:=by
 cases o with
 | none=>rfl
 | some u=>exact (show False from r).elim
theorem KI (r:RelV v u):PySem.W.handedIn u=true:=by
 cases v with
 | non=>cases (show u=Value.none from r);rfl
 | bl b=>cases (show u=Value.bool b from r);rfl
 | int i=>obtain ⟨t,e⟩:=(show ∃t,u=Value.int i t from r);cases e;rfl
 | str x=>obtain ⟨t,e⟩:=(show ∃t,u=Value.str x t from r);cases e;rfl
 | byt b=>obtain ⟨t,e⟩:=(show ∃t,u=Value.bytes b t from r);cases e;rfl
 | flt b=>obtain ⟨t,e⟩:=(show ∃t,u=Value.float b t from r);cases e;rfl
 | ref a=>cases (show u=Value.ref a from r);rfl
 | ty n=>cases (show u=Value.type n from r);rfl
section
variable {P:Program}{w:World}{H H':Hp}{h h':Heap}{a C dx:Addr}{fs fs':List (Str×V)}
theorem HN (hok:HOk P w H h)(e:H a=some (.ins C dx fs)):∃mA,ObjM h a dx C mA/\(∀f,RelO (fs.lookup f) (mA f))/\PySem.Within mA (fs.map (·.1))/\fs.length<=1000/\H dx=some (.own a):=by
 obtain ⟨d,z,ne,ob,mA,n,r,q⟩:=(show ObjOk P w H h a (.ins C dx fs) from hok a _ e);exact ⟨mA,⟨ob,n,ne⟩,r,q,z,d⟩
end
structure Cls (K:PySem.W.Frag)(C:Addr):Prop where
 pg:PySem.W.plainGet K C Str.empty=true
 hd:PySem.W.hasDictIn K C=true
 po:PySem.W.plainOver K C=true
 sa:PySem.W.findIn K (.ref C) "__setattr__" = some (some (.builtin "object.__setattr__"))
theorem Cls.get {K:PySem.W.Frag}{C:Addr}(c:Cls K C)(f:Str):PySem.W.plainGet K C f=true:=c.pg
def NoAttr (K:PySem.W.Frag)(C:Addr)(f:Str):Prop:=PySem.W.findIn K (.ref C) f=some none
theorem NoAttr.taker {f:Str}(n:NoAttr K C f):PySem.W.takerIn K C f=some none:=by
 unfold PySem.W.takerIn;rw [show PySem.W.findIn K (.ref C) f=some none from n];rfl
structure Con (K:PySem.W.Frag)(C:Addr)(f:Str)(v:V)(u:Value):Prop where
 at_:PySem.W.findIn K (.ref C) f=some (some u)
 rel:RelV v u
 get:PySem.W.specialIn K u "__get__" = some none
 cp:PySem.W.copiedNames.contains f=false
structure Meth (K:PySem.W.Frag)(C:Addr)(m:Str)(f:Addr):Prop where
 at_:PySem.W.findIn K (.ref C) m=some (some (.ref f))
 fn:PySem.W.isFn K (.ref f)=true
 kp:PySem.W.keepIn K (.ref f)=true
section
variable {X:Cx}{pins:List (Addr×Obj)}{σ:St}{H:Hp}{s:Shared}{a C dx:Addr}{fs:List (Str×V)}{f:Str}{v:V}{A:Around}{E:Value->Shared->Prop}
theorem Os {b:Bool}{Q:Value->Shared->Prop}(I:Inv X pins σ H s)(e:H a=some (.ins C dx fs))(c:Cls X.K C)(n:NoAttr X.K C f)(l:fs.lookup f=some v)
 (h:∀u s',Inv X pins σ H s'->RelV v u->Q u s'):wpAny (model X.prog X.w) A (getAttr (.ref a) f b) Q E s:=by
 obtain ⟨mA,O,r,_,_,_⟩:=HN I.hok e;obtain ⟨u,hu,ru⟩:=RelO.some_of (v:=v) (o:=mA f) (by rw [<-l];exact r f);exact UH I.kIn O (c.get f) c.hd n hu (KI ru) (h u _ (I.tok _) ru)
theorem Gs {m:Str}{g:Addr}{Q:Value×List Value->Shared->Prop}(I:Inv X pins σ H s)(e:H a=some (.ins C dx fs))(c:Cls X.K C)(k:Meth X.K C m g)(l:fs.lookup m=none)
 (h:Q (.ref g,[.ref a]) s):wpAny (model X.prog X.w) A (getMethod (.ref a) m pl) Q E s:=by
 obtain ⟨mA,O,r,_,_,_⟩:=HN I.hok e;have hn:mA m=none:=RelO.none_of (by rw [<-l];exact r m);exact RY I.kIn O (c.get m) k.at_ k.fn hn h
theorem OT {y:V}(I:Inv X pins σ H s)(e:H a=some (.ins C dx fs))(c:Cls X.K C)(n:NoAttr X.K C f)(hl:fs.length < 1000)(ry:RelV y u)
 (h:∀s',Inv X pins σ (upd H a (.ins C dx (CO f y fs))) s'->Q () s'):wpAny (model X.prog X.w) A (setAttr (.ref a) f u) Q E s:=by
 obtain ⟨mA,O,r,wi,_,ho⟩:=HN I.hok e;have hz:(fs.map (·.1)).length<=sizeLine:=by rw [uh6,sizeLine_eq];lia
 refine VO I.kIn O c.sa c.po n.taker c.hd wi hz λh' O' sb=>h _ ?_;have hd:∃o,h'.get? dx=some o:=let ⟨o,_,_,e',_⟩:=O'.ns;⟨o,e'⟩;refine I.write (x:=a) (e:=dx) (by rw [e];exact True.intro) (.inr ho) (λb q hb z=>(sb.2 b hb).trans z) hd ?_;refine ⟨by rw [Ag O.ne];exact ho,?_,O.ne,O'.obj,_,O'.ns,λg=>?_,λg hg=>?_⟩
 ·have:=Ic f y fs;lia
 ·show RelO ((CO f y fs).lookup g) (if g=f then some u else mA g);rw [Ig]
  by_cases q:g=f
  ·rw [if_pos q,if_pos q];exact ry
  ·rw [if_neg q,if_neg q];exact r g
 ·by_cases q:g=f
  ·rw [q];exact (Hg f y fs).1
  ·refine (Hg f y fs).2 g (wi g λz=>hg ?_);show (if g=f then some u else mA g)=none;rw [if_neg q];exact z
theorem Inv.made (I:Inv X pins σ H s):Inv X pins σ (upd (upd H s.heap.objs.size (.own (s.heap.objs.size + 1))) (s.heap.objs.size + 1) (.ins C s.heap.objs.size []))
 { s with heap:=(s.heap.push PySem.W.emptyDict).push (PySem.W.instObj C s.heap.objs.size) }:=by
 have e1:(s.heap.push PySem.W.emptyDict).get? s.heap.objs.size=some PySem.W.emptyDict:=ud4 s.heap rfl;have e2:((s.heap.push PySem.W.emptyDict).push (PySem.W.instObj C s.heap.objs.size)).get? (s.heap.objs.size + 1)=some (PySem.W.instObj C s.heap.objs.size):=by
  have:=ud4 (s.heap.push PySem.W.emptyDict) (o:=PySem.W.instObj C s.heap.objs.size) rfl
  rwa [Heap.size_push] at this
 have e3:(s.heap.push PySem.W.emptyDict).Ns s.heap.objs.size (λ_=>none):=⟨PySem.W.emptyDict,#[],_,e1,rfl,(λe he=>absurd he (by simp)),λ_=>rfl⟩;have I1:=I.laid (a:=s.heap.objs.size) (o:=.own (s.heap.objs.size + 1)) (h':=s.heap.push PySem.W.emptyDict) (t':=s.toks) (λb u q=>ub9 _ q) (ul5 _) ⟨_,e1⟩;refine I1.laid (a:=s.heap.objs.size + 1) (o:=.ins C s.heap.objs.size []) (t':=s.toks) (λb u q=>ub9 _ q) (Nat.le_of_eq (Heap.size_push _ _)) ?_;have ne:s.heap.objs.size≠s.heap.objs.size + 1:=uk6 (ug2 _);refine ⟨by rw [Ag ne,Aj],ul6 _,ne,e2,λ_=>none,(Heap.Ns1.of_empty e3).at λo q=>ub9 _ q,λ_=>True.intro,λy hy=>absurd rfl hy⟩
theorem Nh {prog:Program}{env:Env}{f:Str}{pos:Pos}{s:Shared}{Q:Value->Shared->Prop}(hb:attributeBase e f env (eval e env)=eval e env)
 (h:wpAny (model prog w) A (eval e env) (λo s₁=>wpAny (model prog w) A (getAttr o f true) Q E s₁) E s):wpAny (model prog w) A (eval (.Attribute e f pos) env) Q E s:=
 Attribute_any_ h (by rw [arm_eval_Attribute,hb])
end
def aB (K:PySem.W.Frag)(ta:TE)(f:Str):TE:=λσ H Q=>ta σ H λx H1=>∃a C dx fs v,x = .ref a/\H1 a=some (.ins C dx fs)/\Cls K C/\NoAttr K C f/\fs.lookup f=some v/\Q v H1
def ax (K:PySem.W.Frag)(ta tv:TE)(f:Str):TS:=λD σ H=>tv σ H λy H1=>ta σ H1 λx H2=>∃a C dx fs,x = .ref a/\H2 a=some (.ins C dx fs)/\Cls K C/\NoAttr K C f/\fs.length < 1000/\
 D.nx σ (upd H2 a (.ins C dx (CO f y fs)))
section
variable {X:Cx}{o e value:Expr}{f:Str}{pos pos' tpos:Pos}{ta tv:TE}
theorem Xz (he:PE X e ta)(hb:attributeBase e f X.env (eval e X.env)=eval e X.env):PE X (.Attribute e f pos) (aB X.K ta f):=by
 intro pins s σ H Q I h;refine Nh hb (thn (he pins s σ H _ I h) λu s1 z9=>?_);obtain ⟨x,H1,I1,rx,a,C,dx,fs,v,ex,ea,c,n,l,q⟩:=z9;subst ex;obtain rfl:u=Value.ref a:=rx;exact Os I1 ea c n l λu' s2 I2 ru=>⟨v,H1,I2,ru,q⟩
theorem XO (ha:PE X o ta)(hv:PE X value tv)(hs:swapsWith value (some (.Attribute o f pos')) pos.line X.env=pure false):PS X (.Assign [.Attribute o f pos'] value pos) (ax X.K ta tv f):=by
 intro pins s σ H D I h;refine plainObj_wpAny_Assign_Attribute (thn (hv pins s σ H _ I h) λu s1 ⟨y,H1,I1,ry,q⟩=>thn (ha pins s1 σ H1 _ I1 q) λov s2 z9=>?_) hs;obtain ⟨x,H2,I2,rx,a,C,dx,fs,ex,ea,c,n,l,q2⟩:=z9;subst ex;obtain rfl:ov=Value.ref a:=rx;exact OT I2 ea c n l ry λs3 I3=>⟨σ,_,I3,q2⟩
end
section
variable {X:Cx}{pins:List (Addr×Obj)}{σ:St}{H:Hp}{s:Shared}{A:Around}{E:Value->Shared->Prop}{Q:Value->Shared->Prop}{c:Value}{b:Bool}
inductive TyOf (K:PySem.W.Frag)(H:Hp):V->Value->Prop where
 | non:TyOf K H .non (.type "NoneType")
 | bl (x:Bool):TyOf K H (.bl x) (.type "bool")
 | int (i:Int):TyOf K H (.int i) (.type "int")
 | str (x:Str):TyOf K H (.str x) (.type "str")
 | flt (x:UInt64):TyOf K H (.flt x) (.type "float")
 | lst {a:Addr} {xs:List V} (e:H a=some (.lst xs)):TyOf K H (.ref a) (.type "list")
 | frz {a:Addr} {o:Obj} {xs:List V} (e:H a=some (.frz o (.lst xs))):TyOf K H (.ref a) (.type "list")
 | tup {a:Addr} {xs:List V} (e:H a=some (.tup xs)):TyOf K H (.ref a) (.type "tuple")
 | dK {a:Addr} {kvs:List (Key×V)} (e:H a=some (.dK kvs)):TyOf K H (.ref a) (.type "dict")
 | dT {a:Addr} {kvs:List (List Key×V)} (e:H a=some (.dT kvs)):TyOf K H (.ref a) (.type "dict")
 | ins {a C dx:Addr} {fs:List (Str×V)} (e:H a=some (.ins C dx fs)) (cl:Cls K C) (ha:PySem.W.findIn K (.ref C) "__class__" = some (some (.builtin "object.__class__")))
    (hn:PySem.W.specialIn K (.builtin "object.__class__") "__get__" = some (some (.builtin "getset_descriptor.__get__"))) (htk:PySem.W.takesIn K (.builtin "object.__class__")=some true)
    (hm:PySem.W.mroIn K C (.type "object")=some true):TyOf K H (.ref a) (.ref C)
theorem KM {x:V}{t:Value}(I:Inv X pins σ H s)(rx:RelV x u)(ty:TyOf X.K H x t)(e:PySem.W.kitOne X.K t c=some b)(h:∀tk,Q (.bool b) { s with toks:=tk }) :
 wpAny (model X.prog X.w) A (call (.builtin "isinstance") [u,c]) Q E s:=by
 cases ty with
 | non=>cases (show u=Value.none from rx);exact uh7 PySem.W.kitx_none I.kIn True.intro e (λz=>nomatch z) h
 | bl y=>cases (show u=Value.bool y from rx);exact uh7 PySem.W.kitx_bool I.kIn True.intro e (λz=>nomatch z) h
 | int i=>obtain ⟨t,q⟩:=(show ∃t,u=Value.int i t from rx);cases q;exact uh7 PySem.W.kitx_int I.kIn True.intro e (λz=>nomatch z) h
 | str y=>obtain ⟨t,q⟩:=(show ∃t,u=Value.str y t from rx);cases q;exact uh7 PySem.W.kitx_str I.kIn True.intro e (λz=>nomatch z) h
 | flt y=>obtain ⟨t,q⟩:=(show ∃t,u=Value.float y t from rx);cases q;exact uh7 PySem.W.kitx_float I.kIn True.intro e (λz=>nomatch z) h
 | @lst a xs ea=>
   cases (show u=Value.ref a from rx)
   obtain ⟨_,_,n,_,h1⟩:=(show ObjOk X.prog X.w H s.heap a (.lst xs) from I.hok a _ ea);exact uh7 PySem.W.kitx_list I.kIn ⟨_,h1,rfl⟩ e (λz=>nomatch z) h
 | @frz a ob xs ea=>
   cases (show u=Value.ref a from rx)
   obtain ⟨_,_,_,n,_,h1⟩:=(show ObjOk X.prog X.w H s.heap a (.frz ob (.lst xs)) from I.hok a _ ea);exact uh7 PySem.W.kitx_list I.kIn ⟨_,h1,rfl⟩ e (λz=>nomatch z) h
 | @tup a xs ea=>
   cases (show u=Value.ref a from rx)
   obtain ⟨_,_,_,p⟩:=(show ObjOk X.prog X.w H s.heap a (.tup xs) from I.hok a _ ea);obtain ⟨o,h1,h2,_⟩:=p;exact uh7 PySem.W.kitx_tuple I.kIn ⟨o,h1,h2⟩ e (λz=>nomatch z) h
 | @dK a kvs ea=>
   cases (show u=Value.ref a from rx)
   obtain ⟨_,_,vs,_,p⟩:=(show ObjOk X.prog X.w H s.heap a (.dK kvs) from I.hok a _ ea);obtain ⟨o,es,ep,h1,h2,_⟩:=p;exact uh7 PySem.W.kitx_dict I.kIn ⟨o,h1,h2.1⟩ e (λz=>nomatch z) h
 | @dT a kvs ea=>
   cases (show u=Value.ref a from rx)
   obtain ⟨_,_,xs,_,o,es,ep,h1,h2,_⟩:=(show ObjOk X.prog X.w H s.heap a (.dT kvs) from I.hok a _ ea);exact uh7 PySem.W.kitx_dict I.kIn ⟨o,h1,h2.1⟩ e (λz=>nomatch z) h
 | @ins a C dx fs ea cl ha hn htk hm=>
   cases (show u=Value.ref a from rx)
   obtain ⟨mA,O,_⟩:=HN I.hok ea;obtain ⟨od,J,_⟩:=O.look;exact uh7 (PySem.W.kitx_own (cl.get _) cl.hd ha hn htk hm) I.kIn J e (λz=>nomatch z) h
end
structure Room (k:Nat)(A:Around):Prop where
 hd:A.handled=none
 dp:A.depth + 3 * k + 5 < recursionLimit
 un:A.units + 16 * k + 200 < cLine
theorem Room.mono {j k:Nat}{A:Around}(r:Room k A)(h:j<=k):Room j A:=⟨r.hd,by have:=r.dp;lia,by have:=r.un;lia⟩
theorem Room.deeper {k:Nat}{A:Around}(r:Room (k + 1) A)(env:Env):Room k (A.deeper env):=
 ⟨r.hd,by have:=r.dp;show A.depth + 1 + 3 * k + 5 < _;lia,by have:=r.un;show A.units + 3 + 16 * k + 200 < _;lia⟩
theorem Oy {A:Around}:(A.under (.builtin "type.__call__" ⟨.ref C :: us,kw⟩)).depth=A.depth + 1:=by
 first | rfl | simp [Around.under,Code.weight,Code.isCreation,Code.isGuard,Code.isCaller,Code.frames,Code.isFrame,guardIds]
theorem Oz {A:Around}:(A.under (.builtin "type.__call__" ⟨.ref C :: us,kw⟩)).units=A.units + 1:=by
 first | rfl | simp [Around.under,Code.cUnits,Code.frames,Code.isFrame]
theorem Room.make {k:Nat}{A:Around}(r:Room (k + 1) A)(C:Addr)(us:List Value)(kw:List (Str×Value)):Room k (A.under (.builtin "type.__call__" ⟨.ref C :: us,kw⟩)):=
 ⟨r.hd,by have:=r.dp;rw [Oy];lia,by have:=r.un;rw [Oz];lia⟩
theorem Room.depth {k:Nat}{A:Around}(r:Room k A):A.depth < recursionLimit:=by have:=r.dp;lia
theorem Room.units {k:Nat}{A:Around}(r:Room k A):A.units + 64 < cLine:=by have:=r.un;lia
def Tf:TA:=λ_ H Q=>Q [] H
def OX (ta:TE)(tr:TA):TA:=λσ H Q=>ta σ H λx H1=>tr σ H1 λxs H2=>Q (x :: xs) H2
section
variable {X:Cx}{e:Expr}{es:List Expr}{te:TE}{t:TA}{pos:Pos}
theorem My:PA X [] Tf:=λ_ _ _ _ H Q I h=>Calls.spliced_nil ⟨[],H,I,.nil,h⟩
theorem F6 (ha:PE X e te)(hr:PA X es t)(hs:starEach (e :: es) X.env=(false,eval e X.env) :: starEach es X.env:=by rfl):PA X (e :: es) (OX te t):=by
 intro pos pins s σ H Q I h;rw [hs];show wpAny _ _ (spliced ((false,eval e X.env) :: backTo pos (starEach es X.env))) _ _ s;refine Calls.spliced_cons (thn (ha pins s σ H _ I h) λu s1 z9=>?_);obtain ⟨x,H1,I1,r1,q1⟩:=z9;exact thn (hr pos pins s1 σ H1 _ I1 q1) λus s2 ⟨xs,H2,I2,r2,q2⟩=>⟨x :: xs,H2,I2,.cons r1 r2,q2⟩
def aK (t:TA):TE:=λσ H Q=>t σ H λxs H1=>xs.length<=sizeLine/\∀p,H1 p=none->Q (.ref p) (upd H1 p (.tup xs))
def aG (t:TA):TE:=λσ H Q=>t σ H λxs H1=>xs.length<=sizeLine/\∀p,H1 p=none->Q (.ref p) (upd H1 p (.lst xs))
theorem XH {x1}(h:PA X es t):PE X (.Tuple es x1 pos) (aK t):=by
 intro pins s σ H Q I hq;refine wpAny_Tuple_spliced (thn (h pos pins s σ H _ I hq) λus s1 z9=>?_);obtain ⟨xs,H1,I1,r,z,q⟩:=z9;refine ⟨by rw [<-r.length];exact z,?_⟩;have hf:H1 s1.heap.objs.size=none:=I1.hok.fresh (ul5 _);refine ⟨.ref s1.heap.objs.size,upd H1 s1.heap.objs.size (.tup xs),I1.laid (t':=s1.toks) (λb u e=>ub9 _ e) (ul5 _) ?_,rfl,q _ hf⟩;exact ⟨z,us,r,⟨_,ud4 _ rfl,rfl,_,rfl⟩⟩
theorem XB (h:PA X es t):PE X (.List es pos) (aG t):=by
 intro pins s σ H Q I hq;refine wpAny_List_spliced (thn (h pos pins s σ H _ I hq) λus s1 z9=>?_);obtain ⟨xs,H1,I1,r,z,q⟩:=z9;refine ⟨by rw [<-r.length];exact z,?_⟩;have hf:H1 s1.heap.objs.size=none:=I1.hok.fresh (ul5 _);refine ⟨.ref s1.heap.objs.size,upd H1 s1.heap.objs.size (.lst xs),I1.laid (t':=s1.toks) (λb u e=>ub9 _ e) (ul5 _) ?_,rfl,q _ hf⟩;exact ⟨z,us,0,r,ud4 _ rfl⟩
end
abbrev Sp:=List V->Hp->VK->XK->Prop
abbrev CXT:=List Env->Hp->Shared->XK->Value->Shared->Prop
structure Env0 (P:Program)(w:World)(K:PySem.W.Frag)(mg:Str->Option Value)(base:Heap)(A:Around)(outer:List Env)(s:Shared)(H:Hp):Prop where
 frames:A.frames=some outer
 mod:Mod K mg base
 bs:∀b o,base.get? b=some o->s.heap.get? b=some o/\H b=none
 bsz:base.objs.size<=s.heap.objs.size
 funs:s.heap.FunFrames base outer
 frf:∀b∈frs outer,H b=none
 hok:HOk P w H s.heap
 bare:AllBare s.gens
def CE (outer:List Env)(P:Program)(w:World)(H:Hp)(s:Shared)(Q:VK)(u:Value)(s':Shared):Prop:=
 ∃v H',s'.os=s.os/\AllBare s'.gens/\Un (frs outer) [] H H' s.heap s'.heap/\HOk P w H' s'.heap/\RelV v u/\Q v H'
def CR (CX:CXT)(outer:List Env)(P:Program)(w:World)(H:Hp)(s:Shared)(Q:VK)(E:XK)(r:Result)(s':Shared):Prop:=
 match r with
 | .ok (.ret u)=>CE outer P w H s Q u s'
 | .ok _=>False
 | .error e=>CX outer H s E e s'
structure FnOk (P:Program)(w:World)(K:PySem.W.Frag)(mg:Str->Option Value)(base:Heap)(CX:CXT)(k:Nat)(f:Addr)(fd:FuncData)(ps:List Str)(sp:Sp):Prop where
 len:∀vs H Q E,sp vs H Q E->vs.length=ps.length
 run:∀(A:Around) (outer:List Env) (s:Shared) (H:Hp) (args:Args) (us:List Value) (vs:List V) (Q:VK) (E:XK),Room k A->Env0 P w K mg base A outer s H->BindsTo s fd args (ps.zip us)->Vals vs us->sp vs H Q E->
  codeAny (model P w) A (.call (.ref f) args) (CR CX outer P w H s Q E) s
theorem FnOk.mono {P:Program}{w:World}{K:PySem.W.Frag}{mg:Str->Option Value}{base:Heap}{CX:CXT}{j k:Nat}{f:Addr}{fd:FuncData}{ps:List Str}{sp:Sp}(F:FnOk P w K mg base CX j f fd ps sp)(h:j<=k) :
 FnOk P w K mg base CX k f fd ps sp:=⟨F.len,λA outer s H args us vs Q E hr=>F.run A outer s H args us vs Q E (hr.mono h)⟩
variable {mg:Str->Option Value}{base:Heap}
theorem Env0.make {A:Around}{outer:List Env}(e:Env0 P w K mg base A outer s H)(C:Addr)(us:List Value)(kw:List (Str×Value)) :
 Env0 P w K mg base (A.under (.builtin "type.__call__" ⟨.ref C :: us,kw⟩)) outer s H:=⟨by first | exact e.frames | (simpa [Around.under,Code.envs,Code.isFrame,pushEnvs] using e.frames),e.mod,e.bs,e.bsz,e.funs,e.frf,e.hok,e.bare⟩
section
variable {X:Cx}{pins:List (Addr×Obj)}{σ:St}{H:Hp}{s s':Shared}
theorem Inv.env0 (I:Inv X pins σ H s):Env0 X.prog X.w X.K X.mg X.base X.A X.stack s H:=
 ⟨I.ok.frames,I.ok.mod,I.bs,uk7 I.ok.bsz I.sz,I.stack,I.stkFree,I.hok,I.bare⟩
theorem Inv.after {Q:VK}(I:Inv X pins σ H s)(h:CE X.stack X.prog X.w H s Q u s'):EP X pins σ Q u s':=by
 obtain ⟨v,H',os,bare,un,hok,r,q⟩:=h;obtain ⟨hh,g,d,t,os'⟩:=s';obtain rfl:os'=s.os:=os;exact ⟨v,H',I.call (h':=hh) (g':=g) (d':=d) (t':=t) (ch:=[]) un hok bare (λb z=>absurd z (by simp)),r,q⟩
end
def Ze (sp:Sp)(dvs:List V)(E:XK)(t:TA):TE:=λσ H Q=>t σ H λvs H1=>sp (vs++dvs) H1 Q E
def T4 (C:Addr)(m:Str)(sp:Sp)(dvs:List V)(E:XK)(ta:TE)(t:TA):TE:=λσ H Q=>ta σ H λx H1=>∃a dx fs,x = .ref a/\H1 a=some (.ins C dx fs)/\fs.lookup m=none/\
 t σ H1 λvs H2=>sp (x :: (vs++dvs)) H2 Q E
def Zf (C:Addr)(sp:Sp)(dvs:List V)(E:XK)(t:TA):TE:=λσ H Q=>t σ H λvs H1=>∀x dx,H1 x=none->H1 dx=none->dx≠x->
 sp (.ref x :: (vs++dvs)) (upd (upd H1 dx (.own x)) x (.ins C dx [])) (λv H2=>v = .non/\Q (.ref x) H2) E
def Binds (K:PySem.W.Frag)(fd:FuncData)(ps:List Str)(ds:List Value):Prop:=
 ∀(s:Shared) (us:List Value),K.In s.heap->(us++ds).length=ps.length->BindsTo s fd ⟨us,[]⟩ (ps.zip (us++ds))
theorem Binds.all {fd:FuncData}{ps:List Str}(h:∀us:List Value,us.length=ps.length->bindArgs fd ⟨us,[]⟩=pure (ps.zip us)):Binds K fd ps []:=λs us _ hl=>by
 rw [uh8] at hl ⊢;exact .of_eq (h us hl)
def Fd (CX:CXT)(X:Cx)(E:XK):Prop:=∀(pins:List (Addr×Obj)) (σ:St) (H:Hp) (s:Shared) (e:Value) (s':Shared),Inv X pins σ H s->CX X.stack H s E e s'->X.xe e s'
variable {vs:List V}
section
variable {X:Cx}{CX:CXT}{k:Nat}{f C:Addr}{fd:FuncData}{ps:List Str}{sp:Sp}{dvs:List V}{ds:List Value}{E:XK}{x m:Str}{p pos apos:Pos}{e o:Expr}{es:List Expr}{ta:TE}{t:TA}
theorem MJ {Q:VK}(F:FnOk X.prog X.w X.K X.mg X.base CX k f fd ps sp)(hr:Room k X.A)(hb:Binds X.K fd ps ds)(hd:Vals dvs ds)(hx:Fd CX X E)
 (I:Inv X pins σ H s) (r:Vals vs us) (h:sp (vs++dvs) H Q E):wpAny (model X.prog X.w) X.A (call (.ref f) us) (EP X pins σ Q) X.xe s:=by
 have r2:Vals (vs++dvs) (us++ds):=r.append hd;have hl:(us++ds).length=ps.length:=by rw [<-r2.length];exact F.len _ _ _ _ h
 refine wpAny_call (codeAny_mono (F.run X.A X.stack s H ⟨us,[]⟩ (us++ds) (vs++dvs) Q E hr I.env0 (hb s us I.kIn hl) r2 h) λr s' hq=>?_)
 cases r with
 | error e=>exact hx pins σ H s e s' I hq
 | ok fl=>
   cases fl with
   | ret u=>exact I.after hq
   | next=>exact False.elim hq
   | brk=>exact False.elim hq
   | cont=>exact False.elim hq
theorem NI (F:FnOk X.prog X.w X.K X.mg X.base CX k f fd ps sp)(hr:Room k X.A)(hg:Gl X x)(hm:X.mg x=some (.ref f))(hk:PySem.W.keepIn X.K (.ref f)=true)(hb:Binds X.K fd ps ds)(hd:Vals dvs ds)(hx:Fd CX X E)
 (ha:PA X (e :: es) t) (hdb:(x == ("__debug__" : Str))=false:=by decide) (he:starEach (e :: es) X.env=(false,eval e X.env) :: starEach es X.env:=by rfl) (hpl:(backTo pos (starEach es X.env)).any (·.1)=false:=by rfl) :
 PE X (.Call (.Name x p) (e :: es) [] pos) (Ze sp dvs E t):=by
 intro pins s σ H Q I h;refine wpAny_Call_Name_kw (Ch I hg hm ?_ hdb);refine ue2 (h₀:=X.base) I.ok.mod.kin hk (thn (ha pos pins s σ H _ I h) λus s1 z9=>?_) he hpl;obtain ⟨vs,H1,I1,r,q⟩:=z9;refine ⟨I1.kIn,?_⟩;exact MJ F hr hb hd hx I1 r q
theorem U7 (he:PE X o ta)(c:Cls X.K C)(hm:Meth X.K C m f)(F:FnOk X.prog X.w X.K X.mg X.base CX k f fd ps sp)(hr:Room k X.A)(hb:Binds X.K fd ps ds)(hd:Vals dvs ds)(hx:Fd CX X E)(ha:PA X (e :: es) t)
 (hst:starEach (e :: es) X.env=(false,eval e X.env) :: starEach es X.env:=by rfl) (hpl:(backTo pos (starEach es X.env)).any (·.1)=false:=by rfl)
 (ht:eval (.Call (.Attribute o m apos) (e :: es) [] pos) X.env=(do
   let ov <-eval o X.env
   standAt apos.atName
   let (f,first) <-holding [ov] (getMethod ov m pl)
   callWith pos f first (backTo pos (starEach (e :: es) X.env)) (backToKw pos (keywordEach [] X.env))):=by rfl) :
 PE X (.Call (.Attribute o m apos) (e :: es) [] pos) (T4 C m sp dvs E ta t):=by
 intro pins s σ H Q I h;refine uc6 (pl:=pl) (thn (he pins s σ H _ I h) λu s1 z9=>?_) ht;obtain ⟨x,H1,I1,rx,a,dx,fs,ex,ea,l,q⟩:=z9;subst ex;obtain rfl:u=Value.ref a:=rx;refine Gs I1 ea c hm l ?_;refine ue2 (first:=[.ref a]) (h₀:=X.base) I.ok.mod.kin hm.kp (thn (ha pos pins s1 σ H1 _ I1 q) λus s2 z9=>?_) hst hpl;obtain ⟨vs,H2,I2,r,q2⟩:=z9;refine ⟨I2.kIn,?_⟩;exact MJ (us:=.ref a :: us) (vs:=.ref a :: vs) F hr hb hd hx I2 (.cons rfl r) q2
theorem SI (he:PE X o ta)(c:Cls X.K C)(hm:Meth X.K C m f)(F:FnOk X.prog X.w X.K X.mg X.base CX k f fd ps sp)(hr:Room k X.A)(hb:Binds X.K fd ps ds)(hd:Vals dvs ds)(hx:Fd CX X E)
 (ht:eval (.Call (.Attribute o m apos) [] [] pos) X.env=(do
   let ov <-eval o X.env
   standAt apos.atName
   let (f,first) <-holding [ov] (getMethod ov m pl)
   callWith pos f first (backTo pos (starEach [] X.env)) (backToKw pos (keywordEach [] X.env))):=by rfl) :
 PE X (.Call (.Attribute o m apos) [] [] pos) (T4 C m sp dvs E ta Tf):=by
 intro pins s σ H Q I h;refine uc6 (pl:=pl) (thn (he pins s σ H _ I h) λu s1 z9=>?_) ht;obtain ⟨x,H1,I1,rx,a,dx,fs,ex,ea,l,q⟩:=z9;subst ex;obtain rfl:u=Value.ref a:=rx;refine Gs I1 ea c hm l ?_;exact PySem.W.callWith_K0 (first:=[.ref a]) I1.kIn hm.kp (MJ (us:=[.ref a]) (vs:=[.ref a]) F hr hb hd hx I1 (.cons rfl .nil) q)
structure Mk (K:PySem.W.Frag)(C f:Addr):Prop where
 makes:PySem.W.makesIn K C=true
 init:PySem.W.findIn K (.ref C) "__init__" = some (some (.ref f))
 fn:PySem.W.isFn K (.ref f)=true
 kp:PySem.W.keepIn K (.ref C)=true
theorem SS {Q:VK}(M:Mk X.K C f)(F:FnOk X.prog X.w X.K X.mg X.base CX k f fd ps sp)(hr:Room (k + 1) X.A)(hb:Binds X.K fd ps ds)(hd:Vals dvs ds)
 (hx:Fd CX X E) (I:Inv X pins σ H s) (r:Vals vs us)
 (h:∀x dx,H x=none->H dx=none->dx≠x->sp (.ref x :: (vs++dvs)) (upd (upd H dx (.own x)) x (.ins C dx [])) (λv H2=>v = .non/\Q (.ref x) H2) E) :
 wpAny (model X.prog X.w) X.A (call (.ref C) us) (EP X pins σ Q) X.xe s:=by
 have hq:=h (s.heap.objs.size + 1) s.heap.objs.size (I.hok.fresh (ul7 _)) (I.hok.fresh (ul5 _)) (uk6 (ug2 _));have I2:=Inv.made (C:=C) I;have r2:Vals (V.ref (s.heap.objs.size + 1) :: (vs++dvs)) (Value.ref (s.heap.objs.size + 1) :: (us++ds)):=.cons rfl (r.append hd);have hl:(Value.ref (s.heap.objs.size + 1) :: us++ds).length=ps.length:=by
  have e:=r2.length;rw [F.len _ _ _ _ hq] at e;exact e.symm
 refine wpAny_call (Si (f:=f) I.kIn M.makes M.init (beq_iff_eq.mp M.fn) (codeAny_mono (F.run _ X.stack _ _ ⟨Value.ref (s.heap.objs.size + 1) :: us,[]⟩ (Value.ref (s.heap.objs.size + 1) :: (us++ds)) _ _ E (hr.make C us [])
  (I2.env0.make C us []) (hb _ (Value.ref (s.heap.objs.size + 1) :: us) I2.kIn hl) r2 hq) λr s' hq'=>?_))
 cases r with
 | error e=>exact hx pins σ _ _ e s' I2 hq'
 | ok fl=>
   cases fl with
   | ret u=>
     obtain ⟨v,H',I3,rv,ev,q3⟩:=I2.after hq';subst ev;exact ⟨rv,⟨V.ref (s.heap.objs.size + 1),H',I3,rfl,q3⟩⟩
   | next=>exact False.elim hq'
   | brk=>exact False.elim hq'
   | cont=>exact False.elim hq'
theorem U6 (M:Mk X.K C f)(F:FnOk X.prog X.w X.K X.mg X.base CX k f fd ps sp)(hr:Room (k + 1) X.A)(hg:Gl X x)(hm:X.mg x=some (.ref C))(hb:Binds X.K fd ps ds)(hd:Vals dvs ds)(hx:Fd CX X E)
 (ha:PA X (e :: es) t) (hdb:(x == ("__debug__" : Str))=false:=by decide) (he:starEach (e :: es) X.env=(false,eval e X.env) :: starEach es X.env:=by rfl) (hpl:(backTo pos (starEach es X.env)).any (·.1)=false:=by rfl) :
 PE X (.Call (.Name x p) (e :: es) [] pos) (Zf C sp dvs E t):=by
 intro pins s σ H Q I h;refine wpAny_Call_Name_kw (Ch I hg hm ?_ hdb);refine ue2 (h₀:=X.base) I.ok.mod.kin M.kp (thn (ha pos pins s σ H _ I h) λus s1 z9=>?_) he hpl;obtain ⟨vs,H1,I1,r,q⟩:=z9;refine ⟨I1.kIn,?_⟩;exact SS M F hr hb hd hx I1 r q
end
section
variable {X:Cx}{CX:CXT}{k:Nat}{f C:Addr}{fd:FuncData}{ps ks:List Str}{sp:Sp}{E:XK}{x m:Str}{p pos apos kpos:Pos}{e o:Expr}{es:List Expr}{kws:List Keyword}{te ta:TE}{t tk:TA}{nm:Option Str}
structure KBinds (K:PySem.W.Frag)(fd:FuncData)(ps ks:List Str)(g:List Value->List Value->List Value)(gV:List V->List V->List V):Prop where
 to:∀(s:Shared) (us ws:List Value),K.In s.heap->(g us ws).length=ps.length->BindsTo s fd ⟨us,ks.zip ws⟩ (ps.zip (g us ws))
 rel:∀{vs:List V} {us:List Value} {zs:List V} {ws:List Value},Vals vs us->Vals zs ws->Vals (gV vs zs) (g us ws)
variable {g:List Value->List Value->List Value}{gV:List V->List V->List V}
end
structure FnScope (N P:List Str)(sc:Scope):Prop where
 kind:sc.kind = .function
 co:sc.isCoroutine=false
 gen:sc.isGenerator=false
 nd:N.Nodup
 pre:N.take P.length=P
 par:∀x∈P,sc.names.lookup x=some .local\/sc.names.lookup x=some .cell
 nofree:∀y∈sc.names,y.2≠.free
theorem Ku {kindOf:Str->Option NameKind}{x:Str}:∀{binds:List (Str×Value)} {m:Str->Option Value},(∀v,(x,v)∉binds)->bindL kindOf binds m x=m x
 | [],_,_=>rfl
 | (n,v) :: r,m,h=>by
   unfold bindL;rw [Ku λw hw=>h w (uc9 _ hw)]
   split
   ·have:x≠n:=by rintro rfl;exact h v ud9
    simp [this]
   ·rfl
theorem Ks {kindOf:Str->Option NameKind}{x:Str}:∀{binds:List (Str×Value)} {m:Str->Option Value},(∀v,(x,v)∉binds)->bindC kindOf binds m x=m x
 | [],_,_=>rfl
 | (n,v) :: r,m,h=>by
   unfold bindC;rw [Ks λw hw=>h w (uc9 _ hw)]
   split
   ·rfl
   ·have:x≠n:=by rintro rfl;exact h v ud9
    simp [this]
theorem Kt {kindOf:Str->Option NameKind}{x:Str}{v:Value}:∀{P:List Str} {vs:List Value} {i:Nat} {m:Str->Option Value},P.Nodup->P[i]?=some x->vs[i]?=some v->kindOf x=some .local->
 bindL kindOf (P.zip vs) m x=some v
 | [],_,_,_,_,h,_,_=>by simp at h
 | _ :: _,[],_,_,_,_,h,_=>by simp at h
 | p :: P,w :: vs,0,m,nd,h1,h2,hk=>by
   simp at h1 h2;subst h1;subst h2;show bindL kindOf ((p,w) :: P.zip vs) m p=_;unfold bindL;rw [Ku λv hv=>(uh9.mp nd).1 (ui0 hv).1,if_pos hk];simp
 | p :: P,w :: vs,i + 1,m,nd,h1,h2,hk=>by
   show bindL kindOf ((p,w) :: P.zip vs) m x=_;unfold bindL;exact Kt (i:=i) (uh9.mp nd).2 (by simpa using h1) (by simpa using h2) hk
theorem Kr {kindOf:Str->Option NameKind}{x:Str}{v:Value}:∀{P:List Str} {vs:List Value} {i:Nat} {m:Str->Option Value},P.Nodup->P[i]?=some x->vs[i]?=some v->kindOf x≠some .local->
 bindC kindOf (P.zip vs) m x=some v
 | [],_,_,_,_,h,_,_=>by simp at h
 | _ :: _,[],_,_,_,_,h,_=>by simp at h
 | p :: P,w :: vs,0,m,nd,h1,h2,hk=>by
   simp at h1 h2;subst h1;subst h2;show bindC kindOf ((p,w) :: P.zip vs) m p=_;unfold bindC;rw [Ks λv hv=>(uh9.mp nd).1 (ui0 hv).1,if_neg hk];simp
 | p :: P,w :: vs,i + 1,m,nd,h1,h2,hk=>by
   show bindC kindOf ((p,w) :: P.zip vs) m x=_;unfold bindC;exact Kr (i:=i) (uh9.mp nd).2 (by simpa using h1) (by simpa using h2) hk
noncomputable def Ct (N:List Str)(vs:List V):St:=vs.map some++List.replicate (N.length - vs.length) none
noncomputable def Db (CX:CXT)(P:Program)(w:World)(K:PySem.W.Frag)(mg:Str->Option Value)(base:Heap)(N:List Str)(qual:Str)(scope:Scope)(f:Addr)(cd:Value)(A:Around)(outer:List Env)(s:Shared)(H:Hp)(E:XK):Cx where
 prog:=P
 w:=w
 K:=K
 mg:=mg
 base:=base
 A:=A.deeper (envOfC qual scope s.heap.objs.size f cd)
 N:=N
 s₀:=s
 H₀:=H
 env:=envOfC qual scope s.heap.objs.size f cd
 outer:=outer
 stack:=envOfC qual scope s.heap.objs.size f cd :: outer
 ex:=[]
 calm:=true
 fn:=λ_=>true
 pn:=[]
 xe:=λe s'=>wpAny (model P w) (A.deeper (envOfC qual scope s.heap.objs.size f cd)) (leaving (envOfC qual scope s.heap.objs.size f cd) e) (λ_ s''=>CX outer H s E e s'') (λe' s''=>CX outer H s E e' s'') s'
theorem L3 {sc:Scope}{n:Nat}{x:Str}(h:sc.names.lookup x=some .cell):∃c,(cellsFrom n sc.names []).lookup x=some c:=by
 have q:=uc0 sc.names n [] (.inl h);exact Option.isSome_iff_exists.mp q
theorem KK {CX:CXT}{N ps:List Str}{qual:Str}{scope:Scope}{f:Addr}{cd:Value}{A:Around}{outer:List Env}{s1:Shared}{E:XK}
 (S:FnScope N ps scope) (hd:A.handled=none) (e0:Env0 P w K mg base A outer s H) (hl:vs.length=ps.length) (r:Vals vs us)
 (x:InCallC s s.heap.objs.size (bindL (envOfC qual scope s.heap.objs.size f cd).kindOf (ps.zip us) λ_=>none) (cellsFrom (s.heap.objs.size + 1) scope.names []) (bindC (envOfC qual scope s.heap.objs.size f cd).kindOf (ps.zip us) λ_=>none) s1) :
 Inv (Db CX P w K mg base N qual scope f cd A outer s H E) [] (Ct N vs) H s1:=by
 have hpl:ps.length<=N.length:=by have:=congrArg List.length S.pre;rw [ug3] at this;lia
 obtain ⟨h1,tk,rfl,hk⟩:=x.done;have noA:∀b:Addr,b∉(Db CX P w K mg base N qual scope f cd A outer s H E).ex:=λb z=>absurd (show b∈([]:List Addr) from z) (by simp);refine ⟨⟨e0.mod,S.kind,rfl,rfl,ul5 _,λy z c h1 h2=>?_,λy hy=>?_,λy c _ h=>?_,λ_=>hd,Around.frames_deeper e0.frames,.inr ⟨rfl,rfl⟩,λb z=>absurd z (noA b),e0.bs,e0.bsz,λb _ _=>noA b,λb z=>absurd z (noA b),e0.funs,e0.frf⟩,
  rfl,e0.bare,Un.kept hk,⟨_,x.toInCall.ns,λi y v h1 h2 h3=>?_⟩,λy c h=>⟨_,x.cell y c h⟩,e0.hok.fresh (ul5 _),λy c h=>?_,λp hp=>absurd (show p∈([]:List (Addr×Obj)) from hp) (by simp),e0.hok.kept hk,?_⟩
 ·exact name_of_addr x.apart (PySem.mem_of_lookup h1) (PySem.mem_of_lookup h2)
 ·have hy:scope.names.lookup y=some .cell\/scope.names.lookup y=some .free:=hy;rcases hy with hy | hy
  ·exact L3 hy
  ·exact absurd rfl (S.nofree _ (PySem.mem_of_lookup hy))
 ·exact uk8 (x.above y c (PySem.mem_of_lookup h))
 ·have hi:i < vs.length:=by
   unfold Ct at h2
   by_cases hi:i < vs.length
   ·exact hi
   ·rw [ua5 (by simpa using hi)] at h2;rw [ub5] at h2
    split at h2 <;> cases h2
  have ha:vs[i]?=some v:=by
   unfold Ct at h2;rw [ub0 (by simpa using hi),uf1] at h2
   cases e:vs[i]? with
   | none=>rw [e] at h2;cases h2
   | some a=>rw [e] at h2;cases h2;rfl
  obtain ⟨u,hu,rv⟩:=r.get ha;have hp:ps[i]?=some y:=by
   rw [<-S.pre,List.getElem?_take_of_lt (by lia)];exact h1
  have ndP:ps.Nodup:=by rw [<-S.pre];exact S.nd.sublist (List.take_sublist _ _)
  refine ⟨u,rv,?_⟩;rcases S.par y (ud2 hp) with k | k
  ·exact .inl ⟨k,Kt ndP hp hu k⟩
  ·obtain ⟨c,e⟩:=L3 (n:=s.heap.objs.size + 1) k;refine .inr ⟨.inl k,c,e,?_⟩;have q:=x.cell y c e;rw [Kr ndP hp hu (by show scope.names.lookup y≠_;rw [k];decide)] at q;exact q
 ·exact e0.hok.fresh (uk8 (x.above y c (PySem.mem_of_lookup h)))
 ·unfold Ct;show _=N.length;rw [ue3,uh6,uc7];lia
theorem TQ {CX:CXT}{k:Nat}{f:Addr}{name qual:Str}{params:Arguments}{body:List Stmt}{scope:Scope}{dV kV doc pm cdv ct oc:Value}{an od:Option Addr}
 {osl:Array (Option Value)} {N ps:List Str} {sp:Sp} (lk:K.lookup f=some ⟨oc,od,.func (PySem.W.fnOf name qual params body scope dV kV doc pm an cdv ct),osl⟩) (hcd:PySem.W.codeIn K cdv qual=true) (S:FnScope N ps scope)
 (len:∀vs H Q E,sp vs H Q E->vs.length=ps.length)
 (hbody:∀(A:Around) (outer:List Env) (s:Shared) (H:Hp) (vs:List V) (Q:VK) (E:XK),Room k (A.deeper (envOfC qual scope s.heap.objs.size f cdv))->sp vs H Q E->
   ∃t,PSs (Db CX P w K mg base N qual scope f cdv A outer s H E) body t/\t { nx:=λ_ H'=>Q .non H',rt:=Q } (Ct N vs) H) :
 FnOk P w K mg base CX (k + 1) f (PySem.W.fnOf name qual params body scope dV kV doc pm an cdv ct) ps sp:=by
 refine ⟨len,λA outer s H args us vs Q E hr e0 hb r hsp=>?_⟩;have hl:=len _ _ _ _ hsp;have KX:K.In s.heap:=e0.mod.kin.keeps λb o e=>(e0.bs b o e).1;have lim:s.heap.NoLimit:=e0.mod.nolimit.keeps λb o e=>(e0.bs b o e).1;have hkind:∀y∈ps.zip us,scope.names.lookup y.1=some .local\/(scope.names.lookup y.1=some .cell/\((cellsFrom (s.heap.objs.size + 1) scope.names []).lookup y.1).isSome=true):=λz9 hy=>by
  obtain ⟨n,v⟩:=z9;rcases S.par n (ui0 hy).1 with q | q
  ·exact .inl q
  ·exact .inr ⟨q,uc0 _ _ _ (.inl q)⟩
 refine codeAny_call_function hr.depth (KX _ _ lk) rfl S.co S.gen rfl (PySem.W.codeRec_of KX hcd) (hb _ _ _ _ ?_);refine wpAny_newFunctionEnv_cells S.kind hkind λenv he s1 x=>?_;subst he;refine ⟨lim.keeps x.toInCall.keep,codeAny_func ?_⟩;obtain ⟨t,ht,hq⟩:=hbody A outer s H vs Q E (hr.deeper _) hsp;have I:Inv (Db CX P w K mg base N qual scope f cdv A outer s H E) [] (Ct N vs) H s1:=KK S hr.hd e0 hl r x;refine um2 (ht [] s1 (Ct N vs) H _ I hq) (λfl s' hs=>?_) λe s' hs=>hs;have fin:∀{σ':St} {H':Hp} {v:V} {u:Value},Inv (Db CX P w K mg base N qual scope f cdv A outer s H E) [] σ' H' s'->RelV v u->Q v H'->CE outer P w H s Q u s':=
  λ{σ' H' v u} J rv q=>⟨v,H',J.os,J.bare,J.base,J.hok,rv,q⟩
 cases fl with
 | ret u=>
   obtain ⟨v,σ',H',J,rv,q⟩:=hs;exact fin J rv q
 | next=>
   obtain ⟨σ',H',J,q⟩:=hs;exact fin (v:=V.non) (u:=Value.none) J rfl q
 | brk=>
   obtain ⟨_,_,_,q⟩:=hs;exact False.elim q
 | cont=>
   obtain ⟨_,_,_,q⟩:=hs;exact False.elim q
section
variable {X:Cx}{x:Str}{p pos:Pos}{e:Expr}{es:List Expr}{t:TA}{id T:String}{r:List V->Hp->VK->Prop}
def tCB (r:List V->Hp->VK->Prop)(t:TA):TE:=λσ H Q=>t σ H λvs H1=>r vs H1 Q
theorem ID (hc:DO X (.builtin id) r)(hg:Gl X x)(hm:X.mg x=none)(hv:bootBuiltins x=some (.builtin id))(ha:PA X (e :: es) t)(hn:x≠"__name__":=by decide)(hdb:(x == ("__debug__" : Str))=false:=by decide)
 (he:starEach (e :: es) X.env=(false,eval e X.env) :: starEach es X.env:=by rfl) (hpl:(backTo pos (starEach es X.env)).any (·.1)=false:=by rfl):PE X (.Call (.Name x p) (e :: es) [] pos) (tCB r t):=by
 intro pins s σ H Q I h;refine wpAny_Call_Name_kw (F3 I hg hm hv ?_ hn hdb);exact PyProof.Rows.callWith_builtin1 (thn (ha pos pins s σ H _ I h) λus s1 z9=>by obtain ⟨vs,H1,I1,r1,q1⟩:=z9;exact hc pins s1 σ H1 vs us Q I1 r1 q1) he hpl
theorem KR (hc:DO X (.type T) r)(hg:Gl X x)(hm:X.mg x=none)(hv:bootBuiltins x=some (.type T))(ha:PA X (e :: es) t)(hn:x≠"__name__":=by decide)(hdb:(x == ("__debug__" : Str))=false:=by decide)
 (he:starEach (e :: es) X.env=(false,eval e X.env) :: starEach es X.env:=by rfl) (hpl:(backTo pos (starEach es X.env)).any (·.1)=false:=by rfl):PE X (.Call (.Name x p) (e :: es) [] pos) (tCB r t):=by
 intro pins s σ H Q I h;refine wpAny_Call_Name_kw (F3 I hg hm hv ?_ hn hdb);exact ua3 (thn (ha pos pins s σ H _ I h) λus s1 z9=>by obtain ⟨vs,H1,I1,r1,q1⟩:=z9;exact hc pins s1 σ H1 vs us Q I1 r1 q1) he hpl
end
end L2
namespace HT
open PySem PyProof.Rows
section
open PySem.SeqAt
open PySem.AutoSeq1 (wpAny_loadPart')
open PySem.MeetsSeq PySem.MeetsSeq2 PySem.MeetsSeq3
end
section
variable {prog:Program}{w:World}{A:Around}{E:Value->Shared->Prop}{s:Shared}
noncomputable def sIx (n d:Nat):Option Int->Nat
 | none=>d
 | some v=>if v < 0 then (v + (n:Int)).toNat else min v.toNat n
theorem ST (n d:Nat):sIx n d none=d:=rfl
theorem Vr (n d k:Nat):sIx n d (some (k:Int))=min k n:=by
 show (if (k:Int) < 0 then ((k:Int) + (n:Int)).toNat else min (k:Int).toNat n)=min k n;rw [if_neg (by lia),uf2]
theorem bO (n d:Nat)(hd:d<=n)(o:Option Int):sIx n d o<=n:=by
 cases o with
 | none=>exact hd
 | some v=>
   show (if v < 0 then (v + (n:Int)).toNat else min v.toNat n)<=n
   by_cases hv:v < 0
   ·rw [if_pos hv];lia
   ·rw [if_neg hv];exact Nat.min_le_right _ _
theorem Nl (v:Int)(n d:Nat):(if v < 0 then max (v + (n:Int)) 0 else min v (n:Int))=((sIx n d (some v):Nat):Int):=by
 show (if v < 0 then max (v + (n:Int)) 0 else min v (n:Int))=(((if v < 0 then (v + (n:Int)).toNat else min v.toNat n):Nat):Int)
 by_cases hv:v < 0
 ·simp only [if_pos hv];lia
 ·simp only [if_neg hv];lia
theorem N6 (lo hi:Option Int)(n:Nat):Builtin.Slice.sliceAdjust lo hi 1 (n:Int)=(((sIx n 0 lo:Nat):Int),((sIx n n hi:Nat):Int)):=by
 have h1:¬((1:Int) < 0):=by lia
 unfold Builtin.Slice.sliceAdjust;simp only [h1,if_false];refine Prod.ext ?_ ?_
 ·cases lo with
  | none=>rfl
  | some v=>exact Nl v n 0
 ·cases hi with
  | none=>rfl
  | some v=>exact Nl v n n
theorem OH (i j:Nat):Builtin.Slice.slicePlaces (i:Int) (j:Int) 1=j - i:=by
 unfold Builtin.Slice.slicePlaces;have h1:(1:Int) > 0:=by lia
 simp only [h1,if_true,Int.ediv_one]
 split <;> lia
theorem Jv {v:Value}{o:Option Int}{Q:Option Int->Shared->Prop}(p:IsPart v o)(h:Q o s):wpAny (model prog w) A (Builtin.Slice.slicePartIndex v) Q E s:=by
 cases p with
 | none=>exact slicePart_none h
 | int i t=>exact slicePart_int h
theorem Tc {sl:Addr}{vl vu:Value}{lo hi:Option Int}{n:Nat}{Q:Int×Int×Nat->Shared->Prop}(hs:s.heap.IsSliceOf sl vl vu .none)(pl:IsPart vl lo)(pu:IsPart vu hi)
 (h:Q (((sIx n 0 lo:Nat):Int),1,sIx n n hi - sIx n 0 lo) s):wpAny (model prog w) A (Builtin.Slice.sliceApplied (.ref sl) (pure (n:Int))) Q E s:=by
 obtain ⟨os,hos,hcs,hds⟩:=id hs;unfold Builtin.Slice.sliceApplied Builtin.Slice.sliceFields;refine um0 (um0 (ul9 hos hds (x:=vl) rfl (um0 (ul9 hos hds (x:=vu) rfl (um0 (ul9 hos hds (x:=.none) rfl (um1 ?_)))))));refine um0 (slicePart_none ?_);show wpAny _ _ (if ((1:Int) == 0)=true then _ else _) _ _ s;rw [if_neg (by decide)];refine um0 (Jv pl (um0 (Jv pu (um0 (um1 ?_)))));show wpAny _ _ (match Builtin.Slice.sliceAdjust lo hi 1 (n:Int) with | (lo,hi)=>pure (lo,(1:Int),Builtin.Slice.slicePlaces lo hi 1)) _ _ s;rw [N6 lo hi n];show wpAny _ _ (pure (((sIx n 0 lo:Nat):Int),(1:Int),Builtin.Slice.slicePlaces ((sIx n 0 lo:Nat):Int) ((sIx n n hi:Nat):Int) 1)) _ _ s;rw [OH];exact um1 h
theorem aw (xs:Array Value)(i k:Nat):((List.range k).filterMap λ(m:Nat)=>xs[((i:Int) + (m:Int) * 1).toNat]?).toArray=((xs.toList.drop i).take k).toArray:=by
 have e:(λ(m:Nat)=>xs[((i:Int) + (m:Int) * 1).toNat]?)=λm=>xs[i + m]?:=by
  funext m
  have:((i:Int) + (m:Int) * 1).toNat=i + m:=by lia
  rw [this]
 rw [e];have:=pick_run xs i k;rw [List.filterMap_map] at this;have e2:((λx=>xs[x]?) ∘ λx=>i + x)=λm=>xs[i + m]?:=rfl;rw [e2] at this;rw [this]
end
end HT
namespace L2
open PySem PySem.Spec PyProof.Rows
abbrev TO:=St->Hp->(Option Int->Hp->Prop)->Prop
def PO (X:Cx)(e:Option Expr)(t:TO):Prop:=
 ∀(pins:List (Addr×Obj)) (s:Shared) (σ:St) (H:Hp) (Q:Option Int->Hp->Prop),Inv X pins σ H s->t σ H Q->
  wpAny (model X.prog X.w) X.A (evalPart e X.env) (λu s'=>∃o H',Inv X pins σ H' s'/\IsPart u o/\Q o H') X.xe s
def VR:TO:=λ_ H Q=>Q none H
def Zh (t:TE):TO:=λσ H Q=>t σ H λx H1=>∃i,x = .int i/\Q (some i) H1
section
variable {X:Cx}{e:Expr}{te:TE}{lo hi:Option Expr}{tl th:TO}{pos p2:Pos}
theorem Vf:PO X none VR:=by
 intro pins s σ H Q I h;rw [evalPart_none];exact um1 ⟨none,H,I,.none,h⟩
theorem Vg (h:PE X e te):PO X (some e) (Zh te):=by
 intro pins s σ H Q I hw;rw [evalPart_some];refine thn (h pins s σ H _ I hw) λu s1 z9=>?_;obtain ⟨x,H1,I1,r1,q1⟩:=z9;obtain ⟨i,rfl,q⟩:=q1;obtain ⟨t,rfl⟩:=r1;exact ⟨some i,H1,I1,.int i t,q⟩
def SlR (X:Cx)(r:V->Option Int->Option Int->Hp->VK->Prop):Prop:=
 ∀(pins:List (Addr×Obj)) (s:Shared) (σ:St) (H:Hp) (x:V) (v vl vu:Value) (lo hi:Option Int) (sl:Addr) (Q:VK),Inv X pins σ H s->RelV x v->s.heap.IsSliceOf sl vl vu .none->IsPart vl lo->IsPart vu hi->r x lo hi H Q->
  ∃T id,typeLookup (.type T) "__getitem__" = pure (some (.builtin id))/\s.TypeIs v T/\wpAny (model X.prog X.w) X.A (getItem v (.ref sl)) (EP X pins σ Q) X.xe s
theorem SlR.or {r r':V->Option Int->Option Int->Hp->VK->Prop}(h:SlR X r)(h':SlR X r'):SlR X (λx lo hi H Q=>r x lo hi H Q\/r' x lo hi H Q):=by
 intro pins s σ H x v vl vu lo hi sl Q I rx hs pl pu q;rcases q with q | q
 ·exact h pins s σ H x v vl vu lo hi sl Q I rx hs pl pu q
 ·exact h' pins s σ H x v vl vu lo hi sl Q I rx hs pl pu q
def tSl (r:V->Option Int->Option Int->Hp->VK->Prop)(te:TE)(tl th:TO):TE:=λσ H Q=>te σ H λx H1=>tl σ H1 λl H2=>th σ H2 λu H3=>r x l u H3 Q
theorem Mz {r:V->Option Int->Option Int->Hp->VK->Prop}(hr:SlR X r)(he:PE X e te)(hl:PO X lo tl)(hu:PO X hi th):PE X (.Subscript e (.Slice lo hi none p2) pos) (tSl r te tl th):=by
 intro pins s σ H Q I h;refine Subscript_ (thn (he pins s σ H _ I h) λv s1 z9=>?_);obtain ⟨x,H1,I1,r1,q1⟩:=z9;refine wpAny_Slice (thn (hl pins s1 σ H1 _ I1 q1) λvl s2 ⟨l,H2,I2,pl,q2⟩=>thn (hu pins s2 σ H2 _ I2 q2) λvu s3 z9=>?_);obtain ⟨u,H3,I3,pu,q3⟩:=z9;rw [evalPart_none];refine um1 ?_;have I4:Inv X pins σ H3 { s3 with heap:=s3.heap.push { cls:=.type "slice",data:=.fields #[vl,vu,.none] } }:=I3.kept (t':=s3.toks) λb ob q=>ub9 _ q;obtain ⟨T,id,hT,ht,hg⟩:=hr pins { s3 with heap:=s3.heap.push { cls:=.type "slice",data:=.fields #[vl,vu,.none] } } σ H3 x v vl vu l u s3.heap.objs.size Q I4 r1 (Heap.IsSliceOf.new ..) pl pu q3;show wpAny (model X.prog X.w) X.A (subscriptTail e (.Slice lo hi none p2) v (.ref s3.heap.objs.size)) (EP X pins σ Q) X.xe { s3 with heap:=s3.heap.push { cls:=.type "slice",data:=.fields #[vl,vu,.none] } };exact tail_any (ops:=[.ref s3.heap.objs.size,v]) ht hT hg (by with_unfolding_all rfl)
def Iq (xs:List V)(lo hi:Option Int):List V:=(xs.drop (HT.sIx xs.length 0 lo)).take (HT.sIx xs.length xs.length hi - HT.sIx xs.length 0 lo)
theorem M1 (xs:List V)(lo hi:Option Int):(Iq xs lo hi).length<=xs.length:=by
 unfold Iq;rw [ug3,ug4];lia
theorem Vals.nil_iff {xs:List V}{us:List Value}(r:Vals xs us):us=[]↔xs=[]:=by
 cases r with
 | nil=>simp
 | cons _ _=>simp
end
noncomputable def ixN (n:Nat)(i:Int):Option Nat:=if 0<=i then (if i < n then some i.toNat else none) else if -(n:Int)<=i then some (i + n).toNat else none
def atI {α:Type}(xs:List α)(i:Int):Option α:=(ixN xs.length i).bind λj=>xs[j]?
theorem UN {n:Nat}{i:Int}{j:Nat}(h:ixN n i=some j):seqIndex? i n=some j/\j < n/\-(n:Int)<=i/\i < n:=by
 unfold ixN at h
 by_cases h0:0<=i
 ·rw [if_pos h0] at h
  by_cases h1:i < n
  ·rw [if_pos h1] at h;have e:i.toNat=j:=uh5 h;exact ⟨by rw [seqIndex_of h0 h1,e],by lia,by lia,h1⟩
  ·rw [if_neg h1] at h;cases h
 ·rw [if_neg h0] at h
  by_cases h1 : -(n:Int)<=i
  ·rw [if_pos h1] at h;have e:(i + n).toNat=j:=uh5 h;exact ⟨by rw [seqIndex_neg (by lia) h1,e],by lia,h1,by lia⟩
  ·rw [if_neg h1] at h;cases h
theorem JK {α:Type}{xs:List α}{i:Int}{v:α}(h:atI xs i=some v):∃j,seqIndex? i xs.length=some j/\xs[j]?=some v/\j < xs.length/\-(xs.length:Int)<=i/\i < xs.length:=by
 unfold atI at h
 cases e:ixN xs.length i with
 | none=>rw [e] at h;cases h
 | some j=>
   rw [e] at h;obtain ⟨h1,h2,h3,h4⟩:=UN e;exact ⟨j,h1,h,h2,h3,h4⟩
theorem HF {α:Type}{xs:List α}{j:Nat}{v:α}(h:xs[j]?=some v):atI xs (j:Int)=some v:=by
 have hj:j < xs.length:=(ua9.mp h).1;have e:ixN xs.length (j:Int)=some j:=by
  unfold ixN;rw [if_pos (by lia),if_pos (by lia)];simp
 unfold atI;rw [e];exact h
def Ng (b:Expr):Prop:=∀o i,subscripted b false o i=operate [o,i] (getItem o i)
def IxR (X:Cx)(r:R2):Prop:=
 ∀(value slice:Expr) (pins:List (Addr×Obj)) (s:Shared) (σ:St) (H:Hp) (x y:V) (v u:Value) (Q:VK),Inv X pins σ H s->RelV x v->RelV y u->r x y H Q->
  subscripted slice false v u=operate [v,u] (getItem v u)->wpAny (model X.prog X.w) X.A (subscriptTail value slice v u) (EP X pins σ Q) X.xe s
def MtR (X:Cx)(id:String)(r:V->List V->Hp->VK->Prop):Prop:=
 ∀(pins:List (Addr×Obj)) (s:Shared) (σ:St) (H:Hp) (x:V) (xs:List V) (v:Value) (us:List Value) (Q:VK),Inv X pins σ H s->RelV x v->Vals xs us->r x xs H Q->
  wpAny (model X.prog X.w) X.A (call (.builtin id) (v :: us)) (EP X pins σ Q) X.xe s
section
variable {X:Cx}{a b:Expr}{ta tb:TE}{pos:Pos}
theorem IxR.or {r r':R2}(h:IxR X r)(h':IxR X r'):IxR X (λx y H Q=>r x y H Q\/r' x y H Q):=by
 intro value slice pins s σ H x y v u Q I rx ry q hs;rcases q with q | q
 ·exact h value slice pins s σ H x y v u Q I rx ry q hs
 ·exact h' value slice pins s σ H x y v u Q I rx ry q hs
theorem Y1 {r:R2}(hr:IxR X r)(ha:PE X a ta)(hb:PE X b tb)(hs:Ng b):PE X (.Subscript a b pos) (tOp r ta tb):=by
 intro pins s σ H Q I h;exact Subscript_ (Rj ha hb I h λv u s2 x y H2 I2 rx ry q=>hr a b pins s2 σ H2 x y v u Q I2 rx ry q (hs _ _))
def XX (K:PySem.W.Frag):R2:=λx y H Q=>∃p xs i v,x = .ref p/\y = .int i/\SqL K H p xs/\atI xs i=some v/\Q v H
def XZ (K:PySem.W.Frag):R2:=λx y H Q=>∃p xs i v,x = .ref p/\y = .int i/\SqT K H p xs/\atI xs i=some v/\Q v H
def XY:R2:=λx y H Q=>∃z i c,x = .str z/\y = .int i/\z.length<=sizeLine/\atI z.cps.toList i=some c/\Q (.str ⟨#[c]⟩) H
theorem ix_list:IxR X (XX X.K):=by
 intro value slice pins s σ H x y v u Q I rx ry h hs;obtain ⟨p,xs,i,z,rfl,rfl,hq,he,q⟩:=h
 cases rx
 obtain ⟨t,rfl⟩:=ry;obtain ⟨its,r,pl,hz⟩:=I.list hq;obtain ⟨j,h1,h2,h3,h4,h5⟩:=JK he;obtain ⟨w,ew,rw'⟩:=r.get h2;have hl:=r.length;have hn:=Jn;have fin:EP X pins σ Q w s:=⟨z,H,I,rw',q⟩
 by_cases h0:0<=i
 ·have hj:i.toNat=j:=by
   rw [seqIndex_of h0 h5] at h1;exact uh5 h1
  exact item_listR pl.isList h0 (by lia) (by rw [hj];simpa using ew) fin hs
 ·have hj:(i + (its.toArray.size:Int)).toNat=j:=by
   rw [seqIndex_neg (by lia) h4] at h1;rw [uf0,<-hl];exact uh5 h1
  exact subscriptTail_builtinR (x:=w) pl.isList.typeIs slot_list_getitem.lookup
   (wpAny_getItem_list_neg (Q:=λr s'=>r=w/\EP X pins σ Q r s') pl.isList (by lia) (by rw [uf0] <;> lia) (by lia) (by rw [hj];simpa using ew) ⟨rfl,fin⟩) hs
theorem ix_tup:IxR X (XZ X.K):=by
 intro value slice pins s σ H x y v u Q I rx ry h hs;obtain ⟨p,xs,i,z,rfl,rfl,hq,he,q⟩:=h
 cases rx
 obtain ⟨t,rfl⟩:=ry;obtain ⟨its,r,pl,hz⟩:=I.tuple hq;obtain ⟨j,h1,h2,h3,h4,h5⟩:=JK he;obtain ⟨w,ew,rw'⟩:=r.get h2;have hl:=r.length;have hn:=Jn;have fin:EP X pins σ Q w s:=⟨z,H,I,rw',q⟩;exact subscriptTail_builtinR (x:=w) pl.typeIs slot_tuple_getitem.lookup
  (getItem_tuple (j:=j) (Q:=λr s'=>r=w/\EP X pins σ Q r s') pl (by lia) (by lia) (by rw [uf0,<-hl];exact h1) (by simpa using ew) ⟨rfl,fin⟩) hs
theorem W9:IxR X XY:=by
 intro value slice pins s σ H x y v u Q I rx ry h hs;obtain ⟨z,i,c,rfl,rfl,hz,he,q⟩:=h;obtain ⟨t,rfl⟩:=rx;obtain ⟨t',rfl⟩:=ry;obtain ⟨j,h1,h2,h3,h4,h5⟩:=JK he;have hl:z.cps.toList.length=z.length:=by simp [Str.length]
 rw [hl] at h1 h4 h5;have hn:=Jn;exact tail_any (typeIs_str s z t) slot_str_getitem.lookup (getItem_str (c:=c) (by
  have e1:decide (i < -(2 ^ 63:Int))=false:=ui8 (by lia);have e2:decide (i ≥ 2 ^ 63)=false:=ui8 (by lia);rw [e1,e2,Bool.or_false]) (by rw [h1];simpa using h2) ⟨.str ⟨#[c]⟩,H,I.tok _,⟨_,rfl⟩,q⟩) hs
def rIx (K:PySem.W.Frag):R2:=λx y H Q=>XX K x y H Q\/XZ K x y H Q\/XY x y H Q
theorem W8:IxR X (rIx X.K):=ix_list.or (ix_tup.or W9)
theorem MP (lo hi:Option Int)(n:Nat):(sliceBounds lo hi none n).1=((HT.sIx n 0 lo:Nat):Int)/\(sliceBounds lo hi none n).2.1=((HT.sIx n n hi:Nat):Int)/\(sliceBounds lo hi none n).2.2=1:=by
 refine ⟨?_,?_,rfl⟩
 ·cases lo with
  | none=>simp [sliceBounds,HT.sIx]
  | some i=>
    simp only [sliceBounds,HT.sIx,Option.getD_none,show (1:Int) > 0 by decide,if_true]
    by_cases h:i < 0
    ·simp only [h,if_true] <;> lia
    ·simp only [h,if_false] <;> lia
 ·cases hi with
  | none=>simp [sliceBounds,HT.sIx]
  | some i=>
    simp only [sliceBounds,HT.sIx,Option.getD_none,show (1:Int) > 0 by decide,if_true]
    by_cases h:i < 0
    ·simp only [h,if_true] <;> lia
    ·simp only [h,if_false] <;> lia
theorem Lf (its:List Value)(lo hi:Option Int):slicePick its.toArray lo hi none=((its.drop (HT.sIx its.length 0 lo)).take (HT.sIx its.length its.length hi - HT.sIx its.length 0 lo)).toArray:=by
 obtain ⟨h1,h2,h3⟩:=MP lo hi its.toArray.size;unfold slicePick;rw [h1,h2,h3];simp only [sliceRange_one,pick_run,uf0] <;> rfl
def X1 (K:PySem.W.Frag):V->Option Int->Option Int->Hp->VK->Prop:=λx lo hi H Q=>∃a xs,x = .ref a/\SqL K H a xs/\∀p,H p=none->Q (.ref p) (upd H p (.lst (Iq xs lo hi)))
theorem VP:SlR X (X1 X.K):=by
 intro pins s σ H x v vl vu lo hi sl Q I rx hs pl pu h;obtain ⟨a,xs,rfl,hx,q⟩:=h
 cases rx
 obtain ⟨its,r,ht,hz⟩:=I.list hx;have hlen:=r.length;refine ⟨"list",_,slot_list_getitem.lookup,ht.isList.typeIs,?_⟩;refine wpAny_getItem_list_slice ht.isList hs pl pu .none (by simp) ?_ (by rw [uf0] <;> lia);rw [Lf,<-hlen];refine ⟨.ref s.heap.objs.size,_,I.laid (t':=s.toks) (o:=.lst (Iq xs lo hi)) (λb ob q=>ub9 _ q) (ul5 _) ?_,rfl,q _ (I.hok.fresh (ul5 _))⟩;exact ⟨uk7 (M1 xs lo hi) hz,_,0,(r.drop (HT.sIx xs.length 0 lo)).take (HT.sIx xs.length xs.length hi - HT.sIx xs.length 0 lo),ud4 _ rfl⟩
noncomputable def E6:V->Bool
 | .non=>true
 | .bl _=>true
 | .int _=>true
 | .str _=>true
 | _=>false
noncomputable def eqV:V->V->Bool
 | .non,.non=>true
 | .bl a,.bl b=>a == b
 | .bl a,.int b=>(if a then 1 else 0) == b
 | .int a,.bl b=>a == (if b then 1 else 0)
 | .int a,.int b=>a == b
 | .str a,.str b=>a == b
 | _,_=>false
theorem WA {A:Around}{s:Shared}{y x:V}{u v:Value}(ry:RelV y u)(rx:RelV x v)(fy:E6 y=true)(fx:E6 x=true):SeqAt.EqAt A s u v (eqV y x):=by
 cases y with
 | non=>
   cases ry
   cases x with
   | non=>cases rx;exact SeqAt.EqAt.same _
   | bl b=>cases rx;exact SeqAt.EqAt.none_bool b
   | int b=>obtain ⟨t,rfl⟩:=rx;exact SeqAt.EqAt.none_int b t
   | str b=>obtain ⟨t,rfl⟩:=rx;exact SeqAt.EqAt.none_str b t
   | _=>exact absurd (show false=true from fx) ue0
 | bl a=>
   cases ry
   cases x with
   | non=>cases rx;exact SeqAt.EqAt.bool_none a
   | bl b=>cases rx;exact SeqAt.EqAt.bool_bool a b
   | int b=>obtain ⟨t,rfl⟩:=rx;exact SeqAt.EqAt.bool_int a b t
   | str b=>obtain ⟨t,rfl⟩:=rx;exact SeqAt.EqAt.bool_str a b t
   | _=>exact absurd (show false=true from fx) ue0
 | int a=>
   obtain ⟨t',rfl⟩:=ry
   cases x with
   | non=>cases rx;exact SeqAt.EqAt.int_none a t'
   | bl b=>cases rx;exact SeqAt.EqAt.int_bool a t' b
   | int b=>obtain ⟨t,rfl⟩:=rx;exact SeqAt.EqAt.int_int a t' b t
   | str b=>obtain ⟨t,rfl⟩:=rx;exact SeqAt.EqAt.int_str a t' b t
   | _=>exact absurd (show false=true from fx) ue0
 | str a=>
   obtain ⟨t',rfl⟩:=ry
   cases x with
   | non=>cases rx;exact SeqAt.EqAt.str_none a t'
   | bl b=>cases rx;exact SeqAt.EqAt.str_bool a t' b
   | int b=>obtain ⟨t,rfl⟩:=rx;exact SeqAt.EqAt.str_int a t' b t
   | str b=>obtain ⟨t,rfl⟩:=rx;exact SeqAt.EqAt.str_str a t' b t
   | _=>exact absurd (show false=true from fx) ue0
 | _=>exact absurd (show false=true from fy) ue0
def eqU (x:V)(u:Value):Bool:=match u with
 | .none=>eqV .non x
 | .bool b=>eqV (.bl b) x
 | .int i _=>eqV (.int i) x
 | .str z _=>eqV (.str z) x
 | _=>false
theorem Pp {x y:V}{u:Value}(r:RelV y u)(f:E6 y=true):eqU x u=eqV y x:=by
 cases y with
 | non=>cases r;rfl
 | bl b=>cases r;rfl
 | int i=>obtain ⟨t,rfl⟩:=r;rfl
 | str z=>obtain ⟨t,rfl⟩:=r;rfl
 | _=>exact absurd (show false=true from f) ue0
theorem JJ {x:V}:∀{xs:List V} {us:List Value},Vals xs us->xs.all E6=true->us.any (eqU x)=xs.any λy=>eqV y x
 | _,_,.nil,_=>rfl
 | y :: xs,u :: us,.cons r t,f=>by
   rw [uj7,ug5] at f;rw [uj8,uj8,Pp r f.1,JJ t f.2]
theorem IB {A:Around}{s:Shared}{x:V}{v:Value}(rx:RelV x v)(fx:E6 x=true):∀{xs:List V} {us:List Value},Vals xs us->xs.all E6=true->∀u∈us,SeqAt.EqAt A s u v (eqU x u)
 | _,_,.nil,_=>λu hu=>by cases hu
 | y :: xs,u :: us,.cons r t,f=>λu' hu=>by
   rw [uj7,ug5] at f;rcases uj5.mp hu with rfl | hu
   ·rw [Pp r f.1];exact WA r rx f.1 fx
   ·exact IB rx fx t f.2 u' hu
def inV (x:V)(xs:List V):Bool:=xs.any λy=>eqV y x
def rIn (K:PySem.W.Frag)(neg:Bool):R2:=λx y H Q=>∃p xs,y = .ref p/\(SqL K H p xs\/SqT K H p xs)/\E6 x=true/\xs.all E6=true/\Q (.bl (if neg then !inV x xs else inV x xs)) H
theorem Mx:OpR X (compareOp .NotIn) (rIn X.K true):=by
 intro pins s σ H x y v u Q I rx ry h;obtain ⟨p,xs,rfl,hq,fx,fs,q⟩:=h
 cases ry
 rcases hq with hq | hq
 ·obtain ⟨its,r,pl,hz⟩:=I.list hq;refine SeqAt.notIn_listAt (eqU x) pl.isList (λw hw=>IB rx fx r fs w (by simpa using hw)) ⟨.bl _,H,I,rfl,?_⟩;rw [show its.toArray.any (eqU x)=its.any (eqU x) by simp,JJ r fs];exact q
 ·obtain ⟨its,r,pl,hz⟩:=I.tuple hq;refine SeqAt.notIn_tupleAt (eqU x) pl (λw hw=>IB rx fx r fs w (by simpa using hw)) ⟨.bl _,H,I,rfl,?_⟩;rw [show its.toArray.any (eqU x)=its.any (eqU x) by simp,JJ r fs];exact q
theorem LZ:DO X (.type "list") (λxs H Q=>∃p ys,xs=[.ref p]/\(SqL X.K H p ys\/SqT X.K H p ys)/\∀l,H l=none->Q (.ref l) (upd H l (.lst ys))):=by
 intro pins s σ H xs us Q I r h;obtain ⟨p,ys,rfl,hq,q⟩:=h;obtain ⟨u,rfl,rx⟩:=Jz r
 cases rx
 have fin:∀(its:List Value),Vals ys its->ys.length<=sizeLine->∀(h':Heap) (c':Nat),(∀b o',s.heap.get? b=some o'->h'.get? b=some o')->
  h'.get? s.heap.objs.size=some { cls:=.type "list",dict:=none,data:=.seq its.toArray c',slots:=#[] }->EP X pins σ Q (.ref s.heap.objs.size) { s with heap:=h' }:=λits r' hz h' c' kp e=>
  ⟨.ref s.heap.objs.size,_,I.laid (t':=s.toks) kp (ul5 _) (show ObjOk X.prog X.w _ h' _ (.lst ys) from ⟨hz,its,c',r',e⟩),rfl,q _ (I.hok.fresh (ul5 _))⟩
 rcases hq with hq | hq
 ·obtain ⟨its,r',pl,hz⟩:=I.list hq;have hlen:=r'.length;obtain ⟨o,ho,hc,n,hd⟩:=pl.isList;exact call_list_seq p (.inl rfl) ho hc hd (λh' c' kp e=>fin its r' hz h' c' kp e) (by simp only [uf0] <;> lia)
 ·obtain ⟨its,r',pl,hz⟩:=I.tuple hq;have hlen:=r'.length;obtain ⟨o,ho,hc,n,hd⟩:=pl;exact call_list_seq p (.inr rfl) ho hc hd (λh' c' kp e=>fin its r' hz h' c' kp e) (by simp only [uf0] <;> lia)
def tyV (K:PySem.W.Frag)(T:String)(x:V)(H:Hp):Prop:=match x with
 | .str _=>T = "str"
 | .int _=>T = "int"
 | .ref p=>(T = "list"/\∃xs,SqL K H p xs)\/(T = "tuple"/\∃o,K.lookup p=some o/\o.cls = .type "tuple"/\o.dict=none)\/
    (T = "dict"/\((∃kvs,H p=some (.dK kvs))\/∃kvs,H p=some (.dT kvs)))\/(T = "set"/\∃S n,H p=some (.set S n))
 | _=>False
theorem Yl {pins:List (Addr×Obj)}{σ:St}{H:Hp}{s:Shared}{T:String}{x:V}{v:Value}(I:Inv X pins σ H s)(r:RelV x v)(ty:tyV X.K T x H) :
 s.TypeIs v T/\∀a,v = .ref a->∃ob,s.heap.get? a=some ob/\ob.dict=none:=by
 cases x with
 | str z=>
   obtain ⟨t,rfl⟩:=r
   cases (show T = "str" from ty)
   exact ⟨typeIs_str s z t,λ_ e=>nomatch e⟩
 | int i=>
   obtain ⟨t,rfl⟩:=r
   cases (show T = "int" from ty)
   exact ⟨typeIs_int s i t,λ_ e=>nomatch e⟩
 | ref p=>
   cases r
   rcases ty with ⟨rfl,xs,hq⟩ | ⟨rfl,o,hk,hc,hd⟩ | ⟨rfl,hk⟩ | ⟨rfl,S,n,hk⟩
   ·obtain ⟨its,_,pl,_⟩:=I.list hq;refine ⟨pl.isList.typeIs,λa e=>?_⟩
    cases e
    obtain ⟨o,n,e,c,hd,_⟩:=pl;exact ⟨o,e,hd⟩
   ·refine ⟨⟨o,I.kIn p o hk,hc⟩,λa e=>?_⟩
    cases e
    exact ⟨o,I.kIn _ o hk,hd⟩
   ·have z:∃o,s.heap.get? p=some o/\o.ExactDict:=by
     rcases hk with ⟨kvs,hk⟩ | ⟨kvs,hk⟩
     ·obtain ⟨_,_,_,_,o,_,_,e,ex,_⟩:=I.hok p _ hk;exact ⟨o,e,ex⟩
     ·obtain ⟨_,_,_,_,o,_,_,e,ex,_⟩:=I.hok p _ hk;exact ⟨o,e,ex⟩
    obtain ⟨o,e,ex⟩:=z;refine ⟨⟨o,e,ex.1⟩,λa e2=>?_⟩
    cases e2
    exact ⟨o,e,ex.2.1⟩
   ·obtain ⟨o,_,_,_,e,ex,_⟩:=I.hok p _ hk;refine ⟨⟨o,e,ex.1⟩,λa e2=>?_⟩
    cases e2
    exact ⟨o,e,ex.2.1⟩
 | _=>exact False.elim ty
def tBM (K:PySem.W.Frag)(T:String)(r:V->List V->Hp->VK->Prop)(to:TE)(t:TA):TE:=λσ H Q=>to σ H λx H1=>tyV K T x H1/\t σ H1 λxs H2=>r x xs H2 Q
variable {o e:Expr}{es:List Expr}{to:TE}{t:TA}{name:Str}{apos cpos:Pos}{T id:String}{r:V->List V->Hp->VK->Prop}
theorem Jr (pa:PlainAttrs T)(slot:Slot T name id)(hty:typeOf (.builtin id)=pure (.type "method_descriptor"))(hm:MtR X id r)(ho:PE X o to)(ha:PA X (e :: es) t)
 (hbase:attributeBase o name X.env (eval o X.env)=eval o X.env:=by rfl)
 (hfew:((backTo cpos (starEach (e :: es) X.env)).all (λx=>!x.1) && (backToKw cpos (keywordEach [] X.env)).all (λx=>x.1.isSome)
   && decide ((e :: es).length + ([]:List Keyword).length + (if ([]:List Keyword).isEmpty then 0 else 1) < 30))=true:=by rfl)
 (hline:(apos.endLine == cpos.line)=true:=by rfl) (hs:starEach (e :: es) X.env=(false,eval e X.env) :: starEach es X.env:=by rfl) (hplain:(backTo cpos (starEach es X.env)).any (·.1)=false:=by rfl) :
 PE X (.Call (.Attribute o name apos) (e :: es) [] cpos) (tBM X.K T r to t):=by
 intro pins s σ H Q I h;refine wpAny_Call_method_late hbase hfew hline rfl (thn (ho pins s σ H _ I h) λv s1 z9=>?_);obtain ⟨x,H1,I1,r1,ty,q1⟩:=z9;obtain ⟨h1,h2⟩:=Yl I1 r1 ty;refine ⟨T,id,pa,slot,hty,h1,h2,?_⟩;have hA:=ha cpos pins s1 σ H1 _ I1 q1;rw [hs] at hA ⊢;refine Calls.callWith_builtin (by show (false || (backTo cpos (starEach es X.env)).any (·.1))=false;rw [hplain] <;> rfl) (Calls.evalArgs_plain ?_);exact thn hA λus s2 ⟨vs,H2,I2,r2,q2⟩=>hm pins s2 σ H2 x vs v us Q I2 r1 r2 q2
/- xs.append(e),list.index on a module's tuple .. are MtR facts of 06m -/
end
def MtM (X:Cx)(id:String)(r:V->List V->Hp->VK->Prop):Prop:=
 ∀(pins:List (Addr×Obj)) (s:Shared) (σ:St) (H:Hp) (x:V) (xs:List V) (v:Value) (us:List Value) (Q:VK),Inv X pins σ H s->RelV x v->Vals xs us->r x xs H Q->
  wpAny (model X.prog X.w) X.A (call (.builtin id) (v :: us)) (EP X pins σ Q) X.xe s
theorem Vals.one {x:V}{us:List Value}(h:Vals [x] us):∃u,us=[u]/\RelV x u:=by
 cases h with
 | cons r t=>
   cases t
   exact ⟨_,rfl,r⟩
theorem Vals.rep {xs:List V}{us:List Value}(h:Vals xs us):∀k:Nat,Vals (List.replicate k xs).flatten (List.replicate k us).flatten
 | 0=>.nil
 | k + 1=>by
   rw [ud6,ud6,uf3,uf3];exact Vals.append h (Vals.rep h k)
theorem PB (its:List Value):∀(k:Nat) (acc:List Value),
 List.foldl (λx1 x2=>x1++x2) acc.toArray (List.replicate k its.toArray)=(acc++(List.replicate k its).flatten).toArray
 | 0,acc=>by simp
 | k + 1,acc=>by
   have e:acc.toArray++its.toArray=(acc++its).toArray:=by simp
   have e2:(acc++its)++(List.replicate k its).flatten=acc++(List.replicate (k + 1) its).flatten:=by
    rw [ud6,uf3,uf4]
   rw [<-e2,<-PB its k (acc++its),<-e,ud6,List.foldl_cons]
section
variable {X:Cx}{pins:List (Addr×Obj)}{σ:St}{H:Hp}{s:Shared}{l b:Addr}{xs ys zs:List V}
theorem Inv.lset {its its':List Value}{n:Nat}{f:Array Value->Array Value}{t':Nat}(I:Inv X pins σ H s)(hH:H l=some (.lst xs))
 (e:s.heap.get? l=some { cls:=.type "list",data:=.seq its.toArray n }) (hf:f its.toArray=its'.toArray) (hv:Vals ys its') (hz:ys.length<=sizeLine) :
 Inv X pins σ (upd H l (.lst ys)) { s with heap:=s.heap.update l (Obj.mapSeq f),toks:=t' }:=by
 have q:=PySem.IsL.update e f;rw [hf] at q;refine I.write (x:=l) (e:=l) (by rw [hH];exact trivial) (.inl rfl) (λb' u hb hu=>(uc1 s.heap (Obj.mapSeq f) (Ne.symm hb)).trans hu) ⟨_,q⟩ ?_;exact ⟨hz,its',_,hv,q⟩
theorem Inv.lnew {its:List Value}{t':Nat}(I:Inv X pins σ H s)(hv:Vals ys its)(hz:ys.length<=sizeLine) :
 Inv X pins σ (upd H s.heap.objs.size (.lst ys)) { s with heap:=s.heap.push { cls:=.type "list",data:=.seq its.toArray },toks:=t' }:=
 I.laid (λ_ _ q=>ub9 _ q) (ul5 _) ⟨hz,its,0,hv,ud4 _ rfl⟩
theorem Inv.fresh (I:Inv X pins σ H s):H s.heap.objs.size=none:=I.hok.fresh (ul5 _)
theorem Inv.lstM (I:Inv X pins σ H s)(hH:H l=some (.lst xs)):xs.length<=sizeLine/\∃(its:List Value) (n:Nat),Vals xs its/\xs.length=its.length/\s.heap.get? l=some { cls:=.type "list",data:=.seq its.toArray n }:=by
 obtain ⟨z,its,n,r,e⟩:=I.hok l _ hH;exact ⟨z,its,n,r,r.length,e⟩
theorem Sv {n:Nat}(h:n<=sizeLine):Builtin.List.listTooLong n=false:=by
 unfold Builtin.List.listTooLong;exact ui8 (by lia)
end
section
variable {X:Cx}
def NL:V->List V->Hp->VK->Prop:=λx vs H Q=>∃l xs y,x = .ref l/\vs=[y]/\H l=some (.lst xs)/\xs.length < sizeLine/\Q .non (upd H l (.lst (xs++[y])))
theorem KP:MtM X "list.append" NL:=by
 intro pins s σ H x vs v us Q I rx rv h;obtain ⟨l,xs,y,rfl,rfl,hH,hz,q⟩:=h
 cases rx
 obtain ⟨u,rfl,ru⟩:=rv.one;obtain ⟨z,its,n,r,hl,e⟩:=I.lstM hH;refine call_meets F.slot_list_append ⟨_,e,rfl⟩ F.entry_list_append (F.args_list_append_2 _ _) (PySem.list_append l its.toArray n u (by rw [uf0];lia)) ⟨e,?_⟩;refine ⟨.non,_,I.lset (its':=its++[u]) hH e (by simp) (r.append (.cons ru .nil)) ?_,rfl,q⟩;rw [ue3,List.length_singleton];lia
def NM:V->List V->Hp->VK->Prop:=λx vs H Q=>∃l b xs zs,x = .ref l/\vs=[.ref b]/\H l=some (.lst xs)/\H b=some (.lst zs)/\xs.length + zs.length<=sizeLine/\Q .non (upd H l (.lst (xs++zs)))
theorem Qi:MtM X "list.extend" NM:=by
 intro pins s σ H x vs v us Q I rx rv h;obtain ⟨l,b,xs,zs,rfl,rfl,hH,hB,hz,q⟩:=h
 cases rx
 obtain ⟨u,rfl,ru⟩:=rv.one
 cases ru
 obtain ⟨z,its,n,r,hl,e⟩:=I.lstM hH;obtain ⟨z2,its2,n2,r2,hl2,e2⟩:=I.lstM hB;have hsz:its.toArray.size + its2.toArray.size<=sizeLine:=by rw [uf0,uf0];lia
 have hlong:¬(!its.toArray.isEmpty && Builtin.List.listTooLong (its.toArray.size + its2.toArray.size))=true:=by
  rw [Sv hsz,uj1];exact ue0
 refine call_meets F.slot_list_extend ⟨_,e,rfl⟩ F.entry_list_extend (F.args_list_extend_2 _ _)
  (AutoSeq1.list_extend_list_list_0 l its.toArray n b its2.toArray n2 hlong (by rw [uf0];lia) (by lia)) ⟨e,e2,?_⟩
 refine ⟨.non,_,I.lset (its':=its++its2) hH e (by simp) (r.append r2) ?_,rfl,q⟩;rw [ue3];lia
def OK:R2:=λx y H Q=>∃l b xs zs,x = .ref l/\y = .ref b/\H l=some (.lst xs)/\H b=some (.lst zs)/\xs.length + zs.length<=sizeLine/\∀p,H p=none->Q (.ref p) (upd H p (.lst (xs++zs)))
theorem Mu:OpR X (binaryOp .Add) OK:=by
 intro pins s σ H x y v u Q I rx ry h;obtain ⟨l,b,xs,zs,rfl,rfl,hH,hB,hz,q⟩:=h
 cases rx
 cases ry
 obtain ⟨z,its,n,r,hl,e⟩:=I.lstM hH;obtain ⟨z2,its2,n2,r2,hl2,e2⟩:=I.lstM hB;refine PySem.P.add_list e e2 ?_ (by rw [uf0,uf0];lia);have ea:its.toArray++its2.toArray=(its++its2).toArray:=by simp
 rw [ea];exact ⟨.ref _,_,I.lnew (t':=s.toks) (r.append r2) (by rw [ue3];lia),rfl,q _ I.fresh⟩
def b7:R2:=λx y H Q=>∃l k xs,x = .ref l/\y = .int k/\H l=some (.lst xs)/\-(2 ^ 63)<=k/\k < 2 ^ 63/\xs.length * k.toNat<=sizeLine/\
 ∀p,H p=none->Q (.ref p) (upd H p (.lst (List.replicate k.toNat xs).flatten))
theorem bH {α:Type}(xs:List α)(k:Nat):(List.replicate k xs).flatten.length=k * xs.length:=by
 induction k with
 | zero=>simp
 | succ k ih=>rw [ud6,uf3,ue3,ih,Nat.succ_mul,Nat.add_comm]
end
section
variable {prog:Program}{w:World}{A:Around}{E:Value->Shared->Prop}{s:Shared}
end
section
variable {X:Cx}
end
end L2
namespace Att
open PySem PySem.W PySem.Calls PyProof.Rows
theorem Jm {P:Params}{h:Heap}:∀(ns:List Int) (vs:List Value),WellAll P h vs (ns.map WData.int)->IntsAre vs ns:=by
 intro ns
 induction ns with
 | nil=>
   intro vs w;rw [ul0] at w
   cases w
   exact .nil
 | cons n ns ih=>
   intro vs w;rw [uj6] at w
   cases w with
   | cons a b=>
     cases a
     exact .cons _ _ (ih _ b)
theorem QG {l:OpenLaw}{n:Nat}(hn:l.most=some n){P:Params}{h:Heap}{args:List WData}{vals:List Value}
 (hpre:l.row.toRowW.claim.pre args=true) (hwl:WellAll P h vals args) :
 ∃a vs ns,vals=[Value.ref a]/\args=[WData.list (ns.map WData.int)]/\h.get? a=some { cls:=.type "list",data:=.seq vs.toArray }/\IntsAre vs ns/\ns.length<=n:=by
 have hsh:WShape.hasAll [] args [.list .int]=true:=(pre_splitW hpre).1;have hc:l.pre.holds [] { args:=args }=true:=(pre_splitW hpre).2;obtain ⟨d,r,rfl,h1,h2⟩:=hasAllW_cons hsh;obtain rfl:=hasAllW_nil h2;obtain ⟨xs,rfl,h3⟩:=hasW_list h1;obtain ⟨ns,rfl⟩:=items_int h3;have hlen:ns.length<=n:=by
  unfold OpenLaw.pre at hc;have h4:(WTm.not (.lt (.lit (.int (n:Int))) (.len (.arg 0)))).holds [] { args:=[.list (ns.map .int)] }=true:=by
   have h4:=(holds_andW hc).1;rw [hn] at h4;exact h4
  have h5:=condW_of h4 (w_not (w_lt w_lit (w_len_list (w_arg rfl))));rw [uh6] at h5;refine Nat.le_of_not_lt λq=>?_;have q':(n:Int) < ((ns.length:Nat):Int):=by lia
  first
   | (rw [uj3 q'] at h5;exact absurd h5 (by decide))
   | (simp at h5;lia)
 cases hwl with
 | cons w1 w2=>
   cases w2
   cases w1 with
   | list ho hall=>exact ⟨_,_,ns,rfl,rfl,ho,Jm ns _ hall,hlen⟩
theorem Qv (l:OpenLaw)(args:List WData):l.row.toRowW.claim.post args (.bool true) args=true:=
 postW_of (r:=l.row.toRowW) (X:=(true == true))
  (show WShape.has [] (.bool true) .bool=true by first | rfl | decide | simp [WShape.has,WShape.arms,WShape.armsAll])
  (show (WTm.eq .res (.lit (.bool true))).value [] { args:=args,res:=some (.bool true),after:=args }=some (.bool (true == true)) from w_eq_bool (w_res rfl) w_lit) rfl
theorem attach_call {l:OpenLaw}{n:Nat}{q:Program}{loose:List Str}{XP:(Str->Option Value)->Heap->Prop}{YP:World->Heap->Prop}{d:DefRec}
 (hn:l.most=some n) (hdf:d.params.defaults=[])
 (call:∀(w:World) (s₀ s₁:Shared) (mg mb:Str->Option Value) (fa:Addr) (o:Obj) (pm cd doc:Value) (a:Addr) (vs:List Value) (ns:List Int),
   Ground q loose [] XP w s₀ mg mb s₁.heap->YP w s₁.heap->
   s₁.heap.get? fa=some o->o.data = .func (docDef d.name d.params d.body d.scope pm cd doc)->s₁.heap.CodeRec cd d.name->mg d.name=some (.ref fa)->
   s₁.heap.get? a=some { cls:=.type "list",data:=.seq vs.toArray }->IntsAre vs ns->ns.length<=n->s₁.gens=#[]->
   codeAny (model l.prog w) callerA (.call (.ref fa) ⟨[.ref a],[]⟩) (λr s'=>r = .ok (.ret (.bool true))/\OldK s₁.heap s'.heap/\s'.os=s₁.os/\AllBare s'.gens) s₁) :
 WalkO q loose XP YP l.row.toRowW d [] (λf vs=>PySem.call f vs):=by
 intro w s₀ s₁ mg mb G Y fa o pm cd doc dV kV ho hd hcd hD hmg hg args vals as hpre hlay hrd hwl hlo;obtain rfl:dV = .none:=Dflts.none hD hdf;obtain rfl:kV = .none:=Dflts.noKw hD;obtain ⟨a,vs,ns,rfl,rfl,hobj,hints,hlen⟩:=QG hn hpre hwl;refine enter_call (codeAny_mono (call w s₀ s₁ mg mb fa o pm cd doc a vs ns G Y ho (fd_plain hd) hcd hmg hobj hints hlen hg) λr s' hq=>?_);obtain ⟨rfl,h2,h3,h4⟩:=hq;exact ⟨.inl ⟨.bool true,.bool true,[],rfl,λ_=>rfl,.bool true,Qv l _,λ_=>⟨List.Pairwise.nil,λ_ hm=>(nomatch hm)⟩⟩,h2,h3,h4⟩
section
variable {prog:Program}{w:World}{A:Around}{E:Value->Shared->Prop}{s:Shared}{K:Frag}
noncomputable def bN (h:Heap)(L d:Addr):List (Addr×Obj):=(List.range h.objs.size).filterMap λa=>if a=L\/a=d then none else (h.get? a).map λo=>(a,o)
end
end Att
namespace L2
open PySem PySem.Spec PyProof.Rows
theorem K6:∀{vs:List Value} {ns:List Int},IntsAre vs ns->Vals (ns.map V.int) vs
 | _,_,.nil=>.nil
 | _,_,.cons n t h=>.cons ⟨t,rfl⟩ (K6 h)
def N3 (H:Hp):Prop:=∀b,H b=none\/∃o xs,H b=some (.frz o (.lst xs))
variable {P:Program}{w:World}{fd:FuncData}
theorem Sc {K:PySem.W.Frag}{mg mb:Str->Option Value}{CX:CXT}{k:Nat}{fa a:Addr}{x:Str}{sp:Sp}{s₁:Shared}{vs:List Value}{ns:List Int}
 (KX:K.In s₁.heap) (hns:s₁.heap.Ns mainGlobals mg) (hb:s₁.heap.Ns builtinsNs mb) (hbb:∀x:Str,x≠"__name__"->mb x=bootBuiltins x) (hlim:s₁.heap.NoLimit) (hg:s₁.gens=#[])
 (ha:s₁.heap.get? a=some { cls:=.type "list",data:=.seq vs.toArray }) (hi:IntsAre vs ns) (hl:ns.length<=sizeLine) (hr:Room k callerA)
 (F:∀base:Heap,K.In base->base.Ns mainGlobals mg->FnOk P w K mg base CX k fa fd [x] sp) (hbind:∀(s:Shared) (u:Value),BindsTo s fd ⟨[u],[]⟩ [(x,u)])
 (hsp:∀H:Hp,N3 H->SqL K H a (ns.map V.int)->sp [.ref a] H (λv _=>v = .bl true) λ_ _ _=>False)
 (hCX:∀H e s',CX [] H s₁ (λ_ _ _=>False) e s'->False) :
 codeAny (model P w) callerA (.call (.ref fa) ⟨[.ref a],[]⟩) (λr s'=>r = .ok (.ret (.bool true))/\OldK s₁.heap s'.heap/\s'.os=s₁.os/\AllBare s'.gens) s₁:=by
 have rv:=K6 hi;have lenV:=hi.length
 -- from an abstract heap in which nothing but the script may be tracked
 have core:∀H:Hp,N3 H->SqL K H a (ns.map V.int)->HOk P w H s₁.heap->(∀b,H b≠none->b=a)->(H a≠none->K.lookup a=none)->
  codeAny (model P w) callerA (.call (.ref fa) ⟨[.ref a],[]⟩) (λr s'=>r = .ok (.ret (.bool true))/\OldK s₁.heap s'.heap/\s'.os=s₁.os/\AllBare s'.gens) s₁:=by
  intro H hO hS hok hA hK;have base_of:∀{b:Addr} {o:Obj},s₁.heap.get? b=some o->H b=none->(Gv s₁.heap H).get? b=some o:=λe n=>R6 e n;have noA:∀{b:Addr} {o:Obj} {es:Array DictEntry} {ep:Nat},s₁.heap.get? b=some o->o.data = .dict es ep->H b=none:=λ{b o es ep} e d=>by
   cases q:H b with
   | none=>rfl
   | some u=>
     have e':b=a:=hA b (by rw [q];simp);subst e';rw [ha] at e;cases e
     have d':Data.seq vs.toArray _=Data.dict es ep:=d
     cases d'
  have nsK:∀{b:Addr} {m:Str->Option Value},s₁.heap.Ns b m->(Gv s₁.heap H).Ns b m:=λ{b m} ⟨o,es,ep,e,d,r⟩=>⟨o,es,ep,base_of e (noA e d),d,r⟩;have hKb:K.In (Gv s₁.heap H):=λb o e=>base_of (KX b o e) (by
   cases q:H b with
   | none=>rfl
   | some u=>
     have e':b=a:=hA b (by rw [q];simp);subst e';rw [hK (by rw [q];simp)] at e;cases e)
  have hM:Mod K mg (Gv s₁.heap H):=⟨hKb,nsK hns,⟨mb,nsK hb,hbb⟩,let ⟨mc,h1,h2⟩:=hlim;⟨mc,nsK h1,h2⟩⟩;have e0:Env0 P w K mg (Gv s₁.heap H) callerA [] s₁ H:=⟨rfl,hM,λb o e=>UY e,Nat.le_of_eq (PX _ _),trivial,λb hb=>absurd (show b∈([]:List Addr) from hb) (by simp),hok,.of_eq hg⟩;refine codeAny_mono ((F _ hKb (nsK hns)).run callerA [] s₁ H ⟨[.ref a],[]⟩ [.ref a] [.ref a] _ _ hr e0 (hbind s₁ (.ref a)) (.cons rfl .nil) (hsp H hO hS)) λr s' h=>?_
  cases r with
  | error e=>exact (hCX H e s' h).elim
  | ok fl=>
    cases fl with
    | next=>exact False.elim h
    | brk=>exact False.elim h
    | cont=>exact False.elim h
    | ret u=>
      obtain ⟨v,H',os,bare,un,hok',r',q⟩:=h;have q':v = .bl true:=q;subst q';obtain rfl:u=Value.bool true:=r';refine ⟨rfl,OldK.of_keep λb o e=>?_,os,bare⟩
      cases q:H b with
      | none=>exact un.keep b o e q (by intro z;exact absurd (show b∈([]:List Addr) from z) (by simp)) (by simp)
      | some u=>
        rcases hO b with z | ⟨ob,xs,z⟩
        ·rw [q] at z;cases z
        ·have z2:=un.frzs b ob _ z;obtain ⟨e1,_⟩:=hok b _ z;obtain ⟨e2,_⟩:=hok' b _ z2;rw [e] at e1;cases e1
         exact e2
 cases hk:K.lookup a with
 | some o=>
   -- the script is one of the module's own objects
   have e:=KX a o hk;rw [ha] at e
   cases e
   refine core (λ_=>none) (λ_=>.inl rfl) (.inr ⟨_,vs.toArray,_,hk,rfl,rfl,rfl,by rw [uf0,lenV];exact hl,by simpa using rv⟩) (λb u z=>by have z':(none:Option HO)=some u:=z;cases z') (λb z=>absurd rfl z) λz=>absurd rfl z
 | none=>
   refine core (λb=>if b=a then some (.frz { cls:=.type "list",data:=.seq vs.toArray } (.lst (ns.map V.int))) else none) (λb=>?_) (.inl (.inr ⟨{ cls:=.type "list",data:=.seq vs.toArray },if_pos rfl⟩)) (λb u z=>?_) (λb z=>?_) λ_=>hk
   ·by_cases hb:b=a
    ·exact .inr ⟨_,_,if_pos hb⟩
    ·exact .inl (if_neg hb)
   ·by_cases hb:b=a
    ·have z':=(if_pos hb).symm.trans z
     cases z'
     subst hb;exact ⟨ha,by rw [uh6];exact hl,vs,_,rv,ha⟩
    ·have z':=(if_neg hb).symm.trans z
     cases z'
   ·by_cases hb:b=a
    ·exact hb
    ·exact absurd (if_neg hb) z
theorem V6 {l:PySem.W.OpenLaw}{n k:Nat}{q:Program}{loose:List Str}{XP:(Str->Option Value)->Heap->Prop}{YP:World->Heap->Prop}{d:DefRec}{K:Params->PySem.W.Frag}{CX:World->CXT}{sp:World->Sp}{x:Str}
 (hn:l.most=some n) (hn2:n<=sizeLine) (hdf:d.params.defaults=[]) (hr:Room k callerA)
 (hY:∀(w:World) (h:Heap),YP w h->(K w.params).In h)
 (F:∀(w:World) (mg:Str->Option Value) (fa:Addr) (h:Heap),(K w.params).In h->h.Ns mainGlobals mg->mg d.name=some (.ref fa)->
   ∃fd:FuncData,(∀(s:Shared) (u:Value),BindsTo s fd ⟨[u],[]⟩ [(x,u)])/\
    ∀base:Heap,(K w.params).In base->base.Ns mainGlobals mg->FnOk l.prog w (K w.params) mg base (CX w) k fa fd [x] (sp w))
 (hsp:∀(w:World) (H:Hp) (a:Addr) (ns:List Int),ns.length<=n->N3 H->SqL (K w.params) H a (ns.map V.int)->sp w [.ref a] H (λv _=>v = .bl true) λ_ _ _=>False)
 (hCX:∀(w:World) (H:Hp) (s:Shared) (e:Value) (s':Shared),CX w [] H s (λ_ _ _=>False) e s'->False) :
 PySem.W.WalkO q loose XP YP l.row.toRowW d [] (λf vs=>PySem.call f vs):=by
 refine Att.attach_call hn hdf λw s₀ s₁ mg mb fa o pm cd doc a vs ns G Y ho hd hcd hmg hobj hints hlen hg=>?_;have KX:=hY w _ Y;obtain ⟨fd,hb,hF⟩:=F w mg fa _ KX G.T.g hmg;exact Sc KX G.T.g G.T.b G.T.builtins G.T.nolimit hg hobj hints (uk7 hlen hn2) hr hF hb (λH hO hS=>hsp w H a ns hlen hO hS) λH e s'=>hCX w H s₁ e s'
noncomputable def Cv (s:Stmt):Arguments:=match s with
 | .FunctionDef _ a _ _ _ _ _ _ _ _=>a
 | _=>{ posonlyargs:=[],args:=[],vararg:=none,kwonlyargs:=[],kw_defaults:=[],kwarg:=none,defaults:=[] }
noncomputable def A8 (s:Stmt):List Stmt:=match s with
 | .FunctionDef _ _ b _ _ _ _ _ _ _=>b
 | _=>[]
noncomputable def Al (s:Stmt):Scope:=match s with
 | .FunctionDef _ _ _ _ _ _ sc _ _ _=>sc
 | _=>{ kind:=.function,names:=[],isGenerator:=false,isCoroutine:=false }
abbrev CX0:CXT:=λ_ _ _ _ _ _=>False
abbrev E0:XK:=λ_ _ _=>False
theorem HU {X:Cx}:Fd CX0 X E0:=λ_ _ _ _ _ _ _ h=>h.elim
structure Fun (K:PySem.W.Frag)(x qual:Str)(st:Stmt)(f:Addr)(fd:FuncData):Prop where
 ex:∃(oc:Value) (od:Option Addr) (kV doc pm:Value) (an:Option Addr) (cdv ct:Value) (osl:Array (Option Value)),
  fd=PySem.W.fnOf x qual (Cv st) (A8 st) (Al st) .none kV doc pm an cdv ct/\K.lookup f=some ⟨oc,od,.func fd,osl⟩/\PySem.W.codeIn K cdv qual=true
 kp:PySem.W.keepIn K (.ref f)=true
variable {qual:Str}{f:Addr}
section
variable {P:Program}{w:World}{K:PySem.W.Frag}{mg:Str->Option Value}{base:Heap}
theorem Fun.ok {x:Str}{st:Stmt}{N ps:List Str}{k:Nat}{sp:Sp}(F:Fun K x qual st f fd)(S:FnScope N ps (Al st))(len:∀vs H Q E,sp vs H Q E->vs.length=ps.length)
 (hbody:∀(cdv:Value) (A:Around) (outer:List Env) (s:Shared) (H:Hp) (vs:List V) (Q:VK) (E:XK),Room k (A.deeper (envOfC qual (Al st) s.heap.objs.size f cdv))->sp vs H Q E->
   ∃t,PSs (Db CX0 P w K mg base N qual (Al st) f cdv A outer s H E).nox (A8 st) t/\t { nx:=λ_ H'=>Q .non H',rt:=Q } (Ct N vs) H):FnOk P w K mg base CX0 (k + 1) f fd ps sp:=by
 obtain ⟨oc,od,kV,doc,pm,an,cdv,ct,osl,rfl,lk,hcd⟩:=F.ex;refine TQ lk hcd S len λA outer s H vs Q E hr hsp=>?_;obtain ⟨t,h,q⟩:=hbody cdv A outer s H vs Q E hr hsp;exact ⟨t,h.nox,q⟩
theorem Fun.binds {x:Str}{st:Stmt}{ps:List Str}(F:Fun K x qual st f fd)
 (h:∀(kV doc pm:Value) (an:Option Addr) (cdv ct:Value) (us:List Value),us.length=ps.length->bindArgs (PySem.W.fnOf x qual (Cv st) (A8 st) (Al st) .none kV doc pm an cdv ct) ⟨us,[]⟩=pure (ps.zip us)):Binds K fd ps []:=by
 obtain ⟨oc,od,kV,doc,pm,an,cdv,ct,osl,rfl,lk,hcd⟩:=F.ex;exact .all (h kV doc pm an cdv ct)
theorem EL {x:Str}{st:Stmt}{oc:Value}{od an:Option Addr}{osl:Array (Option Value)}{kV doc pm cdv ct:Value}(l:K.lookup f=some ⟨oc,od,.func (PySem.W.fnOf x qual (Cv st) (A8 st) (Al st) .none kV doc pm an cdv ct),osl⟩)
 (c:PySem.W.codeIn K cdv qual=true) (k:PySem.W.keepIn K (.ref f)=true):Fun K x qual st f (PySem.W.fnOf x qual (Cv st) (A8 st) (Al st) .none kV doc pm an cdv ct):=⟨⟨oc,od,kV,doc,pm,an,cdv,ct,osl,rfl,l,c⟩,k⟩
end
section
variable {X:Cx}
end
def bY (H H':Hp):Prop:=∀b o,H b=some o->H' b=some o
section
variable {κ:Type}[DecidableEq κ]
noncomputable def DL (kvs:List (κ×V))(k:κ):Option V:=(kvs.find? λkv=>decide (kv.1=k)).map (·.2)
noncomputable def Fw (kvs:List (κ×V))(k:κ)(v:V):List (κ×V):=
 if (kvs.any λkv=>decide (kv.1=k))=true then kvs.map (λkv=>if kv.1=k then (kv.1,v) else kv) else kvs++[(k,v)]
theorem GL {p:κ×V}{r:List (κ×V)}{k:κ}(e:p.1=k):DL (p :: r) k=some p.2:=by simp [DL,ui1,e]
theorem GK {p:κ×V}{r:List (κ×V)}{k:κ}(e:¬p.1=k):DL (p :: r) k=DL r k:=by simp [DL,ui1,e]
theorem M6 (kvs:List (κ×V))(k:κ)(v:V):(Fw kvs k v).length<=kvs.length + 1:=by
 unfold Fw
 split
 ·rw [uh6];lia
 ·rw [ue3,ug1,ui2];lia
theorem RelO.isSome_eq {o:Option V}{u:Option Value}(r:RelO o u):o.isSome=u.isSome:=by
 cases o with
 | none=>cases u with
   | none=>rfl
   | some _=>exact (show False from r).elim
 | some _=>cases u with
   | none=>exact (show False from r).elim
   | some _=>rfl
theorem KV.val {kvs:List (κ×V)}{vs:List (κ×Value)}(r:KV kvs vs)(k:κ):RelO (DL kvs k) (valueAt vs k):=by
 unfold KV at r
 induction r with
 | nil=>exact True.intro
 | @cons p q ps qs h t ih=>
   obtain ⟨h1,h2⟩:=h
   by_cases e:p.1=k
   ·have e':q.1=k:=h1.symm.trans e;have b:valueAt (q :: qs) k=some q.2:=by simp [valueAt,ui1,e']
    rw [GL e,b];exact h2
   ·have e':¬q.1=k:=λz=>e (h1.trans z);have b:valueAt (q :: qs) k=valueAt qs k:=by simp [valueAt,ui1,e']
    rw [GK e,b];exact ih
theorem KV.any {kvs:List (κ×V)}{vs:List (κ×Value)}(r:KV kvs vs)(k:κ):(kvs.any λkv=>decide (kv.1=k))=vs.any λkv=>decide (kv.1=k):=by
 unfold KV at r
 induction r with
 | nil=>rfl
 | cons h t ih=>rw [uj8,uj8,ih,h.1]
theorem KV.repl {kvs:List (κ×V)}{vs:List (κ×Value)}(r:KV kvs vs)(k:κ){y:V}{u:Value}(ry:RelV y u) :
 KV (kvs.map λkv=>if kv.1=k then (kv.1,y) else kv) (vs.map λkv=>if kv.1=k then (kv.1,u) else kv):=by
 unfold KV at r ⊢
 induction r with
 | nil=>exact .nil
 | @cons p q ps qs h t ih=>
   rw [uj6,uj6];refine .cons ?_ ih;obtain ⟨h1,h2⟩:=h
   by_cases e:p.1=k
   ·rw [if_pos e,if_pos (h1.symm.trans e)];exact ⟨h1,ry⟩
   ·rw [if_neg e,if_neg (λz=>e (h1.trans z))];exact ⟨h1,h2⟩
theorem KV.put {kvs:List (κ×V)}{vs:List (κ×Value)}(r:KV kvs vs)(k:κ){y:V}{u:Value}(ry:RelV y u):KV (Fw kvs k y) (stored vs k u):=by
 unfold Fw stored;rw [r.any k]
 by_cases e:(vs.any λkv=>decide (kv.1=k))=true
 ·rw [if_pos e,if_pos e];exact r.repl k ry
 ·rw [if_neg e,if_neg e];exact Paired.snoc r ⟨rfl,ry⟩
theorem KV.length {kvs:List (κ×V)}{vs:List (κ×Value)}(r:KV kvs vs):kvs.length=vs.length:=Paired.length r
end
theorem Lq {k:Key}{u:Value}(r:RelV (kV k) u):(B2 P w).is k u=true:=by
 cases k with
 | inl i=>obtain ⟨t,e⟩:=(show ∃t,u=Value.int i t from r);subst e;exact M7 P w i t
 | inr x=>obtain ⟨t,e⟩:=(show ∃t,u=Value.str x t from r);subst e;exact M8 P w x t
theorem KN {P:Program}{w:World}:∀{ks:List Key} {us:List Value},Vals (ks.map kV) us->ItemsAre (B2 P w) ks us
 | [],_,r=>by rw [ul0] at r;cases r;exact .nil
 | k :: ks,_,r=>by
   rw [uj6] at r
   cases r with
   | cons h t=>exact .cons (Lq h) (KN t)
abbrev KT (H:Hp):List (List Key×V)->List (List Key×Addr×Value)->Prop:=Paired λp q=>p.1=q.1/\H q.2.1=some (.tup (p.1.map kV))/\RelV p.2 q.2.2
variable {H:Hp}
theorem KT.val {kvs:List (List Key×V)}{xs:List (List Key×Addr×Value)}(r:KT H kvs xs)(k:List Key):RelO (DL kvs k) ((atKey xs k).map (·.2)):=by
 induction r with
 | nil=>exact True.intro
 | @cons p q ps qs h t ih=>
   obtain ⟨h1,_,h2⟩:=h
   by_cases e:p.1=k
   ·have e':q.1=k:=h1.symm.trans e;have b:atKey (q :: qs) k=some q.2:=by simp [atKey,ui1,e']
    rw [GL e,b];exact h2
   ·have e':¬q.1=k:=λz=>e (h1.trans z);have b:atKey (q :: qs) k=atKey qs k:=by simp [atKey,ui1,e']
    rw [GK e,b];exact ih
variable {kvs:List (Key×V)}
section
variable {P:Program}{w:World}{H:Hp}{h:Heap}{a:Addr}
theorem T0 {u:HO}(ok:HOk P w H h)(e:Rd H a u):ObjOk P w H h a u:=e.ok ok
theorem TJ (ok:HOk P w H h)(e:Rd H a (.dK kvs)):kvs.length<=sizeLine/\(a == sysModules)=false/\∃vs,KV kvs vs/\h.DictOf (B2 P w) a vs:=
 show ObjOk P w H h a (.dK kvs) from T0 ok e
theorem Of (ok:HOk P w H h)(e:H a=some (.dK kvs)):kvs.length<=sizeLine/\(a == sysModules)=false/\∃vs,KV kvs vs/\h.DictOf (B2 P w) a vs:=TJ ok (.inl e)
theorem P9 {ks:List Key}(ok:HOk P w H h)(e:H a=some (.tup (ks.map kV))):(tupleKind (B2 P w)).is h ks a:=by
 obtain ⟨_,its,r,o,h1,h2,n,h3⟩:=(show ObjOk P w H h a (.tup (ks.map kV)) from ok a _ e);exact ⟨o,its.toArray,n,h1,h2,h3,by simpa using KN r⟩
theorem YG {kvs:List (List Key×V)}(ok:HOk P w H h)(e:Rd H a (.dT kvs)):kvs.length<=sizeLine/\(a == sysModules)=false/\
 ∃xs,KT H kvs xs/\h.DictOfH (tupleKind (B2 P w)) a xs:=by
 obtain ⟨z,y,xs,r,o,es,ep,h1,h2,h3,h4,h5⟩:=(show ObjOk P w H h a (.dT kvs) from T0 ok e);refine ⟨z,y,xs,r,o,es,ep,h1,h2,h3,h4,λx hx=>?_,h5⟩;have all:∀{l:List (List Key×V)} {m:List (List Key×Addr×Value)},KT H l m->∀x∈m,(tupleKind (B2 P w)).is h x.1 x.2.1:=by
  intro l m q
  induction q with
  | nil=>intro x hx;exact nomatch hx
  | @cons p q ps qs hq t ih=>
    intro x hx;rcases uj5.mp hx with e | hx
    ·subst e;exact P9 ok (by rw [<-hq.1];exact hq.2.1)
    ·exact ih x hx
 exact all r x hx
end
def DGet (H:Hp)(a:Addr)(y:V)(r:Option V):Prop:=
 (∃kvs k,Rd H a (.dK kvs)/\y=kV k/\r=DL kvs k)\/∃kvs k b,Rd H a (.dT kvs)/\y = .ref b/\H b=some (.tup (k.map kV))/\r=DL kvs k
def bV (H:Hp)(a:Addr)(y v:V)(H':Hp):Prop:=
 (∃kvs k,H a=some (.dK kvs)/\y=kV k/\kvs.length < sizeLine/\H'=upd H a (.dK (Fw kvs k v)))\/
 ∃kvs k b,H a=some (.dT kvs)/\y = .ref b/\H b=some (.tup (k.map kV))/\kvs.length < sizeLine/\H'=upd H a (.dT (Fw kvs k v))
theorem DGet.k {a:Addr}{k:Key}(e:H a=some (.dK kvs)):DGet H a (kV k) (DL kvs k):=.inl ⟨kvs,k,.inl e,rfl,rfl⟩
section
variable {X:Cx}{pins:List (Addr×Obj)}{σ:St}{H:Hp}{s:Shared}{a:Addr}{y v:V}{u r:Value}{o:Option V}{A:Around}{E:Value->Shared->Prop}
theorem Inv.big (I:Inv X pins σ H s):sysModules < s.heap.objs.size:=by
 have h:mainGlobals < s.heap.objs.size:=(I.mod.glob.keeps I.bk).lt;exact Nat.lt_trans (by decide) h
theorem ac {Q:Value->Shared->Prop}(hu:A.units + 1 < cLine)(I:Inv X pins σ H s)(g:DGet H a y o)(ry:RelV y u)(h:∀s',Inv X pins σ H s'->Q (.bool o.isSome) s') :
 wpAny (model X.prog X.w) A (compareOp .In u (.ref a)) Q E s:=by
 rcases g with ⟨kvs,k,e,ey,l⟩ | ⟨kvs,k,b,e,ey,eb,l⟩
 ·subst ey;obtain ⟨z,hd,vs,rel,dd⟩:=TJ I.hok e;refine wpAny_in_of (Lq ry) hd dd.mapOf ?_;rw [<-(rel.val k).isSome_eq,<-l];exact h _ (I.tok _)
 ·subst ey
  cases (show u=Value.ref b from ry)
  obtain ⟨z,hd,xs,rel,dd⟩:=YG I.hok e;refine wpAny_in_heap (tupleKind_room_in1 hu) (P9 I.hok eb) hd dd ?_;have q:=(rel.val k).isSome_eq;rw [Option.isSome_map] at q;rw [<-q,<-l];exact h _ (I.tok _)
theorem Um {h':Heap}{t':Nat}{ob:HO}(I:Inv X pins σ H s)(mu:Mut (H a))(hs:Heap.SameBut a s.heap h')(he:∃q,h'.get? a=some q)(new:ObjOk X.prog X.w (upd H a ob) h' a ob) :
 Inv X pins σ (upd H a ob) { s with heap:=h',toks:=t' }:=
 I.write (x:=a) (e:=a) mu (.inl rfl) (λb q hb z=>(hs.2 b hb).trans z) he new
theorem Pn {H':Hp}{h':Heap}{vs:List (Key×Value)}(z:kvs.length<=sizeLine)(hd:(a == sysModules)=false)(rel:KV kvs vs)(dd:h'.DictOf (B2 P w) a vs) :
 ObjOk P w H' h' a (.dK kvs):=⟨z,hd,vs,rel,dd⟩
end
section
variable {X:Cx}{pins:List (Addr×Obj)}{σ:St}{H:Hp}{s:Shared}{a:Addr}{kvs:List (Key×V)}{k:Key}{u:Value}{A:Around}{E:Value->Shared->Prop}
end
section
variable {X:Cx}{o i e value:Expr}{pos pos' tpos:Pos}{td ty tv:TE}
end
theorem Rr (h:Heap)(hb:sysModules < h.objs.size):ObjOk P w H (h.push { cls:=.type "dict",data:=.dict #[] }) h.objs.size (.dK []):=
 ⟨ul6 _,beq_eq_false_iff_ne.mpr (Ne.symm (uk6 hb)),[],.nil,Heap.DictOf.new h⟩
def Yi:TE:=λ_ H Q=>∀p,H p=none->Q (.ref p) (upd H p (.dK []))
section
variable {X:Cx}{pos:Pos}
theorem SG:PE X (.Dict [] [] pos) Yi:=λpins s σ H Q I h=>
 wpAny_Dict_empty ⟨.ref s.heap.objs.size,_,I.laid (a:=s.heap.objs.size) (o:=.dK []) (t':=s.toks) (λ_ _ q=>ub9 _ q) (ul5 _) (Rr s.heap I.big),rfl,h _ (I.hok.fresh (ul5 _))⟩
end
theorem Fg {env:Env}:∀(l:List (Str×NameKind)) (cs:List (Str×Addr)),(∀x c,cs.lookup x=some c->env.cells.lookup x=some c)->(∀y∈l,y.2 = .free->∃c,env.cells.lookup y.1=some c)->
 ∃cl,(forIn l cs λ(x:Str×NameKind) r=>(match x with | (name,kind)=>if (kind == NameKind.free)=true then do let c <-cellOf env name;pure (ForInStep.yield ((name,c) :: r)) else pure (ForInStep.yield r):Sem (ForInStep (List (Str×Addr)))))=pure cl/\
  (∀x c,cl.lookup x=some c->env.cells.lookup x=some c)/\(∀x c,cs.lookup x=some c->∃c',cl.lookup x=some c')/\∀y∈l,y.2 = .free->∃c,cl.lookup y.1=some c
 | [],cs,h,_=>⟨cs,rfl,h,λ_ c e=>⟨c,e⟩,λ_ z=>nomatch z⟩
 | (n,k) :: l,cs,h,hf=>by
   by_cases hk:k = .free
   ·subst hk;obtain ⟨c,hc⟩:=hf (n,.free) ud9 rfl;have hc':env.cells.lookup n=some c:=hc;have e:cellOf env n=pure c:=by unfold cellOf;rw [hc']
    obtain ⟨cl,e1,e2,e3,e4⟩:=Fg l ((n,c) :: cs) (λx c' q=>by
     rw [ug6] at q
     by_cases hx:(x == n)=true
     ·rw [hx] at q;cases q;rw [eq_of_beq hx];exact hc'
     ·rw [uf5.mpr hx] at q;exact h x c' q) (λy hy=>hf y (uc9 _ hy))
    have self:((n,c) :: cs).lookup n=some c:=by rw [ug6,uh3]
    refine ⟨cl,?_,e2,λx c' q=>?_,λy hy hyf=>?_⟩
    ·rw [List.forIn_cons];simp only [uh3,if_true,e];exact e1
    ·by_cases hx:(x == n)=true
     ·rw [eq_of_beq hx];exact e3 n c self
     ·exact e3 x c' (by rw [ug6,uf5.mpr hx];exact q)
    ·rcases uj5.mp hy with z | z
     ·subst z;exact e3 n c self
     ·exact e4 y z hyf
   ·have hb:(k == NameKind.free)=false:=by simpa using hk
    obtain ⟨cl,e1,e2,e3,e4⟩:=Fg l cs h (λy hy=>hf y (uc9 _ hy));refine ⟨cl,?_,e2,e3,λy hy hyf=>?_⟩
    ·rw [List.forIn_cons];simp only [hb,ue4,if_false];exact e1
    ·rcases uj5.mp hy with z | z
     ·subst z;exact absurd hyf hk
     ·exact e4 y z hyf
theorem Oe {scope:Scope}{env:Env}(h:∀y∈scope.names,y.2 = .free->∃c,env.cells.lookup y.1=some c) :
 ∃cl,closureFor scope env=pure cl/\(∀x c,cl.lookup x=some c->env.cells.lookup x=some c)/\∀y∈scope.names,y.2 = .free->∃c,cl.lookup y.1=some c:=by
 obtain ⟨cl,e1,e2,_,e4⟩:=Fg (env:=env) scope.names [] (λ_ _ q=>nomatch q) h;refine ⟨cl,?_,e2,e4⟩;simp only [closureFor]
 first | (rw [e1];rfl) | (simp only [e1];rfl) | (trace_state;exact e1)
theorem L6 {prog:Program}{A:Around}{R:Result->Shared->Prop}{s:Shared}{elt target iter:Expr}{ifs:List Expr}{scope:Scope}{pos:Pos}{it acc:Value}{env:Env}(I:Nat->Shared->Prop)
 (turn:∀n s,I n s->wpAny (model prog w) A (pyNext it) (λr s₁=>match r with
   | none=>R (.ok .next) s₁
   | some v=>wpAny (model prog w) A (letOwnedTupleGo target it v) (λ_ s₁'=>wpAny (model prog w) A (assign target env v) (λ_ s₂=>
      wpAny (model prog w) A (forIn ifs true λc r=>if r=true then do let ok <-isTrue c env (eval c env);pure (ForInStep.yield ok) else pure (ForInStep.yield r)) (λok s₃=>
       if ok=true then wpAny (model prog w) A (eval elt env) (λx s₄=>
        wpAny (model prog w) A (call (.builtin "list.append") [acc,x]) (λ_ s₅=>∃m,m < n/\I m s₅) (λ_ _=>False) s₄) (λ_ _=>False) s₃
       else ∃m,m < n/\I m s₃) (λ_ _=>False) s₂) (λ_ _=>False) s₁') (λ_ _=>False) s₁) (λ_ _=>False) s)
 (n:Nat) (h:I n s) :
 codeAny (model prog w) A (.compLoop (.ListComp elt [⟨target,iter,ifs,0⟩] scope pos) 0 it acc env) R s:=by
 refine codeAny_loop rfl I (λn s hI=>?_) n h;show wpAny _ A ((compTurn (.ListComp elt [⟨target,iter,ifs,0⟩] scope pos) 0 it acc env).onRaise (λx=>do noteFrame x env;theTreesLotGoes x)) _ _ s;refine wpAny_noted ?_;rw [compTurn_list];refine um0 (wpAny_standAt (um0 (um2 (turn n s hI) (λr s₁ h₁=>?_) λ_ _ h'=>h'.elim)))
 cases r with
 | none=>exact um1 h₁
 | some v=>
   refine um0 (um2 h₁ (λ_ s₁' h₁'=>?_) λ_ _ h'=>h'.elim);refine um0 (um2 h₁' (λ_ s₂ h₂=>um0 (um2 h₂ (λok s₃ h₃=>?_) λ_ _ h'=>h'.elim)) λ_ _ h'=>h'.elim)
   cases ok with
   | false=>exact um1 ⟨rfl,h₃⟩
   | true=>
     exact um0 (um0 (um2 h₃ (λx s₄ h₄=>um0 (um2 h₄ (λ_ s₅ h₅=>um1 (um1 ⟨rfl,h₅⟩)) λ_ _ h'=>h'.elim)) λ_ _ h'=>h'.elim))
end L2
set_option maxHeartbeats 2000000
namespace L2
open PySem PySem.Spec PyProof.Rows
noncomputable def B9 (X:Cx)(N':List Str)(scope:Scope)(cl:List (Str×Addr))(C:Addr)(s2:Shared)(H2:Hp)(fp:List Addr):Cx where
 prog:=X.prog
 w:=X.w
 K:=X.K
 mg:=X.mg
 base:=X.base
 A:=X.A
 N:=N'
 s₀:=s2
 H₀:=H2
 env:=compEnvC scope cl C X.env
 outer:=X.stack
 stack:=X.stack
 ex:=fp
 fn:=λ_=>false
 calm:=X.calm
 pn:=[]
 xe:=λ_ _=>False
theorem Ie (h:Str->NameKind->NameKind)(x:Str):∀l:List (Str×NameKind),(l.map λp=>(p.1,h p.1 p.2)).lookup x=(l.lookup x).map (h x)
 | []=>rfl
 | (n,k) :: l=>by
   show List.lookup x ((n,h n k) :: _)=_;rw [ug6,ug6]
   by_cases hx:(x == n)=true
   ·rw [hx,eq_of_beq hx];rfl
   ·rw [uf5.mpr hx];exact Ie h x l
theorem F8 (scope:Scope)(env:Env)(x:Str):(relabel scope env).names.lookup x=(scope.names.lookup x).map λk=>if (k == .free && env.scope.kind == .function && env.kindOf x == some .cell)=true then .cell else k:=by
 rw [<-Ie (λn k=>if (k == NameKind.free && env.scope.kind == .function && env.kindOf n == some .cell)=true then .cell else k) x scope.names];unfold relabel;dsimp only
 congr 1
 apply ud7;intro p _;obtain ⟨n,k⟩:=p;dsimp only
 split <;> rfl
theorem Cy {x:Str}{k:NameKind}:∀{l:List (Str×NameKind)},l.lookup x=some k->(x,k)∈l
 | (n,k') :: l,h=>by
   rw [ug6] at h
   by_cases hx:(x == n)=true
   ·rw [hx] at h;cases h;rw [eq_of_beq hx];exact ud9
   ·rw [uf5.mpr hx] at h;exact uc9 _ (Cy h)
theorem MF {scope:Scope}{env:Env}{x:Str}(hcell:∀y∈scope.names,y.2≠.cell)(h:(relabel scope env).names.lookup x=some .cell\/(relabel scope env).names.lookup x=some .free):scope.names.lookup x=some .free:=by
 rw [F8] at h
 cases e:scope.names.lookup x with
 | none=>rw [e] at h;rcases h with h | h <;> cases h
 | some k=>
   by_cases hk:k = .free
   ·rw [hk]
   ·have hb:(k == NameKind.free)=false:=by simpa using hk
    rw [e] at h;simp only [ui3,hb,uj0,ue4,if_false] at h;rcases h with h | h
    ·cases h;exact absurd rfl (hcell _ (Cy e))
    ·cases h;exact absurd rfl hk
def PIf (X:Cx)(ifs:List Expr)(t:TT):Prop:=
 ∀(pins:List (Addr×Obj)) (s:Shared) (σ:St) (H:Hp) (Q:Bool->Hp->Prop),Inv X pins σ H s->t σ H Q->
  wpAny (model X.prog X.w) X.A (forIn ifs true λc r=>if r=true then do let ok <-isTrue c X.env (eval c X.env);pure (ForInStep.yield ok) else pure (ForInStep.yield r)) (TP X pins σ Q) X.xe s
def Zj:TT:=λ_ H Q=>Q true H
theorem Vb {X:Cx}:PIf X [] Zj:=λ_ _ _ H _ I h=>wpAny_tests_nil ⟨H,I,h⟩
theorem Vc {X:Cx}{c:Expr}{t:TT}(h:PT X c t):PIf X [c] t:=λpins s σ H Q I q=>wpAny_tests_one (h pins s σ H Q I q)
def QP (J:It)(g:TG)(tt:TT)(te:TE)(σ₀:St)(H1:Hp)(Fin:List V->Hp->Prop):Prop:=
 ∃W:Nat->Nat->List V->St->Hp->Prop,(∃m,W 0 m [] σ₀ H1)/\∀i m acc σ' H',W i m acc σ' H'->acc.length<=sizeLine/\
  ((J.stop i H'/\Fin acc H')\/
    (J.go i H'/\∀x H2,J.yld i H' x H2->g x σ' H2 λσ3 H3=>tt σ3 H3 λb H4=>if b=true then te σ3 H4 λv H5=>∃m',m' < m/\W (i + 1) m' (acc++[v]) σ3 H5 else ∃m',m' < m/\W (i + 1) m' acc σ3 H4))
def Lu (wi:TI)(g:TG)(tt:TT)(te:TE)(σf:St->St):TE:=λσ H Q=>wi σ H λJ H1=>QP J g tt te (σf σ) H1 λacc H'=>∀p,H' p=none->acc.length<=sizeLine->Q (.ref p) (upd H' p (.lst acc))
structure CmpOk (X:Cx)(scope:Scope)(N':List Str)(σf:St->St):Prop where
 kind:scope.kind = .function
 cell:∀y∈scope.names,y.2≠.cell
 loc:∀y∈scope.names,y.2 = .local->scope.names.lookup y.1=some .local
 free:∀y∈scope.names,y.2 = .free->X.env.kindOf y.1=some .cell\/X.env.kindOf y.1=some .free
 len:∀σ:St,σ.length=X.N.length->(σf σ).length=N'.length
 vals:∀(σ:St) (j:Nat) (x:Str) (v:V),N'[j]?=some x->(σf σ)[j]?=some (some v)->∃i:Nat,X.N[i]?=some x/\σ[i]?=some (some v)/\scope.names.lookup x=some .free
variable {pins:List (Addr×Obj)}{σ:St}{H2:Hp}{s2:Shared}{cl:List (Str×Addr)}{fp:List Addr}
section
variable {X:Cx}{tg elt iter:Expr}{ifs:List Expr}{scope:Scope}{pos:Pos}{N':List Str}{wi:TI}{g:TG}{tt:TT}{te:TE}{σf:St->St}
theorem Wv {C:Addr}(O:CmpOk X scope N' σf)(I2:Inv X pins σ H2 s2)(f2:∀b∈fp,FpOk X pins H2 b)(hC:s2.heap.objs.size<=C)
 (hlt:∀b∈fp,b < s2.heap.objs.size) (e2:∀x c,cl.lookup x=some c->X.env.cells.lookup x=some c) (e4:∀y∈scope.names,y.2 = .free->∃c,cl.lookup y.1=some c):(B9 X N' scope cl C s2 H2 fp).Ok where
 mod:=I2.ok.mod
 kind:=O.kind
 glob:=I2.ok.glob
 blt:=I2.ok.blt
 above:=hC
 inj:=λx y c h1 h2=>I2.ok.inj x y c (e2 x c h1) (e2 y c h2)
 has:=λx h=>by
  have q:=MF (env:=X.env) (x:=x) O.cell h;exact e4 _ (Cy q) rfl
 cab:=λx c h _=>nomatch h
 hd:=I2.ok.hd
 frames:=I2.ok.frames
 stk:=.inl rfl
 exf:=λb hb=>⟨uk6 (ud8 (hlt b hb) hC),λx c e=>(f2 b hb).2.2.2.2.1 x c (e2 x c e)⟩
 bs:=I2.bs
 bsz:=uk7 I2.ok.bsz I2.sz
 noex:=λb o e hb=>by
  rcases (f2 b hb).2.2.2.1 with z | z
  ·exact I2.ok.noex b o e z
  ·exact absurd (ud8 (uk5 (I2.ok.bs b o e).1) z) (uj4 _)
 exfs:=λb hb z=>by
  rcases uj5.mp (I2.stkSub b z) with q | q
  ·exact (f2 b hb).2.1 q
  ·exact (f2 b hb).2.2.1 q
 funs:=I2.stack
 frf:=I2.stkFree
theorem Ye (I2:Inv X pins σ H2 s2){a:Addr}(h:s2.heap.objs.size<=a):a∉frs X.stack:=λhb=>by
 rcases uj5.mp (I2.stkSub a hb) with q | q
 ·exact absurd (ud8 I2.lt h) (by rw [q];exact uj4 _)
 ·exact I2.nofs h q
theorem Rl {it:Addr}{tn:Nat->Heap->Prop}{J:It}{Fin:List V->Hp->Prop}{RR:Value->Addr->Result->Shared->Prop}{E:Value->Shared->Prop}(O:CmpOk X scope N' σf)(hc:X.calm=true)
 (I2:Inv X pins σ H2 s2) (T:Turn X.prog X.w X.K tg J fp it tn) (st2:tn 0 s2.heap) (f2:∀b∈fp,FpOk X pins H2 b)
 (e2:∀x c,cl.lookup x=some c->X.env.cells.lookup x=some c) (e4:∀y∈scope.names,y.2 = .free->∃c,cl.lookup y.1=some c)
 (hg:∀C,PG (B9 X N' scope cl C s2 H2 fp) tg g) (ht:∀C,PIf (B9 X N' scope cl C s2 H2 fp) ifs tt) (he:∀C,PE (B9 X N' scope cl C s2 H2 fp) elt te)
 (B:QP J g tt te (σf σ) H2 Fin)
 (fin:∀C s' σ' H' acc m,s2.heap.objs.size<=C->C≠s2.heap.objs.size->Inv (B9 X N' scope cl C s2 H2 fp) [] σ' H' s'->H' s2.heap.objs.size=none->acc.length<=sizeLine->(∃its n,Vals acc its/\s'.heap.get? s2.heap.objs.size=some { cls:=.type "list",data:=.seq its.toArray n })->Fin acc H'->s'.heap.Ns C m->
   RR (.ref s2.heap.objs.size) C (.ok .next) s') :
 wpAny (model X.prog X.w) X.A (newList []) (λacc s₃=>wpAny (model X.prog X.w) X.A (newFunctionEnv scope X.env.globals cl [] X.env.qual none .none (some X.env)) (λcenv s₄=>
  codeAny (model X.prog X.w) X.A (.compStart (.ListComp elt [⟨tg,iter,ifs,0⟩] scope pos) 0 (.ref it) acc { cenv with scope:=relabel scope X.env }) (RR acc cenv.locals) s₄) E s₃) E s2:=by
 refine wpAny_newObj_type (wpAny_newFunctionEnv O.cell (by intro y hy;simp at hy) (λh₁ hns₁ hsb₁=>?_) O.kind);dsimp only at hns₁ hsb₁ ⊢;generalize hH2:s2.heap.push { cls:=.type "list",dict:=none,data:=.seq ([]:List Value).toArray }=HP at hns₁ hsb₁ ⊢;have hC:HP.objs.size=s2.heap.objs.size + 1:=by rw [<-hH2,Heap.size_push]
 generalize hDD:s2.heap.objs.size=DD at *;generalize hCC:HP.objs.size=CC at *;have hDC:DD≠CC:=by rw [hC];exact uk6 (ug2 _)
 have hCle:s2.heap.objs.size<=CC:=by rw [hC,hDD];exact ul7 _
 have hlt:∀b∈fp,b < s2.heap.objs.size:=λb hb=>by obtain ⟨o,e,_⟩:=T.obj _ _ st2 b hb;exact uk5 e
 have hlt':∀b∈fp,b < DD:=λb hb=>by rw [<-hDD];exact hlt b hb
 have below:∀b,b < DD->b≠CC/\b≠DD:=λb hb=>⟨by rw [hC];exact uk6 (Nat.lt_succ_of_lt hb),uk6 hb⟩;have old:∀b o,s2.heap.get? b=some o->h₁.get? b=some o:=λb o e=>hsb₁.extBut b o (below b (by rw [<-hDD];exact uk5 e)).1 (ub9 _ (hH2 ▸ ub9 _ e));have hacc:h₁.get? DD=some { cls:=.type "list",data:=.seq ([]:List Value).toArray }:=by
  refine hsb₁.extBut _ _ hDC (ub9 _ ?_);rw [<-hH2,<-hDD];exact ud4 _ rfl
 have ok:=Wv (cl:=cl) (C:=CC) O I2 f2 hCle hlt e2 e4;have hfs:DD∉frs X.stack:=Ye I2 (by rw [hDD];exact ul5 _);obtain ⟨W,⟨m0,w0⟩,turn⟩:=B
 let X':Cx:=B9 X N' scope cl CC s2 H2 fp
 have I0:Inv X' [] (σf σ) H2 { s2 with heap:=h₁,toks:=s2.toks + ([]:List (Str×Value)).length }:=by
  refine ⟨ok,rfl,I2.bare,Un.kept old,⟨_,hns₁,λj x v q1 q2 q3=>?_⟩,λx c e=>?_,I2.hok.fresh hCle,λx c e=>I2.freeC x c (e2 x c e),(λp hp=>nomatch hp),I2.hok.kept old,O.len σ I2.len⟩
  ·obtain ⟨i,n1,n2,n3⟩:=O.vals σ j x v q1 q2;obtain ⟨m,_,hl⟩:=I2.loc;have hfr:=O.free _ (Cy n3) rfl;obtain ⟨u,r,l⟩:=hl i x v n1 n2 (.inr hfr);refine ⟨u,r,?_⟩;rcases l with ⟨k,_⟩ | ⟨_,c,ec,hcell⟩
   ·rcases hfr with z | z <;> (have z':=k.symm.trans z;cases z')
   ·obtain ⟨c',ec'⟩:=e4 _ (Cy n3) rfl;have z:=e2 _ _ ec';have ez:X.env.cells.lookup x=some c':=z;rw [ec] at ez
    cases ez
    refine .inr ⟨?_,c,ec',?_⟩
    ·show (relabel scope X.env).names.lookup x=some .cell\/(relabel scope X.env).names.lookup x=some .free;rw [F8,n3];simp only [ui3]
     split
     ·exact .inl rfl
     ·exact .inr rfl
    ·obtain ⟨o,ho,hd⟩:=hcell;exact ⟨o,old _ _ ho,hd⟩
  ·obtain ⟨v,o,ho,hd⟩:=I2.cell x c (e2 x c e);exact ⟨v,o,old _ _ ho,hd⟩
 have loop:∀s₃:Shared,s₃ = { s2 with heap:=h₁,toks:=s2.toks + ([]:List (Str×Value)).length }->
  codeAny (model X.prog X.w) X.A (.compLoop (.ListComp elt [⟨tg,iter,ifs,0⟩] scope pos) 0 (.ref it) (.ref DD) (compEnvC scope cl CC X.env)) (RR (.ref DD) CC) s₃:=by
  rintro s₃ rfl;refine L6 (λn s'=>∃i acc its nn σ' H',Inv X' [] σ' H' s'/\tn i s'.heap/\(∀b∈fp,H' b=none)/\Vals acc its/\s'.heap.get? DD=some { cls:=.type "list",data:=.seq its.toArray nn }/\H' DD=none/\W i n acc σ' H') ?_ m0
   ⟨0,[],[],0,σf σ,H2,I0,T.keep _ _ _ st2 (λb _ o e=>old b o e),λb hb=>(f2 b hb).1,.nil,hacc,I2.hok.fresh (by rw [hDD];exact ul5 _),w0⟩
  rintro n s' ⟨i,acc,its,nn,σ3,H3,I3,st3,fr3,hv,hD,hDn,w3⟩;have I3p:Inv X' [(DD,({ cls:=.type "list",data:=.seq its.toArray nn }:Obj))] σ3 H3 s':=I3.pins_of λp hp=>by
   have e:p=(DD,({ cls:=.type "list",data:=.seq its.toArray nn }:Obj)):=by simpa using hp
   subst e;exact ⟨hD,hDn,hDC,hfs,λv z=>nomatch z⟩
  have stat:∀{pins':List (Addr×Obj)} {H':Hp},(∀p∈pins',p.1=DD)->(∀b∈fp,H' b=none)->∀b∈fp,FpOk X' pins' H' b:=λ{pins' H'} hp hn b hb=>
   ⟨hn b hb,(ok.exf b hb).1,ok.exfs b hb,.inl hb,(ok.exf b hb).2,λp hp' z=>by
    have e:p.1=DD:=hp p (by simpa [X',B9] using hp');exact absurd (hlt' b hb) (by rw [<-z,e];exact uj4 _)⟩
  have one:∀p∈[(DD,({ cls:=.type "list",data:=.seq its.toArray nn }:Obj))],p.1=DD:=λp hp=>by
   have e:p=(DD,({ cls:=.type "list",data:=.seq its.toArray nn }:Obj)):=by simpa using hp
   rw [e]
  obtain ⟨hz,tr⟩:=turn i n acc σ3 H3 w3;rcases tr with ⟨stop,qf⟩ | ⟨go,step⟩
  ·refine thn (T.done X' rfl rfl rfl hc i _ s' σ3 H3 (λ_ _=>False) I3p (stat one fr3) st3 stop) λr s4 z9=>?_;obtain ⟨hr,I4⟩:=z9;subst hr;obtain ⟨m4,hm4,_⟩:=I4.loc;have pD:=(I4.pin (DD,({ cls:=.type "list",data:=.seq its.toArray nn }:Obj)) (by simp [X',B9])).1;have I4':Inv X' [] σ3 H3 s4:=I4.pins_of λp hp=>nomatch hp;exact fin CC s4 σ3 H3 acc m4 (by rw [hDD] at hCle;exact hCle) (Ne.symm hDC) I4' hDn hz ⟨its,nn,hv,pD⟩ qf hm4
  ·refine thn (T.item X' rfl rfl rfl hc i _ s' σ3 H3 (λ_ _=>False) I3p (stat one fr3) st3 go) λr s4 z9=>?_;obtain ⟨u,hr,h4⟩:=z9;subst hr;refine thn h4 λ_ s5 z9=>?_;obtain ⟨x,H5,I5,r5,y5,st5,fr5⟩:=z9;have I5':=I5.pinned (stat one fr5) (T.obj _ _ st5);refine thn (hg CC _ s5 σ3 H5 x u _ I5' r5 (step x H5 y5)) λ_ s6 z9=>?_;obtain ⟨σ6,H6,I6,q6⟩:=z9;refine thn (ht CC _ s6 σ6 H6 _ I6 q6) λb s7 z9=>?_;obtain ⟨H7,I7,q7⟩:=z9;have back:∀{H8:Hp} {s8:Shared},Inv X' ([(DD,({ cls:=.type "list",data:=.seq its.toArray nn }:Obj))]++Ho fp s5.heap) σ6 H8 s8->
    s8.heap.get? DD=some { cls:=.type "list",data:=.seq its.toArray nn }/\H8 DD=none/\tn (i + 1) s8.heap/\(∀b∈fp,H8 b=none)/\Inv X' [] σ6 H8 s8:=λ{H8 s8} I8=>by
    have p1:=I8.pin (DD,({ cls:=.type "list",data:=.seq its.toArray nn }:Obj)) (by simp [X',B9]);refine ⟨p1.1,p1.2.1,T.keep _ _ _ st5 λb hb o e=>(I8.pin (b,o) (uc5 _ (uc5 _ (E8 hb e)))).1,λb hb=>?_,I8.pins_of λp hp=>nomatch hp⟩;obtain ⟨o,e,_⟩:=T.obj _ _ st5 b hb;exact (I8.pin (b,o) (uc5 _ (uc5 _ (E8 hb e)))).2.1
   cases b with
   | false=>
     rw [if_neg ue0] at q7 ⊢;obtain ⟨m',hm,w7⟩:=q7;obtain ⟨a1,a2,a3,a4,a5⟩:=back I7;exact ⟨m',hm,i + 1,acc,its,nn,σ6,H7,a5,a3,a4,hv,a1,a2,w7⟩
   | true=>
     rw [if_pos rfl] at q7 ⊢;refine thn (he CC _ s7 σ6 H7 _ I7 q7) λy s8 z9=>?_;obtain ⟨v8,H8,I8,r8,m',hm,w8⟩:=z9;obtain ⟨a1,a2,a3,a4,a5⟩:=back I8;have hsz:its.toArray.size<=sizeLine:=by
      have e:=hv.length;simpa [e] using hz
     refine wpAny_list_append_plain (hsz:=hsz) ⟨nn,a1⟩ λh9 hl9 hs9=>?_;obtain ⟨n9,e9⟩:=hl9;have e9':h9.get? DD=some { cls:=.type "list",data:=.seq (its++[y]).toArray n9 }:=by simpa using e9
     refine ⟨m',hm,i + 1,acc++[v8],its++[y],n9,σ6,H8,a5.turned (t':=s8.toks) (h':=h9) (it:=DD) (λb o hb e=>hs9.extBut b o hb e) a2 hDC (.inr (show s2.heap.objs.size<=DD by rw [hDD];exact ul5 _)) (λx' c e z=>?_) (λp hp=>nomatch hp),T.keep _ _ _ a3 λb hb o e=>hs9.extBut b o (uk6 (hlt' b hb)) e,a4,hv.append (.cons r8 .nil),e9',a2,w8⟩;obtain ⟨v,o,ho,hd⟩:=I2.cell x' c (e2 x' c e);have:=uk5 ho;rw [hDD,z] at this;exact uj4 _ this
 exact codeAny_compStart_list (loop _ rfl) (T.self _ 0 _ _ _ (T.keep _ _ _ st2 λb _ o e=>old b o e) (loop _ rfl))
end
section
variable {X:Cx}{tg elt iter:Expr}{ifs:List Expr}{scope:Scope}{pos:Pos}{N':List Str}{wi:TI}{g:TG}{tt:TT}{te:TE}{σf:St->St}
theorem Pj {σ':St}{H':Hp}{s':Shared}{C:Addr}{acc:List V}{its:List Value}{n:Nat}{h':Heap}(I2:Inv X pins σ H2 s2)(f2:∀b∈fp,FpOk X pins H2 b)
 (hC:s2.heap.objs.size<=C) (hCD:C≠s2.heap.objs.size) (I':Inv (B9 X N' scope cl C s2 H2 fp) [] σ' H' s') (hDn:H' s2.heap.objs.size=none) (hz:acc.length<=sizeLine) (hv:Vals acc its)
 (hD:s'.heap.get? s2.heap.objs.size=some { cls:=.type "list",data:=.seq its.toArray n }) (hs:Heap.SameBut C s'.heap h') :
 Inv X pins σ (upd H' s2.heap.objs.size (.lst acc)) { s' with heap:=h' }:=by
 have U:=I'.base;have lt:∀b o,s2.heap.get? b=some o->b≠C/\b≠s2.heap.objs.size:=λb o e=>⟨uk6 (ud8 (uk5 e) hC),uk6 (uk5 e)⟩;have neD:∀b u,H' b=some u->b≠s2.heap.objs.size:=λb u e=>AJ e hDn;have neC:∀b u,H' b=some u->b≠C:=λb u e=>AJ e I'.free;refine I2.call' (s':={ s' with heap:=h' }) (ch:=fp) I'.os ⟨λb o e n hb hx=>?_,λb o e n hb hx=>?_,λb o e n hx=>?_,λb o e hx=>?_,λb xs e=>?_,λb o u e=>?_,λb ps e=>?_⟩ ?_ I'.bare λb hb=>⟨(f2 b hb).2.2.2.1,(f2 b hb).2.1,(f2 b hb).2.2.2.2.1,(f2 b hb).2.2.2.2.2⟩
 ·exact hs.extBut b o (lt b o e).1 (U.keep b o e n hb hx)
 ·obtain ⟨sl,q⟩:=U.slot b o e n hb hx;exact ⟨sl,hs.extBut b _ (lt b o e).1 q⟩
 ·rw [Ag (lt b o e).2];exact U.free b o e n hx
 ·obtain ⟨o',q⟩:=U.there b o e hx;exact ⟨o',hs.extBut b _ (lt b o e).1 q⟩
 ·have q:=U.tups b xs e;rw [Ag (neD b _ q)];exact q
 ·have q:=U.frzs b o u e;rw [Ag (neD b _ q)];exact q
 ·obtain ⟨m,q⟩:=U.tbls b ps e;exact ⟨m,by rw [Ag (neD b _ q)];exact q⟩
 ·intro b u e
  by_cases hb:b=s2.heap.objs.size
  ·subst hb;rw [Aj] at e
   cases e
   exact ⟨hz,its,n,hv,hs.extBut _ _ (Ne.symm hCD) hD⟩
  ·rw [Ag hb] at e;refine (I'.hok b u e).stay (λc v hc q=>hs.extBut c v ?_ q) (λc q=>by rw [Ag (neD c _ q)];exact q) λc xs q=>by rw [Ag (neD c _ q)];exact q
   rcases hc with z | z
   ·rw [z];exact neC b u e
   ·exact neC c _ z
theorem Kc (O:CmpOk X scope N' σf)(hc:X.calm=true)(hi:PI X tg iter wi)
 (hg:∀cl C s2 H2 fp,PG (B9 X N' scope cl C s2 H2 fp) tg g) (ht:∀cl C s2 H2 fp,PIf (B9 X N' scope cl C s2 H2 fp) ifs tt) (he:∀cl C s2 H2 fp,PE (B9 X N' scope cl C s2 H2 fp) elt te)
 (hs:∀x,foldedSetIterable iter X.env x=pure x:=by intro _;rfl):PE X (.ListComp elt [⟨tg,iter,ifs,0⟩] scope pos) (Lu wi g tt te σf):=by
 intro pins s σ H Q I h;obtain ⟨cl,e1,e2,e4⟩:=Oe (scope:=scope) (env:=X.env) λy hy hf=>I.ok.has y.1 (O.free y hy hf);rw [eval_ListComp];refine wpAny_comprehension_free (use:=none) rfl hs e1 O.kind O.loc (thn (hi pins s σ H _ I h) λv s1 h1=>thn h1 λitv s2 h2=>?_);obtain ⟨it,fp,tn,J,H2,rfl,I2,T,st2,f2,B⟩:=h2;refine Rl (RR:=λacc C=>compPost (model X.prog X.w) X.A X.xe none (EP X pins σ Q) acc C) O hc I2 T st2 f2 e2 e4 (λC=>hg cl C s2 H2 fp) (λC=>ht cl C s2 H2 fp) (λC=>he cl C s2 H2 fp) B ?_;intro C s' σ' H' acc m hC hCD I' hDn hz hL fin hn;obtain ⟨its,n,hv,hD⟩:=hL;refine ⟨m,hn,λh' hs'=>?_⟩;exact ⟨.ref s2.heap.objs.size,upd H' _ (.lst acc),Pj I2 f2 hC hCD I' hDn hz hv hD hs',rfl,fin _ hDn hz⟩
end
end L2
set_option autoImplicit false
namespace F2
open PySem L2 PySem.Spec
inductive D where
 | non | bl (b:Bool) | int (i:Int) | str (x:Str) | tup (xs:List D) | lst (xs:List D) | scr (ns:List Int) | dic | obj (k:Nat) | ty (n:String) | exc (n:Str) (xs:List D)
structure Cf where
 ι:List Addr
 O:Addr->Prop
def Cf.A (c:Cf)(a:Addr):Prop:=a∈c.ι\/c.O a
def Scr (K:PySem.W.Frag)(c:Cf)(H:Hp)(a:Addr)(vs:List V):Prop:=
 ((∃o,H a=some (.frz o (.lst vs)))/\¬c.A a)\/
   ∃(o:Obj) (its:Array Value) (n:Nat),K.lookup a=some o/\o.cls = .type "list"/\o.dict=none/\o.data = .seq its n/\its.size<=sizeLine/\Vals vs its.toList
def XIs (qx:Bool)(x C:Addr)(dx:Option Addr)(h:Heap):Prop:=∃(o:Obj) (vs:Array Value),h.get? x=some o/\o.cls = .ref C/\o.dict=dx/\o.data = .fields vs/\(qx=true->vs[2]?=some .none/\4 < vs.size)
noncomputable def Iv (n:Str):List Str:=if n = "NoTalk" then ["at"] else if n = "Broken" then ["at", "side"] else []
def XFld (c:Cf)(H:Hp)(dx:Option Addr)(ns:List Str)(vs:List V):Prop:=match dx with
 | none=>vs=[]
 | some d=>H d=some (.xd (ns.zip vs))/\¬c.A d
mutual
inductive Rep (K:PySem.W.Frag)(c:Cf)(H:Hp):V->D->Prop where
 | non:Rep K c H .non .non
 | bl (b:Bool):Rep K c H (.bl b) (.bl b)
 | int (i:Int):Rep K c H (.int i) (.int i)
 | str (x:Str):Rep K c H (.str x) (.str x)
 | ty (n:String):Rep K c H (.ty n) (.ty n)
 | tup {a:Addr} {vs:List V} {ds:List D}:H a=some (.tup vs)->¬c.A a->Reps K c H vs ds->Rep K c H (.ref a) (.tup ds)
 | lst {a:Addr} {vs:List V} {ds:List D}:H a=some (.lst vs)->¬c.A a->Reps K c H vs ds->Rep K c H (.ref a) (.lst ds)
 | scr {a:Addr} {ns:List Int}:Scr K c H a (ns.map V.int)->Rep K c H (.ref a) (.scr ns)
 | dic {a:Addr}:H a=some (.dK [])->¬c.A a->Rep K c H (.ref a) .dic
 | obj {a:Addr} {k:Nat}:c.ι[k]?=some a->Rep K c H (.ref a) (.obj k)
 | exc {qx:Bool} {x C:Addr} {dx:Option Addr} {n:Str} {vs:List V} {ds:List D}:PySem.W.nsIn K mainGlobals n=some (some (.ref C))->H x=some (.ext (XIs qx x C dx))->¬c.A x->XFld c H dx (Iv n) vs->Reps K c H vs ds->Rep K c H (.ref x) (.exc n ds)
inductive Reps (K:PySem.W.Frag)(c:Cf)(H:Hp):List V->List D->Prop where
 | nil:Reps K c H [] []
 | cons {v:V} {d:D} {vs:List V} {ds:List D}:Rep K c H v d->Reps K c H vs ds->Reps K c H (v :: vs) (d :: ds)
end
structure Ext (c:Cf)(H:Hp)(c':Cf)(H':Hp):Prop where
 keep:∀b o,H b=some o->¬c.A b->H' b=some o
 av:∀b o,H b=some o->c'.A b->c.A b
 io:∀(k:Nat) (a:Addr),c.ι[k]?=some a->c'.ι[k]?=some a
variable {c:Cf}{H:Hp}
theorem Ext.refl:Ext c H c H:=⟨λ_ _ h _=>h,λ_ _ _ h=>h,λ_ _ h=>h⟩
theorem Ext.trans {c1 c2:Cf}{H1 H2:Hp}(a:Ext c H c1 H1)(b:Ext c1 H1 c2 H2):Ext c H c2 H2:=by
 refine ⟨λx o h n=>?_,λx o h n=>?_,λk x h=>b.io k x (a.io k x h)⟩
 ·exact b.keep x o (a.keep x o h n) λz=>n (a.av x o h z)
 ·by_cases q:c.A x
  ·exact q
  ·exact a.av x o h (b.av x o (a.keep x o h q) n)
variable {K:PySem.W.Frag}{a:Addr}{vs:List V}
theorem Scr.mono {c':Cf}{H':Hp}(e:Ext c H c' H')(h:Scr K c H a vs):Scr K c' H' a vs:=by
 rcases h with ⟨⟨o,h⟩,n⟩ | h
 ·exact .inl ⟨⟨o,e.keep _ _ h n⟩,λz=>n (e.av _ _ h z)⟩
 ·exact .inr h
theorem Scr.sq (h:Scr K c H a vs):SqL K H a vs:=by
 rcases h with ⟨h,_⟩ | h
 ·exact .inl (.inr h)
 ·exact .inr h
theorem XFld.mono {c':Cf}{H':Hp}{dx:Option Addr}{ns:List Str}(e:Ext c H c' H')(h:XFld c H dx ns vs):XFld c' H' dx ns vs:=by
 cases dx with
 | none=>exact h
 | some d=>exact ⟨e.keep _ _ h.1 h.2,λz=>h.2 (e.av _ _ h.1 z)⟩
mutual
theorem Rep.mono {K:PySem.W.Frag}{c c':Cf}{H H':Hp}(e:Ext c H c' H'){v:V}{d:D}(r:Rep K c H v d):Rep K c' H' v d:=by
 cases r with
 | non=>exact .non
 | bl b=>exact .bl b
 | int i=>exact .int i
 | str x=>exact .str x
 | ty n=>exact .ty n
 | tup h n r=>exact .tup (e.keep _ _ h n) (λz=>n (e.av _ _ h z)) (Reps.mono e r)
 | lst h n r=>exact .lst (e.keep _ _ h n) (λz=>n (e.av _ _ h z)) (Reps.mono e r)
 | scr h=>exact .scr (h.mono e)
 | dic h n=>exact .dic (e.keep _ _ h n) (λz=>n (e.av _ _ h z))
 | obj h=>exact .obj (e.io _ _ h)
 | exc g h n f r=>exact .exc g (e.keep _ _ h n) (λz=>n (e.av _ _ h z)) (f.mono e) (Reps.mono e r)
theorem Reps.mono {K:PySem.W.Frag}{c c':Cf}{H H':Hp}(e:Ext c H c' H'){vs:List V}{ds:List D}(r:Reps K c H vs ds):Reps K c' H' vs ds:=by
 cases r with
 | nil=>exact .nil
 | cons h t=>exact .cons (Rep.mono e h) (Reps.mono e t)
end
section
variable {K:PySem.W.Frag}{c:Cf}{H:Hp}
theorem Reps.length:∀{vs:List V} {ds:List D},Reps K c H vs ds->vs.length=ds.length
 | _,_,.nil=>rfl
 | _,_,.cons _ t=>by simp [Reps.length t]
theorem Reps.get:∀{vs:List V} {ds:List D} {i:Nat} {v:V} {d:D},Reps K c H vs ds->vs[i]?=some v->ds[i]?=some d->Rep K c H v d
 | _,_,_,_,_,.nil,e,_=>by simp at e
 | _,_,0,_,_,.cons r _,e,e'=>by simp at e e';subst e e';exact r
 | _,_,i + 1,_,_,.cons _ t,e,e'=>Reps.get (i:=i) t (by simpa using e) (by simpa using e')
theorem Reps.at:∀{vs:List V} {ds:List D} {i:Nat} {d:D},Reps K c H vs ds->ds[i]?=some d->∃v,vs[i]?=some v/\Rep K c H v d
 | _,_,_,_,.nil,e=>by simp at e
 | _,_,0,_,.cons r _,e=>by simp at e;subst e;exact ⟨_,rfl,r⟩
 | _,_,i + 1,_,.cons _ t,e=>by
   obtain ⟨v,h1,h2⟩:=Reps.at (i:=i) t (by simpa using e);exact ⟨v,by simpa using h1,h2⟩
theorem Reps.append {vs ws:List V}{ds es:List D}(r:Reps K c H vs ds)(s:Reps K c H ws es):Reps K c H (vs++ws) (ds++es):=by
 cases r with
 | nil=>exact s
 | cons r t=>exact .cons r (Reps.append t s)
theorem Reps.take:∀{vs:List V} {ds:List D} (n:Nat),Reps K c H vs ds->Reps K c H (vs.take n) (ds.take n)
 | _,_,0,_=>.nil
 | _,_,_ + 1,.nil=>.nil
 | _,_,n + 1,.cons r t=>.cons r (Reps.take n t)
theorem Reps.drop:∀{vs:List V} {ds:List D} (n:Nat),Reps K c H vs ds->Reps K c H (vs.drop n) (ds.drop n)
 | _,_,0,r=>r
 | _,_,_ + 1,.nil=>.nil
 | _,_,n + 1,.cons _ t=>Reps.drop n t
theorem Reps.ints:∀ns:List Int,Reps K c H (ns.map V.int) (ns.map D.int)
 | []=>.nil
 | n :: r=>.cons (.int n) (Reps.ints r)
theorem Reps.rep {vs:List V}{ds:List D}(h:Reps K c H vs ds):∀k:Nat,Reps K c H (List.replicate k vs).flatten (List.replicate k ds).flatten
 | 0=>.nil
 | k + 1=>by
   rw [ud6,ud6,uf3,uf3];exact h.append (Reps.rep h k)
end
inductive Ob where
 | lst (xs:List D)
 | dct (kvs:List (Key×D))
 | ins (n:Str) (fs:List (Str×D))
inductive Sl where
 | val (d:D)
 | own (xs:List D)
structure T where
 env:List (Option Sl)
 S:List Ob
def KVR (K:PySem.W.Frag)(c:Cf)(H:Hp):List (Key×V)->List (Key×D)->Prop:=Paired λp q=>p.1=q.1/\Rep K c H p.2 q.2
noncomputable def JS:List Str:=["Reader", "Side", "Lasting", "Parley", "Listener", "Relay", "Desk"]
noncomputable def atN:List Str:=["grammar", "standing", "wires", "places", "side", "said", "taken", "handed", "left", "right", "under_way", "grammars", "standings", "heard", "left_grammar", "right_grammar", "rows", "pair", "broken", "parley"]
def FldR (K:PySem.W.Frag)(c:Cf)(H:Hp):List (Str×V)->List (Str×D)->Prop:=Paired λp q=>p.1=q.1/\Rep K c H p.2 q.2
def ObR (K:PySem.W.Frag)(c:Cf)(H:Hp)(a:Addr):Ob->Prop
 | .lst ds=>∃vs,H a=some (.lst vs)/\Reps K c H vs ds
 | .dct kvs=>∃us,H a=some (.dK us)/\KVR K c H us kvs
 | .ins n fs=>(n∈JS/\∀p∈fs,p.1∈atN)/\∃C dx us,PySem.W.nsIn K mainGlobals n=some (some (.ref C))/\H a=some (.ins C dx us)/\FldR K c H us fs
theorem ObR.mono {K:PySem.W.Frag}{c c':Cf}{H H':Hp}{a:Addr}{o:Ob}(e:Ext c H c' H')(h:ObR K c H a o)(ha:H' a=H a):ObR K c' H' a o:=by
 cases o with
 | lst ds=>obtain ⟨vs,h1,h2⟩:=h;exact ⟨vs,ha.trans h1,h2.mono e⟩
 | dct kvs=>obtain ⟨us,h1,h2⟩:=h;exact ⟨us,ha.trans h1,Paired.mapP h2 λ_ _ z=>⟨z.1,z.2.mono e⟩⟩
 | ins n fs=>obtain ⟨h0,C,dx,us,g,h1,h2⟩:=h;exact ⟨h0,C,dx,us,g,ha.trans h1,Paired.mapP h2 λ_ _ z=>⟨z.1,z.2.mono e⟩⟩
theorem ObR.some {o:Ob}(h:ObR K c H a o):∃u,H a=some u:=by
 cases o with
 | lst ds=>obtain ⟨vs,h1,_⟩:=h;exact ⟨_,h1⟩
 | dct kvs=>obtain ⟨us,h1,_⟩:=h;exact ⟨_,h1⟩
 | ins n fs=>obtain ⟨_,_,_,_,_,h1,_⟩:=h;exact ⟨_,h1⟩
structure SInv (K:PySem.W.Frag)(c:Cf)(S:List Ob)(H:Hp):Prop where
 len:c.ι.length=S.length
 nd:c.ι.Nodup
 obs:∀(k:Nat) (a:Addr) (o:Ob),c.ι[k]?=some a->S[k]?=some o->ObR K c H a o
 trk:∀b,c.O b->∃o,H b=some o
 dis:∀b,c.O b->b∉c.ι
variable {S:List Ob}
theorem SInv.trkA (s:SInv K c S H){b:Addr}(h:c.A b):∃o,H b=some o:=by
 rcases h with h | h
 ·obtain ⟨k,hk,e⟩:=List.mem_iff_getElem.mp h;have e1:c.ι[k]?=some b:=by rw [ub3 hk,e]
  have hk':k < S.length:=by rw [<-s.len];exact hk
  exact (s.obs k b _ e1 (ub3 hk')).some
 ·exact s.trk b h
theorem SInv.free (s:SInv K c S H){b:Addr}(h:H b=none):¬c.A b:=λz=>by
 obtain ⟨o,e⟩:=s.trkA z;rw [h] at e;cases e
structure FInv (K:PySem.W.Frag)(Oo:Addr->Prop)(c:Cf)(t:T)(σ:St)(H:Hp):Prop where
 s:SInv K c t.S H
 len:t.env.length=σ.length
 sub:∀b,Oo b->c.O b
 val:∀(i:Nat) (d:D),t.env[i]?=some (some (.val d))->∃v,σ[i]?=some (some v)/\Rep K c H v d
 own:∀(i:Nat) (ds:List D),t.env[i]?=some (some (.own ds))->∃a vs,σ[i]?=some (some (.ref a))/\c.O a/\¬Oo a/\H a=some (.lst vs)/\Reps K c H vs ds
 inj:∀(i j:Nat) (ds es:List D) (a:Addr),t.env[i]?=some (some (.own ds))->t.env[j]?=some (some (.own es))->σ[i]?=some (some (.ref a))->σ[j]?=some (some (.ref a))->i=j
structure Stp (Oo:Addr->Prop)(c:Cf)(H:Hp)(c':Cf)(H':Hp):Prop where
 ext:Ext c H c' H'
 oo:∀b,Oo b->H' b=H b
theorem Stp.refl {Oo:Addr->Prop}{c:Cf}{H:Hp}:Stp Oo c H c H:=⟨.refl,λ_ _=>rfl⟩
theorem Stp.trans {Oo:Addr->Prop}{c c1 c2:Cf}{H H1 H2:Hp}(a:Stp Oo c H c1 H1)(b:Stp Oo c1 H1 c2 H2):Stp Oo c H c2 H2:=
 ⟨a.ext.trans b.ext,λx h=>(b.oo x h).trans (a.oo x h)⟩
section
variable {K:PySem.W.Frag}{Oo:Addr->Prop}{c:Cf}{t:T}{σ:St}{H:Hp}
theorem Ext.laid (s:SInv K c S H){p:Addr}{o:HO}(h:H p=none):Ext c H c (upd H p o):=
 ⟨λb u e _=>by rw [Ag (AJ e h)];exact e,λ_ _ _ z=>z,λ_ _ e=>e⟩
theorem SInv.laid {S:List Ob}(s:SInv K c S H){p:Addr}{o:HO}(h:H p=none):SInv K c S (upd H p o):=
 ⟨s.len,s.nd,λk a u e1 e2=>by
  have q:=s.obs k a u e1 e2;obtain ⟨w,hw⟩:=q.some;exact q.mono (Ext.laid s h) (Ag (AJ hw h)),
  λb z=>by obtain ⟨u,e⟩:=s.trk b z;exact ⟨u,by rw [Ag (AJ e h)];exact e⟩,s.dis⟩
theorem FInv.laid (f:FInv K Oo c t σ H){p:Addr}{o:HO}(h:H p=none):FInv K Oo c t σ (upd H p o):=by
 have e:=Ext.laid (o:=o) f.s h;refine ⟨f.s.laid h,f.len,f.sub,λi d q=>?_,λi ds q=>?_,f.inj⟩
 ·obtain ⟨v,h1,h2⟩:=f.val i d q;exact ⟨v,h1,h2.mono e⟩
 ·obtain ⟨a,vs,h1,h2,h3,h4,h5⟩:=f.own i ds q;exact ⟨a,vs,h1,h2,h3,by rw [Ag (AJ h4 h)];exact h4,h5.mono e⟩
theorem FInv.stp_laid (f:FInv K Oo c t σ H){p:Addr}{o:HO}(h:H p=none):Stp Oo c H c (upd H p o):=
 ⟨Ext.laid f.s h,λb z=>by obtain ⟨u,e⟩:=f.s.trk b (f.sub b z);exact Ag (AJ e h)⟩
theorem FInv.set (f:FInv K Oo c t σ H){i:Nat}{v:V}{d:D}(r:Rep K c H v d):FInv K Oo c { t with env:=t.env.set i (some (.val d)) } (σ.set i (some v)) H:=by
 have neq:∀{j:Nat} {x:Sl},(t.env.set i (some (.val d)))[j]?=some (some x)->(j=i/\x = .val d/\j < t.env.length)\/(j≠i/\t.env[j]?=some (some x)):=λ{j x} q=>by
  by_cases h:j=i
  ·subst h;rw [uf6] at q
   split at q
   ·split at q
    ·next h1=>injection q with q;injection q with q;exact .inl ⟨rfl,q.symm,h1⟩
    ·cases q
   ·next h1=>exact absurd rfl h1
  ·rw [ud1 (Ne.symm h)] at q;exact .inr ⟨h,q⟩
 refine ⟨f.s,by simp [f.len],f.sub,λj e q=>?_,λj ds q=>?_,λj k ds es a q1 q2 q3 q4=>?_⟩
 ·rcases neq q with ⟨rfl,z,hl⟩ | ⟨h,q⟩
  ·cases z
   exact ⟨v,by rw [ub8 (by rw [<-f.len];exact hl)],r⟩
  ·obtain ⟨u,h1,h2⟩:=f.val j e q;exact ⟨u,by rw [ud1 (Ne.symm h)];exact h1,h2⟩
 ·rcases neq q with ⟨rfl,z,_⟩ | ⟨h,q⟩
  ·cases z
  ·obtain ⟨a,vs,h1,h2⟩:=f.own j ds q;exact ⟨a,vs,by rw [ud1 (Ne.symm h)];exact h1,h2⟩
 ·rcases neq q1 with ⟨_,z,_⟩ | ⟨h,q1⟩
  ·cases z
  rcases neq q2 with ⟨_,z,_⟩ | ⟨h',q2⟩
  ·cases z
  rw [ud1 (Ne.symm h)] at q3;rw [ud1 (Ne.symm h')] at q4;exact f.inj j k ds es a q1 q2 q3 q4
theorem FInv.setOwn (f:FInv K Oo c t σ H){i:Nat}{p:Addr}{vs:List V}{ds:List D}(h:H p=none)(r:Reps K c H vs ds) :
 ∃c',FInv K Oo c' { t with env:=t.env.set i (some (.own ds)) } (σ.set i (some (.ref p))) (upd H p (.lst vs))/\Stp Oo c H c' (upd H p (.lst vs)):=by
 let c':Cf:=⟨c.ι,λb=>c.O b\/b=p⟩
 have nA:¬c.A p:=f.s.free h;have ext:Ext c H c' (upd H p (.lst vs)):=by
  refine ⟨λb u e _=>by rw [Ag (AJ e h)];exact e,λb u e z=>?_,λ_ _ e=>e⟩;rcases z with z | z | z
  ·exact .inl z
  ·exact .inr z
  ·subst z;rw [h] at e;cases e
 have stp:Stp Oo c H c' (upd H p (.lst vs)):=⟨ext,λb z=>by obtain ⟨u,e⟩:=f.s.trk b (f.sub b z);exact Ag (AJ e h)⟩;have sinv:SInv K c' t.S (upd H p (.lst vs)):=by
  refine ⟨f.s.len,f.s.nd,λk a u e1 e2=>?_,λb z=>?_,λb z hb=>?_⟩
  ·have q:=f.s.obs k a u e1 e2;obtain ⟨w,hw⟩:=q.some;exact q.mono ext (Ag (AJ hw h))
  ·rcases z with z | z
   ·obtain ⟨u,e⟩:=f.s.trk b z;exact ⟨u,by rw [Ag (AJ e h)];exact e⟩
   ·subst z;exact ⟨_,Aj⟩
  ·rcases z with z | z
   ·exact f.s.dis b z hb
   ·subst z;exact nA (.inl hb)
 have neq:∀{j:Nat} {x:Sl},(t.env.set i (some (.own ds)))[j]?=some (some x)->(j=i/\x = .own ds/\j < t.env.length)\/(j≠i/\t.env[j]?=some (some x)):=λ{j x} q=>by
  by_cases h:j=i
  ·subst h;rw [uf6] at q
   split at q
   ·split at q
    ·next h1=>injection q with q;injection q with q;exact .inl ⟨rfl,q.symm,h1⟩
    ·cases q
   ·next h1=>exact absurd rfl h1
  ·rw [ud1 (Ne.symm h)] at q;exact .inr ⟨h,q⟩
 have fresh:∀(j:Nat) (es:List D),t.env[j]?=some (some (.own es))->σ[j]?≠some (some (.ref p)):=λj es q z=>by
  obtain ⟨a,vs',h1,_,_,h4,_⟩:=f.own j es q;rw [h1] at z;injection z with z;injection z with z;injection z with z;subst z;rw [h] at h4;cases h4
 refine ⟨c',⟨sinv,by simp [f.len],λb z=>.inl (f.sub b z),λj e q=>?_,λj es q=>?_,λj k ds' es a q1 q2 q3 q4=>?_⟩,stp⟩
 ·rcases neq q with ⟨_,z,_⟩ | ⟨hn,q⟩
  ·cases z
  ·obtain ⟨u,h1,h2⟩:=f.val j e q;exact ⟨u,by rw [ud1 (Ne.symm hn)];exact h1,h2.mono ext⟩
 ·rcases neq q with ⟨rfl,z,hl⟩ | ⟨hn,q⟩
  ·cases z
   refine ⟨p,vs,by rw [ub8 (by rw [<-f.len];exact hl)],.inr rfl,λz=>?_,Aj,r.mono ext⟩;obtain ⟨u,e⟩:=f.s.trk p (f.sub p z);rw [h] at e;cases e
  ·obtain ⟨a,ws,h1,h2,h3,h4,h5⟩:=f.own j es q;exact ⟨a,ws,by rw [ud1 (Ne.symm hn)];exact h1,.inl h2,h3,by rw [Ag (AJ h4 h)];exact h4,h5.mono ext⟩
 ·rcases neq q1 with ⟨z1,z2,l1⟩ | ⟨n1,r1⟩
  ·rcases neq q2 with ⟨y1,_,_⟩ | ⟨n2,r2⟩
   ·rw [z1,y1]
   ·subst z1;rw [ub8 (by rw [<-f.len];exact l1)] at q3;injection q3 with q3;injection q3 with q3;injection q3 with q3;subst q3
    rw [ud1 (Ne.symm n2)] at q4;exact absurd q4 (fresh k es r2)
  ·rcases neq q2 with ⟨y1,y2,l2⟩ | ⟨n2,r2⟩
   ·subst y1;rw [ub8 (by rw [<-f.len];exact l2)] at q4;injection q4 with q4;injection q4 with q4;injection q4 with q4;subst q4
    rw [ud1 (Ne.symm n1)] at q3;exact absurd q3 (fresh j ds' r1)
   ·rw [ud1 (Ne.symm n1)] at q3;rw [ud1 (Ne.symm n2)] at q4;exact f.inj j k ds' es a r1 r2 q3 q4
theorem FInv.frz (f:FInv K Oo c t σ H){i:Nat}{ds:List D}(q:t.env[i]?=some (some (.own ds))) :
 ∃c' v,FInv K Oo c' { t with env:=t.env.set i (some (.val (.lst ds))) } σ H/\Stp Oo c H c' H/\σ[i]?=some (some v)/\Rep K c' H v (.lst ds):=by
 obtain ⟨a,vs,h1,h2,h3,h4,h5⟩:=f.own i ds q
 let c':Cf:=⟨c.ι,λb=>c.O b/\b≠a⟩
 have ext:Ext c H c' H:=⟨λ_ _ e _=>e,λb u e z=>z.elim .inl λw=>.inr w.1,λ_ _ e=>e⟩;have sinv:SInv K c' t.S H:=⟨f.s.len,f.s.nd,λk b u e1 e2=>(f.s.obs k b u e1 e2).mono ext rfl,λb z=>f.s.trk b z.1,λb z=>f.s.dis b z.1⟩;have nA:¬c'.A a:=λz=>z.elim (λw=>f.s.dis a h2 w) λw=>w.2 rfl;have hσ:σ.set i (some (.ref a))=σ:=by
  apply List.ext_getElem?;intro j
  by_cases hj:j=i
  ·subst hj;rw [ub8 (by have:=(ua9.mp h1).1;exact this),h1]
  ·rw [ud1 (Ne.symm hj)]
 have r:Rep K c' H (.ref a) (.lst ds):=.lst h4 nA (h5.mono ext);have f0:FInv K Oo c' { t with env:=t.env.set i (some (.val (.lst ds))) } σ H:=by
  have neq:∀{j:Nat} {x:Sl},(t.env.set i (some (.val (.lst ds))))[j]?=some (some x)->(j=i/\x = .val (.lst ds))\/(j≠i/\t.env[j]?=some (some x)):=λ{j x} q=>by
   by_cases h:j=i
   ·subst h;rw [uf6] at q
    split at q
    ·split at q
     ·injection q with q;injection q with q;exact .inl ⟨rfl,q.symm⟩
     ·cases q
    ·next h1=>exact absurd rfl h1
   ·rw [ud1 (Ne.symm h)] at q;exact .inr ⟨h,q⟩
  refine ⟨sinv,by simp [f.len],λb z=>⟨f.sub b z,λw=>h3 (w ▸ z)⟩,λj e q'=>?_,λj es q'=>?_,λj k ds' es b q1 q2 q3 q4=>?_⟩
  ·rcases neq q' with ⟨rfl,z⟩ | ⟨hn,q'⟩
   ·cases z;exact ⟨_,h1,r⟩
   ·obtain ⟨u,w1,w2⟩:=f.val j e q';exact ⟨u,w1,w2.mono ext⟩
  ·rcases neq q' with ⟨_,z⟩ | ⟨hn,q'⟩
   ·cases z
   ·obtain ⟨b,ws,w1,w2,w3,w4,w5⟩:=f.own j es q';refine ⟨b,ws,w1,⟨w2,λz=>?_⟩,w3,w4,w5.mono ext⟩;subst z;exact hn (f.inj j i es ds b q' q w1 h1)
  ·rcases neq q1 with ⟨_,z⟩ | ⟨_,q1⟩
   ·cases z
   rcases neq q2 with ⟨_,z⟩ | ⟨_,q2⟩
   ·cases z
   exact f.inj j k ds' es b q1 q2 q3 q4
 exact ⟨c',_,f0,⟨ext,λ_ _=>rfl⟩,h1,r⟩
theorem FInv.wrOwn (f:FInv K Oo c t σ H){i:Nat}{ds ds':List D}{vs':List V}{a:Addr}(q:t.env[i]?=some (some (.own ds)))(h1:σ[i]?=some (some (.ref a)))(r:Reps K c H vs' ds') :
 FInv K Oo c { t with env:=t.env.set i (some (.own ds')) } σ (upd H a (.lst vs'))/\Stp Oo c H c (upd H a (.lst vs')):=by
 obtain ⟨a',vs,g1,h2,h3,h4,h5⟩:=f.own i ds q;rw [h1] at g1;injection g1 with g1;injection g1 with g1;injection g1 with g1;subst g1
 have ext:Ext c H c (upd H a (.lst vs')):=⟨λb u e n=>by rw [Ag (λ(z:b=a)=>n (.inr (by rw [z];exact h2)))];exact e,λ_ _ _ z=>z,λ_ _ e=>e⟩;have stp:Stp Oo c H c (upd H a (.lst vs')):=⟨ext,λb z=>Ag λw=>h3 (w ▸ z)⟩;have sinv:SInv K c t.S (upd H a (.lst vs')):=by
  refine ⟨f.s.len,f.s.nd,λk b u e1 e2=>(f.s.obs k b u e1 e2).mono ext (Ag λz=>f.s.dis a h2 (z ▸ ud2 e1)),λb z=>?_,f.s.dis⟩
  by_cases hb:b=a
  ·subst hb;exact ⟨_,Aj⟩
  ·obtain ⟨u,e⟩:=f.s.trk b z;exact ⟨u,by rw [Ag hb];exact e⟩
 have neq:∀{j:Nat} {x:Sl},(t.env.set i (some (.own ds')))[j]?=some (some x)->(j=i/\x = .own ds')\/(j≠i/\t.env[j]?=some (some x)):=λ{j x} q=>by
  by_cases h:j=i
  ·subst h;rw [uf6] at q
   split at q
   ·split at q
    ·injection q with q;injection q with q;exact .inl ⟨rfl,q.symm⟩
    ·cases q
   ·next h1=>exact absurd rfl h1
  ·rw [ud1 (Ne.symm h)] at q;exact .inr ⟨h,q⟩
 refine ⟨⟨sinv,by simp [f.len],f.sub,λj e q'=>?_,λj es q'=>?_,λj k es es' b q1 q2 q3 q4=>?_⟩,stp⟩
 ·rcases neq q' with ⟨_,z⟩ | ⟨_,q'⟩
  ·cases z
  ·obtain ⟨u,w1,w2⟩:=f.val j e q';exact ⟨u,w1,w2.mono ext⟩
 ·rcases neq q' with ⟨rfl,z⟩ | ⟨hn,q'⟩
  ·cases z;exact ⟨a,vs',h1,h2,h3,Aj,r.mono ext⟩
  ·obtain ⟨b,ws,w1,w2,w3,w4,w5⟩:=f.own j es q';have hb:b≠a:=λz=>by subst z;exact hn (f.inj j i es ds b q' q w1 h1)
   exact ⟨b,ws,w1,w2,w3,by rw [Ag hb];exact w4,w5.mono ext⟩
 ·have old:∀{j:Nat} {x:List D},(t.env.set i (some (.own ds')))[j]?=some (some (.own x))->∃y,t.env[j]?=some (some (.own y)):=λ{j x} q'=>by
   rcases neq q' with ⟨rfl,_⟩ | ⟨_,q'⟩
   ·exact ⟨ds,q⟩
   ·exact ⟨x,q'⟩
  obtain ⟨y1,z1⟩:=old q1;obtain ⟨y2,z2⟩:=old q2;exact f.inj j k y1 y2 b z1 z2 q3 q4
theorem FInv.wrObj (f:FInv K Oo c t σ H){k:Nat}{a:Addr}{o:Ob}{u:HO}(e:c.ι[k]?=some a)(r:∀c' H',Ext c H c' H'->H' a=some u->ObR K c' H' a o) :
 FInv K Oo c { t with S:=t.S.set k o } σ (upd H a u)/\Stp Oo c H c (upd H a u):=by
 have hA:a∈c.ι:=ud2 e;have ext:Ext c H c (upd H a u):=⟨λb w h n=>by rw [Ag (λ(z:b=a)=>n (.inl (by rw [z];exact hA)))];exact h,λ_ _ _ z=>z,λ_ _ e=>e⟩;have neO:∀b,c.O b->b≠a:=λb z w=>f.s.dis b z (w ▸ hA);have stp:Stp Oo c H c (upd H a u):=⟨ext,λb z=>Ag (neO b (f.sub b z))⟩;have sinv:SInv K c (t.S.set k o) (upd H a u):=by
  refine ⟨by simp [f.s.len],f.s.nd,λj b o' e1 e2=>?_,λb z=>?_,f.s.dis⟩
  ·by_cases hj:j=k
   ·subst hj;rw [e] at e1;cases e1
    have hl:j < t.S.length:=by rw [<-f.s.len];exact (ua9.mp e).1
    rw [ub8 hl] at e2;cases e2
    exact r c _ ext Aj
   ·rw [ud1 (Ne.symm hj)] at e2;refine (f.s.obs j b o' e1 e2).mono ext (Ag λz=>?_);subst z;obtain ⟨l1,g1⟩:=ua9.mp e1;obtain ⟨l2,g2⟩:=ua9.mp e;exact hj ((ug0 f.s.nd).mp (g1.trans g2.symm))
  ·obtain ⟨w,h⟩:=f.s.trk b z;exact ⟨w,by rw [Ag (neO b z)];exact h⟩
 refine ⟨⟨sinv,f.len,f.sub,λi d q=>?_,λi ds q=>?_,f.inj⟩,stp⟩
 ·obtain ⟨v,h1,h2⟩:=f.val i d q;exact ⟨v,h1,h2.mono ext⟩
 ·obtain ⟨b,vs,h1,h2,h3,h4,h5⟩:=f.own i ds q;exact ⟨b,vs,h1,h2,h3,by rw [Ag (neO b h2)];exact h4,h5.mono ext⟩
theorem FInv.newObj (f:FInv K Oo c t σ H){p:Addr}{o:Ob}{u:HO}(h:H p=none)(r:∀c' H',Ext c H c' H'->H' p=some u->ObR K c' H' p o) :
 ∃c',FInv K Oo c' { t with S:=t.S++[o] } σ (upd H p u)/\Stp Oo c H c' (upd H p u)/\c'.ι[t.S.length]?=some p:=by
 let c':Cf:=⟨c.ι++[p],c.O⟩
 have nA:¬c.A p:=f.s.free h;have ext:Ext c H c' (upd H p u):=by
  refine ⟨λb w e _=>by rw [Ag (AJ e h)];exact e,λb w e z=>?_,λk a e=>?_⟩
  ·rcases z with z | z
   ·rcases uh4.mp z with z | z
    ·exact .inl z
    ·rw [ue5] at z;subst z;rw [h] at e;cases e
   ·exact .inr z
  ·show (c.ι++[p])[k]?=some a;rw [ub0 (ua9.mp e).1];exact e
 have stp:Stp Oo c H c' (upd H p u):=⟨ext,λb z=>by obtain ⟨w,e⟩:=f.s.trk b (f.sub b z);exact Ag (AJ e h)⟩;have at_:(c.ι++[p])[t.S.length]?=some p:=by rw [<-f.s.len,ua5 (ul5 _)];simp
 have sinv:SInv K c' (t.S++[o]) (upd H p u):=by
  refine ⟨by simp [c',f.s.len],?_,λj b o' e1 e2=>?_,λb z=>?_,λb z hb=>?_⟩
  ·show (c.ι++[p]).Nodup;exact List.nodup_append.mpr ⟨f.s.nd,by simp,λx hx y hy z=>by rw [ue5] at hy;subst z;subst hy;exact nA (.inl hx)⟩
  ·have hlt:j < (t.S++[o]).length:=(ua9.mp e2).1
   by_cases hj:j < t.S.length
   ·have e1':c.ι[j]?=some b:=by
     have q:(c.ι++[p])[j]?=some b:=e1;rw [ub0 (by rw [f.s.len];exact hj)] at q;exact q
    rw [ub0 hj] at e2;have q:=f.s.obs j b o' e1' e2;obtain ⟨w,hw⟩:=q.some;exact q.mono ext (Ag (AJ hw h))
   ·have hj':j=t.S.length:=by simp at hlt;lia
    subst hj';rw [at_] at e1;cases e1
    rw [ua5 (ul5 _)] at e2;simp at e2;subst e2;exact r c' _ ext Aj
  ·obtain ⟨w,e⟩:=f.s.trk b z;exact ⟨w,by rw [Ag (AJ e h)];exact e⟩
  ·rcases uh4.mp hb with w | w
   ·exact f.s.dis b z w
   ·rw [ue5] at w;subst w;exact nA (.inr z)
 refine ⟨c',⟨sinv,f.len,f.sub,λi d q=>?_,λi ds q=>?_,f.inj⟩,stp,at_⟩
 ·obtain ⟨v,h1,h2⟩:=f.val i d q;exact ⟨v,h1,h2.mono ext⟩
 ·obtain ⟨b,vs,h1,h2,h3,h4,h5⟩:=f.own i ds q;exact ⟨b,vs,h1,h2,h3,by rw [Ag (AJ h4 h)];exact h4,h5.mono ext⟩
theorem FInv.after (f:FInv K Oo c t σ H){c':Cf}{S':List Ob}{H':Hp}(s:SInv K c' S' H')(st:Stp c.O c H c' H')(ho:∀b,c'.O b↔c.O b):FInv K Oo c' { t with S:=S' } σ H'/\Stp Oo c H c' H':=by
 refine ⟨⟨s,f.len,λb z=>(ho b).mpr (f.sub b z),λi d q=>?_,λi ds q=>?_,f.inj⟩,st.ext,λb z=>st.oo b (f.sub b z)⟩
 ·obtain ⟨v,h1,h2⟩:=f.val i d q;exact ⟨v,h1,h2.mono st.ext⟩
 ·obtain ⟨b,vs,h1,h2,h3,h4,h5⟩:=f.own i ds q;exact ⟨b,vs,h1,(ho b).mpr h2,h3,(st.oo b h2).trans h4,h5.mono st.ext⟩
end
abbrev M (α:Type):=T->Option (α×T)
inductive Out where
 | next | brk | cont | ret (d:D)
noncomputable def ret {α:Type}(a:α):M α:=λt=>some (a,t)
noncomputable def fail {α:Type}:M α:=λ_=>none
noncomputable def bnd {α β:Type}(f:M α)(g:α->M β):M β:=λt=>match f t with
 | some (a,t1)=>g a t1
 | none=>none
variable {t:T}
theorem Ae {α β:Type}{f:M α}{g:α->M β}{z:β×T}(h:bnd f g t=some z):∃a t1,f t=some (a,t1)/\g a t1=some z:=by
 unfold bnd at h
 cases e:f t with
 | none=>rw [e] at h;cases h
 | some p=>obtain ⟨a,t1⟩:=p;rw [e] at h;exact ⟨a,t1,rfl,h⟩
noncomputable def LIM:Nat:=100000
theorem Ci:LIM<=sizeLine:=by unfold LIM;decide
theorem Wb:LIM < sizeLine:=by unfold LIM;decide
section
variable (K:PySem.W.Frag)
inductive RE (f:M D)(σ:L2.St)(H:Hp)(Q:VK):Prop where
 | mk (Oo:Addr->Prop) (c:Cf) (t:T) (fi:FInv K Oo c t σ H) (r:D) (t':T) (e:f t=some (r,t')) (k:∀v H' c',FInv K Oo c' t' σ H'->Stp Oo c H c' H'->Rep K c' H' v r->Q v H'):RE f σ H Q
inductive RT (f:M Bool)(σ:L2.St)(H:Hp)(Q:Bool->Hp->Prop):Prop where
 | mk (Oo:Addr->Prop) (c:Cf) (t:T) (fi:FInv K Oo c t σ H) (r:Bool) (t':T) (e:f t=some (r,t')) (k:∀H' c',FInv K Oo c' t' σ H'->Stp Oo c H c' H'->Q r H'):RT f σ H Q
inductive RA (f:M (List D))(σ:L2.St)(H:Hp)(Q:List V->Hp->Prop):Prop where
 | mk (Oo:Addr->Prop) (c:Cf) (t:T) (fi:FInv K Oo c t σ H) (r:List D) (t':T) (e:f t=some (r,t')) (k:∀vs H' c',FInv K Oo c' t' σ H'->Stp Oo c H c' H'->Reps K c' H' vs r->Q vs H'):RA f σ H Q
inductive RF (f:M (List D))(σ:L2.St)(H:Hp)(Q:VK):Prop where
 | mk (Oo:Addr->Prop) (c:Cf) (t:T) (fi:FInv K Oo c t σ H) (ds:List D) (t':T) (e:f t=some (ds,t')) (k:∀p vs H' c',FInv K Oo c' t' σ H'->Stp Oo c H c' H'->Reps K c' H' vs ds->H' p=none->Q (.ref p) (upd H' p (.lst vs))):RF f σ H Q
inductive RSg (μ:Cf->Hp->D->(V->Hp->Prop)->Prop)(f:M Out)(E:Ends)(σ:L2.St)(H:Hp):Prop where
 | mk (Oo:Addr->Prop) (c:Cf) (t:T) (fi:FInv K Oo c t σ H) (o:Out) (t':T) (e:f t=some (o,t')) (k:∀σ' H' c',FInv K Oo c' t' σ' H'->Stp Oo c H c' H'->
 match (generalizing:=false) o with
 | .next=>E.nx σ' H'
 | .brk=>E.bk σ' H'
 | .cont=>E.ct σ' H'
 | .ret r=>μ c' H' r E.rt):RSg μ f E σ H
def μR:Cf->Hp->D->(V->Hp->Prop)->Prop:=λc H r rt=>∀v,Rep K c H v r->rt v H
def μF:Cf->Hp->D->(V->Hp->Prop)->Prop:=λc H r rt=>match r with
 | .lst ds=>∀p us,H p=none->Reps K c H us ds->rt (.ref p) (upd H p (.lst us))
 | _=>False
abbrev RS (f:M Out):TS:=RSg K (μR K) f
inductive RG (f:D->M Unit)(v:V)(σ:L2.St)(H:Hp)(Q:L2.St->Hp->Prop):Prop where
 | mk (Oo:Addr->Prop) (c:Cf) (t:T) (d:D) (fi:FInv K Oo c t σ H) (r:Rep K c H v d) (t':T) (e:f d t=some ((),t')) (k:∀σ' H' c',FInv K Oo c' t' σ' H'->Stp Oo c H c' H'->Q σ' H'):RG f v σ H Q
structure ItOk (J:It)(c:Cf)(H:Hp)(ds:List D):Prop where
 go:∀c' H' (i:Nat),Ext c H c' H'->i < ds.length->J.go i H'
 yld:∀c' H' (i:Nat) x H'' d,Ext c H c' H'->ds[i]?=some d->J.yld i H' x H''->H''=H'/\Rep K c' H' x d
 stop:∀c' H',Ext c H c' H'->J.stop ds.length H'
inductive RI (f:M (List D))(σ:L2.St)(H:Hp)(R:It->Hp->Prop):Prop where
 | mk (Oo:Addr->Prop) (c:Cf) (t:T) (fi:FInv K Oo c t σ H) (ds:List D) (t':T) (e:f t=some (ds,t')) (k:∀J H' c',FInv K Oo c' t' σ H'->Stp Oo c H c' H'->ItOk K J c' H' ds->R J H'):RI f σ H R
def Wi (R:V->Hp->VK->Prop)(h:D->M D):Prop:=∀{Oo:Addr->Prop} {c:Cf} {t:T} {σ:L2.St} {H:Hp} {x:V} {dx r:D} {t':T} {Q:VK},FInv K Oo c t σ H->Rep K c H x dx->h dx t=some (r,t')->
 (∀v H' c',FInv K Oo c' t' σ H'->Stp Oo c H c' H'->Rep K c' H' v r->Q v H')->R x H Q
def Bh (R:R2)(h:D->D->M D):Prop:=∀{Oo:Addr->Prop} {c:Cf} {t:T} {σ:L2.St} {H:Hp} {x y:V} {dx dy r:D} {t':T} {Q:VK},FInv K Oo c t σ H->Rep K c H x dx->Rep K c H y dy->h dx dy t=some (r,t')->
 (∀v H' c',FInv K Oo c' t' σ H'->Stp Oo c H c' H'->Rep K c' H' v r->Q v H')->R x y H Q
def Ij (R:List V->Hp->VK->Prop)(h:List D->M D):Prop:=∀{Oo:Addr->Prop} {c:Cf} {t:T} {σ:L2.St} {H:Hp} {xs:List V} {ds:List D} {r:D} {t':T} {Q:VK},FInv K Oo c t σ H->Reps K c H xs ds->h ds t=some (r,t')->
 (∀v H' c',FInv K Oo c' t' σ H'->Stp Oo c H c' H'->Rep K c' H' v r->Q v H')->R xs H Q
def Lh (R:R2)(h:D->D->M (List D)):Prop:=∀{Oo:Addr->Prop} {c:Cf} {t:T} {σ:L2.St} {H:Hp} {x y:V} {dx dy:D} {r:List D} {t':T} {Q:VK},FInv K Oo c t σ H->Rep K c H x dx->Rep K c H y dy->h dx dy t=some (r,t')->
 (∀p vs H' c',FInv K Oo c' t' σ H'->Stp Oo c H c' H'->Reps K c' H' vs r->H' p=none->Q (.ref p) (upd H' p (.lst vs)))->R x y H Q
def Li (R:List V->Hp->VK->Prop)(h:List D->M (List D)):Prop:=∀{Oo:Addr->Prop} {c:Cf} {t:T} {σ:L2.St} {H:Hp} {xs:List V} {ds r:List D} {t':T} {Q:VK},FInv K Oo c t σ H->Reps K c H xs ds->h ds t=some (r,t')->
 (∀p vs H' c',FInv K Oo c' t' σ H'->Stp Oo c H c' H'->Reps K c' H' vs r->H' p=none->Q (.ref p) (upd H' p (.lst vs)))->R xs H Q
end
variable {tg:Expr}{j i:Nat}{f g:M D}{h:D->D->M D}{R:R2}{op:CmpOp}{σ:L2.St}
section
variable {X:Cx}{e a b:Expr}{pos:Pos}
theorem AI {t t':TE}(h:PE X e t)(i:∀σ H Q,t' σ H Q->t σ H Q):PE X e t':=λpins s σ H Q I q=>h pins s σ H Q I (i σ H Q q)
theorem LG {t t':TT}(h:PT X e t)(i:∀σ H Q,t' σ H Q->t σ H Q):PT X e t':=λpins s σ H Q I q=>h pins s σ H Q I (i σ H Q q)
theorem Pd {t t':TT}(h:PW X e t)(i:∀σ H Q,t' σ H Q->t σ H Q):PW X e t':=λw pins s σ H Q I q=>h w pins s σ H Q I (i σ H Q q)
theorem Pb {es:List Expr}{t t':TA}(h:PA X es t)(i:∀σ H Q,t' σ H Q->t σ H Q):PA X es t':=λpos pins s σ H Q I q=>h pos pins s σ H Q I (i σ H Q q)
theorem Bb {st:Stmt}{t t':TS}(h:PS X st t)(i:∀E σ H,t' E σ H->t E σ H):PS X st t':=λpins s σ H E I q=>h pins s σ H E I (i E σ H q)
theorem Nf {st:List Stmt}{t t':TS}(h:PSs X st t)(i:∀E σ H,t' E σ H->t E σ H):PSs X st t':=λpins s σ H E I q=>h pins s σ H E I (i E σ H q)
theorem LF {t t':TG}(h:PG X e t)(i:∀v σ H Q,t' v σ H Q->t v σ H Q):PG X e t':=λpins s σ H v u Q I r q=>h pins s σ H v u Q I r (i v σ H Q q)
theorem GU {t t':TI}(h:PI X tg e t)(i:∀σ H R,t' σ H R->t σ H R):PI X tg e t':=λpins s σ H R I q=>h pins s σ H R I (i σ H R q)
def fC (d:D):M D:=ret d
theorem Ir {v:V}{d:D}(h:PE X e (tC v))(r:∀c H,Rep X.K c H v d):PE X e (RE X.K (fC d)):=
 AI h λσ H Q z9=>by
  obtain ⟨Oo,c,t,f,r',t',eq,k⟩:=z9
  cases eq
  exact k v H c f .refl (r c H)
theorem WG {i:Int}:PE X (.Constant (.int i) j pos) (RE X.K (fC (.int i))):=Ir XA λ_ _=>.int i
theorem YH {i:Bool}:PE X (.Constant (.bool i) j pos) (RE X.K (fC (.bl i))):=Ir Y0 λ_ _=>.bl i
theorem WL {i:Str}:PE X (.Constant (.str i) j pos) (RE X.K (fC (.str i))):=Ir XG λ_ _=>.str i
theorem WH:PE X (.Constant .none j pos) (RE X.K (fC .non)):=Ir XC λ_ _=>.non
theorem JU {x:Str}{i:Int}{tk:Tok}(hg:Gl X x)(hm:X.mg x=some (.int i tk))(hd:(x == ("__debug__" : Str))=false:=by decide):PE X (.Name x pos) (RE X.K (fC (.int i))):=
 Ir (Ke hg hm (v:=.int i) ⟨tk,rfl⟩ hd) λ_ _=>.int i
theorem Ry {x:Str}{y:Str}{tk:Tok}(hg:Gl X x)(hm:X.mg x=some (.str y tk))(hd:(x == ("__debug__" : Str))=false:=by decide):PE X (.Name x pos) (RE X.K (fC (.str y))):=
 Ir (Ke hg hm (v:=.str y) ⟨tk,rfl⟩ hd) λ_ _=>.str y
theorem Jh {x:Str}{n:String}(hg:Gl X x)(hm:X.mg x=none)(hv:bootBuiltins x=some (.type n))(hn:x≠"__name__":=by decide)(hd:(x == ("__debug__" : Str))=false:=by decide):PE X (.Name x pos) (RE X.K (fC (.ty n))):=
 Ir (NH hg hm hv (v:=.ty n) rfl hn hd) λ_ _=>.ty n
noncomputable def Aa (i:Nat):M D:=λt=>match t.env[i]? with
 | some (some (.val d))=>some (d,t)
 | some (some (.own ds))=>some (.lst ds,{ t with env:=t.env.set i (some (.val (.lst ds))) })
 | _=>none
theorem Oi {t':T}{r:D}(h:Aa i t=some (r,t')):(t.env[i]?=some (some (.val r))/\t'=t)\/∃ds,t.env[i]?=some (some (.own ds))/\r = .lst ds/\t' = { t with env:=t.env.set i (some (.val (.lst ds))) }:=by
 unfold Aa at h
 cases e:t.env[i]? with
 | none=>rw [e] at h;cases h
 | some o=>
   cases o with
   | none=>rw [e] at h;cases h
   | some sl=>
     cases sl with
     | val d=>rw [e] at h;cases h;exact .inl ⟨rfl,rfl⟩
     | own ds=>rw [e] at h;cases h;exact .inr ⟨ds,rfl,rfl,rfl⟩
theorem WM (i:Nat){x:Str}(hN:X.N[i]?=some x:=by rfl)(hv:Vis X.env.scope x:=by walk_at "h")(hd:(x == ("__debug__" : Str))=false:=by decide)
 (hcd:(x == ("__classdict__" : Str))=false:=by decide):PE X (.Name x pos) (RE X.K (Aa i)):=
 AI (Cm hN hv hd hcd) λσ H Q z9=>by
  obtain ⟨Oo,c,t,f,r,t',eq,k⟩:=z9;rcases Oi eq with ⟨q,rfl⟩ | ⟨ds,q,rfl,rfl⟩
  ·obtain ⟨v,h1,h2⟩:=f.val i r q;exact ⟨v,h1,k v H c f .refl h2⟩
  ·obtain ⟨c',v,f',st,h1,h2⟩:=f.frz q;exact ⟨v,h1,k v H c' f' st h2⟩
def Ac (f g:M D)(h:D->D->M D):M D:=bnd f λx=>bnd g λy=>h x y
theorem RE.two (s:Bh K R h){σ:L2.St}{H:Hp}{Q:VK}(q:RE K (Ac f g h) σ H Q):tOp R (RE K f) (RE K g) σ H Q:=by
 obtain ⟨Oo,c,t,fi,r,t',eq,k⟩:=q;obtain ⟨dx,t1,e1,eq⟩:=Ae eq;obtain ⟨dy,t2,e2,eq⟩:=Ae eq;exact ⟨Oo,c,t,fi,dx,t1,e1,λx H1 c1 f1 s1 rx=>⟨Oo,c1,t1,f1,dy,t2,e2,λy H2 c2 f2 s2 ry=>s f2 (rx.mono s2.ext) ry eq λv H' c' f' s' rv=>k v H' c' f' ((s1.trans s2).trans s') rv⟩⟩
theorem Gn {op:Operator}(ho:OpR X (binaryOp op) R)(s:Bh X.K R h)(ha:PE X a (RE X.K f))(hb:PE X b (RE X.K g)):PE X (.BinOp a op b pos) (RE X.K (Ac f g h)):=
 AI (OE ho ha hb) λ_ _ _ q=>RE.two s q
theorem Jg (ho:OpR X (compareOp op) R)(s:Bh X.K R h)(ha:PE X a (RE X.K f))(hb:PE X b (RE X.K g))(hm:behindInMarks op b=false):PE X (.Compare a [op] [b] pos) (RE X.K (Ac f g h)):=
 AI (U5 ho ha hb hm) λ_ _ _ q=>RE.two s q
theorem TL (hr:IxR X R)(s:Bh X.K R h)(ha:PE X a (RE X.K f))(hb:PE X b (RE X.K g))(hs:Ng b):PE X (.Subscript a b pos) (RE X.K (Ac f g h)):=
 AI (Y1 hr ha hb hs) λ_ _ _ q=>RE.two s q
def fUn (f:M D)(h:D->M D):M D:=bnd f h
theorem YI {op:UnaryOp}{R:V->Hp->VK->Prop}{h:D->M D}(ho:UnR X (unaryOp op) R)(s:Wi X.K R h)(ha:PE X a (RE X.K f)):PE X (.UnaryOp op a pos) (RE X.K (fUn f h)):=
 AI (Y2 ho ha) λσ H Q z9=>by
  obtain ⟨Oo,c,t,fi,r,t',eq,k⟩:=z9;obtain ⟨dx,t1,e1,eq⟩:=Ae eq;exact ⟨Oo,c,t,fi,dx,t1,e1,λx H1 c1 f1 s1 rx=>s f1 rx eq λv H' c' f' s' rv=>k v H' c' f' (s1.trans s') rv⟩
def toB:D->M Bool
 | .bl b=>ret b
 | _=>fail
def An (f:M D):M Bool:=bnd f toB
theorem II {d:D}{z:Bool×T}(h:toB d t=some z):∃b,d = .bl b/\z=(b,t):=by
 cases d with
 | bl b=>cases h;exact ⟨b,rfl,rfl⟩
 | _=>cases h
theorem RT.val {Q:Bool->Hp->Prop}(q:RT K (An f) σ H Q):RE K f σ H λx H1=>∃k,x = .bl k/\Q k H1:=by
 obtain ⟨Oo,c,t,fi,r,t',eq,k⟩:=q;obtain ⟨d,t1,e1,eq⟩:=Ae eq;obtain ⟨b,rfl,z⟩:=II eq
 cases z
 refine ⟨Oo,c,t,fi,_,t',e1,λv H1 c1 f1 s1 rv=>?_⟩
 cases rv
 exact ⟨r,rfl,k H1 c1 f1 s1⟩
theorem PR (h:PE X e (RE X.K f))(he:∀whole,isTrue e X.env whole=(do let v <-whole;standAt e.pos;holding [v] (truthy v)):=by intro _;rfl):PT X e (RT X.K (An f)):=
 LG (XS h he) λ_ _ _ q=>RT.val q
theorem EK (ho:OpR X (compareOp op) R)(s:Bh X.K R h)(ha:PE X a (RE X.K f))(hb:PE X b (RE X.K g))(hm:behindInMarks op b=false):PT X (.Compare a [op] [b] pos) (RT X.K (An (Ac f g h))):=
 LG (Vj ho ha hb hm) λσ H Q q=>RE.two s (RT.val q)
def EJ (f g w:M D)(h h':D->D->M D):M D:=bnd f λx=>bnd g λy=>bnd (An (h x y)) λk=>if k=true then bnd w λz=>h' y z else ret (.bl false)
theorem RE.chain {w:M D}{h':D->D->M D}{R':R2}(s:Bh K R h)(s':Bh K R' h'){σ:L2.St}{H:Hp}{Q:VK}(q:RE K (EJ f g w h h') σ H Q):QR R R' (RE K f) (RE K g) (RE K w) σ H Q:=by
 obtain ⟨Oo,c,t,fi,r,t',eq,k⟩:=q;obtain ⟨dx,t1,e1,eq⟩:=Ae eq;obtain ⟨dy,t2,e2,eq⟩:=Ae eq;obtain ⟨kb,t3,e3,eq⟩:=Ae eq;obtain ⟨d3,t3',e3',e3⟩:=Ae e3;obtain ⟨b3,rfl,z⟩:=II e3
 cases z
 refine ⟨Oo,c,t,fi,dx,t1,e1,λx H1 c1 f1 s1 rx=>⟨Oo,c1,t1,f1,dy,t2,e2,λy H2 c2 f2 s2 ry=>s f2 (rx.mono s2.ext) ry e3' λv H3 c3 f3 s3 rv=>?_⟩⟩
 cases rv
 refine ⟨kb,rfl,?_⟩
 cases kb with
 | false=>
   rw [if_neg ue0] at eq ⊢
   cases eq
   exact k _ H3 c3 f3 ((s1.trans s2).trans s3) (.bl false)
 | true=>
   rw [if_pos rfl] at eq ⊢;obtain ⟨dz,t4,e4,eq⟩:=Ae eq;exact ⟨Oo,c3,t3,f3,dz,t4,e4,λw' H4 c4 f4 s4 rw'=>s' f4 (ry.mono (s3.trans s4).ext) rw' eq λv H' c' f' s' rv=>k v H' c' f' ((((s1.trans s2).trans s3).trans s4).trans s') rv⟩
theorem Rw {d:Expr}{op':CmpOp}{R':R2}{w:M D}{h':D->D->M D}(ho:OpR X (compareOp op) R)(ho':OpR X (compareOp op') R')(s:Bh X.K R h)(s':Bh X.K R' h')(ha:PE X a (RE X.K f))(hb:PE X b (RE X.K g))(hd:PE X d (RE X.K w))
 (hm:lastMarks [op,op'] [b,d]=false:=by with_unfolding_all rfl):PE X (.Compare a [op,op'] [b,d] pos) (RE X.K (EJ f g w h h')):=
 AI (SE ho ho' ha hb hd hm) λ_ _ _ q=>RE.chain s s' q
def FT (f g:M Bool):M Bool:=bnd f λk=>if k=true then g else ret false
def fOr (f g:M Bool):M Bool:=bnd f λk=>if k=true then ret true else g
def Co (f:M Bool):M Bool:=bnd f λk=>ret (!k)
def Ed (f g:M D):M D:=bnd (An f) λk=>if k=true then g else ret (.bl false)
def WB (f g:M D):M D:=bnd (An f) λk=>if k=true then ret (.bl true) else g
def HK (f:M D):M D:=bnd (An f) λk=>ret (.bl (!k))
def fIf (f:M Bool)(g h:M D):M D:=bnd f λk=>if k=true then g else h
variable {f g:M Bool}{u v w:M D}{rest:List Expr}
theorem YQ (h:PW X e (RT X.K f)):PT X e (RT X.K f):=h.pt
theorem UF (ha:PT X a (RT X.K f)):PW X (.BoolOp .And [a] pos) (RT X.K f):=Vk ha
theorem WY (ha:PT X a (RT X.K f)):PW X (.BoolOp .Or [a] pos) (RT X.K f):=XU ha
theorem WX (ha:PT X a (RT X.K f))(hb:PW X (.BoolOp .And (b :: rest) pos) (RT X.K g)):PW X (.BoolOp .And (a :: b :: rest) pos) (RT X.K (FT f g)):=
 Pd (XT ha hb) λσ H Q z9=>by
  obtain ⟨Oo,c,t,fi,r,t',eq,k⟩:=z9;obtain ⟨kb,t1,e1,eq⟩:=Ae eq;refine ⟨Oo,c,t,fi,kb,t1,e1,λH1 c1 f1 s1=>?_⟩
  cases kb with
  | false=>rw [if_neg ue0] at eq ⊢;cases eq;exact k H1 c1 f1 s1
  | true=>rw [if_pos rfl] at eq ⊢;exact ⟨Oo,c1,t1,f1,r,t',eq,λH2 c2 f2 s2=>k H2 c2 f2 (s1.trans s2)⟩
theorem YR (ha:PT X a (RT X.K f))(hb:PW X (.BoolOp .Or (b :: rest) pos) (RT X.K g)):PW X (.BoolOp .Or (a :: b :: rest) pos) (RT X.K (fOr f g)):=
 Pd (Y9 ha hb) λσ H Q z9=>by
  obtain ⟨Oo,c,t,fi,r,t',eq,k⟩:=z9;obtain ⟨kb,t1,e1,eq⟩:=Ae eq;refine ⟨Oo,c,t,fi,kb,t1,e1,λH1 c1 f1 s1=>?_⟩
  cases kb with
  | true=>rw [if_pos rfl] at eq ⊢;cases eq;exact k H1 c1 f1 s1
  | false=>rw [if_neg ue0] at eq ⊢;exact ⟨Oo,c1,t1,f1,r,t',eq,λH2 c2 f2 s2=>k H2 c2 f2 (s1.trans s2)⟩
theorem WW (ha:PT X a (RT X.K f)):PT X (.UnaryOp .Not a pos) (RT X.K (Co f)):=
 LG (XR ha) λσ H Q z9=>by
  obtain ⟨Oo,c,t,fi,r,t',eq,k⟩:=z9;obtain ⟨kb,t1,e1,eq⟩:=Ae eq
  cases eq
  exact ⟨Oo,c,t,fi,kb,_,e1,λH1 c1 f1 s1=>k H1 c1 f1 s1⟩
theorem MR {f:M D}{kb:Bool}{t1:T}(h:An f t=some (kb,t1)):f t=some (.bl kb,t1):=by
 obtain ⟨d,t2,e1,e2⟩:=Ae h;obtain ⟨b,rfl,z⟩:=II e2
 cases z
 exact e1
theorem WK {op:PySem.BoolOp}(h:PE X a (RE X.K u)):PE X (.BoolOp op [a] pos) (RE X.K u):=XF h
theorem WD (ha:PE X a (RE X.K u))(hb:PE X (.BoolOp .And (b :: rest) pos) (RE X.K v)):PE X (.BoolOp .And (a :: b :: rest) pos) (RE X.K (Ed u v)):=
 AI (Xy ha hb) λσ H Q z9=>by
  obtain ⟨Oo,c,t,fi,r,t',eq,k⟩:=z9;obtain ⟨kb,t1,e1,eq⟩:=Ae eq;refine ⟨Oo,c,t,fi,_,t1,MR e1,λx H1 c1 f1 s1 rx=>?_⟩
  cases rx
  refine ⟨kb,rfl,?_⟩
  cases kb with
  | false=>rw [if_neg ue0] at eq ⊢;cases eq;exact k _ H1 c1 f1 s1 (.bl false)
  | true=>rw [if_pos rfl] at eq ⊢;exact ⟨Oo,c1,t1,f1,r,t',eq,λy H2 c2 f2 s2 ry=>k y H2 c2 f2 (s1.trans s2) ry⟩
theorem WI (ha:PE X a (RE X.K u)):PE X (.UnaryOp .Not a pos) (RE X.K (HK u)):=
 AI (XD ha) λσ H Q z9=>by
  obtain ⟨Oo,c,t,fi,r,t',eq,k⟩:=z9;obtain ⟨kb,t1,e1,eq⟩:=Ae eq
  cases eq
  refine ⟨Oo,c,t,fi,_,_,MR e1,λx H1 c1 f1 s1 rx=>?_⟩
  cases rx
  exact ⟨kb,rfl,k _ H1 c1 f1 s1 (.bl (!kb))⟩
theorem Rz {d:Expr}(hc:PT X d (RT X.K f))(ha:PE X a (RE X.K u))(hb:PE X b (RE X.K v)):PE X (.IfExp d a b pos) (RE X.K (fIf f u v)):=
 AI (SH hc ha hb) λσ H Q z9=>by
  obtain ⟨Oo,c,t,fi,r,t',eq,k⟩:=z9;obtain ⟨kb,t1,e1,eq⟩:=Ae eq;refine ⟨Oo,c,t,fi,kb,t1,e1,λH1 c1 f1 s1=>?_⟩
  cases kb with
  | false=>rw [if_neg ue0] at eq ⊢;exact ⟨Oo,c1,t1,f1,r,t',eq,λy H2 c2 f2 s2 ry=>k y H2 c2 f2 (s1.trans s2) ry⟩
  | true=>rw [if_pos rfl] at eq ⊢;exact ⟨Oo,c1,t1,f1,r,t',eq,λy H2 c2 f2 s2 ry=>k y H2 c2 f2 (s1.trans s2) ry⟩
end
variable {n:Nat}{p:Pos}
section
variable {X:Cx}{e a b:Expr}{es:List Expr}{pos:Pos}
def Ad:M (List D):=ret []
def Ab (f:M D)(g:M (List D)):M (List D):=bnd f λd=>bnd g λds=>ret (d :: ds)
theorem WC:PA X [] (RA X.K Ad):=Pb My λσ H Q z9=>by
 obtain ⟨Oo,c,t,fi,r,t',eq,k⟩:=z9
 cases eq
 exact k [] H c fi .refl .nil
theorem Up {g:M (List D)}(ha:PE X e (RE X.K f))(hr:PA X es (RA X.K g))(hs:starEach (e :: es) X.env=(false,eval e X.env) :: starEach es X.env:=by rfl):PA X (e :: es) (RA X.K (Ab f g)):=
 Pb (F6 ha hr hs) λσ H Q z9=>by
  obtain ⟨Oo,c,t,fi,r,t',eq,k⟩:=z9;obtain ⟨d,t1,e1,eq⟩:=Ae eq;obtain ⟨ds,t2,e2,eq⟩:=Ae eq
  cases eq
  exact ⟨Oo,c,t,fi,d,t1,e1,λx H1 c1 f1 s1 rx=>⟨Oo,c1,t1,f1,ds,_,e2,λxs H2 c2 f2 s2 rxs=>k _ H2 c2 f2 (s1.trans s2) (.cons (rx.mono s2.ext) rxs)⟩⟩
def lim {α:Type}(n:Nat)(a:α):M α:=λt=>if n<=LIM then some (a,t) else none
theorem DT {α:Type}{a:α}{z:α×T}(h:lim n a t=some z):n<=LIM/\z=(a,t):=by
 unfold lim at h
 split at h
 ·next h1=>cases h;exact ⟨h1,rfl⟩
 ·cases h
def AU (f:M (List D)):M D:=bnd f λds=>lim ds.length (.tup ds)
theorem Pv {x1:Nat}{f:M (List D)}(h:PA X es (RA X.K f)):PE X (.Tuple es x1 pos) (RE X.K (AU f)):=
 AI (XH h) λσ H Q z9=>by
  obtain ⟨Oo,c,t,fi,r,t',eq,k⟩:=z9;obtain ⟨ds,t1,e1,eq⟩:=Ae eq;obtain ⟨hl,z⟩:=DT eq
  cases z
  refine ⟨Oo,c,t,fi,ds,_,e1,λxs H1 c1 f1 s1 rxs=>⟨by rw [rxs.length];exact uk7 hl Ci,λp hp=>?_⟩⟩;exact k _ _ c1 (f1.laid hp) (s1.trans (f1.stp_laid hp)) (.tup Aj (f1.s.free hp) (rxs.mono (Ext.laid f1.s hp)))
def Bn (f:M (List D)):M (List D):=bnd f λds=>lim ds.length ds
theorem WN {f:M (List D)}(h:PA X es (RA X.K f)):PE X (.List es pos) (RF X.K (Bn f)):=
 AI (XB h) λσ H Q z9=>by
  obtain ⟨Oo,c,t,fi,r,t',eq,k⟩:=z9;obtain ⟨ds,t1,e1,eq⟩:=Ae eq;obtain ⟨hl,z⟩:=DT eq
  cases z
  exact ⟨Oo,c,t,fi,_,_,e1,λxs H1 c1 f1 s1 rxs=>⟨by rw [rxs.length];exact uk7 hl Ci,λp hp=>k p xs H1 c1 f1 s1 rxs hp⟩⟩
def AQ (f:M (List D)):M D:=bnd f λds=>ret (.lst ds)
theorem Ut {f:M (List D)}(h:PE X e (RF X.K f)):PE X e (RE X.K (AQ f)):=
 AI h λσ H Q z9=>by
  obtain ⟨Oo,c,t,fi,r,t',eq,k⟩:=z9;obtain ⟨ds,t1,e1,eq⟩:=Ae eq
  cases eq
  exact ⟨Oo,c,t,fi,ds,_,e1,λp xs H1 c1 f1 s1 rxs hp=>k _ _ c1 (f1.laid hp) (s1.trans (f1.stp_laid hp)) (.lst Aj (f1.s.free hp) (rxs.mono (Ext.laid f1.s hp)))⟩
noncomputable def OB (o:Ob):M D:=λt=>some (.obj t.S.length,{ t with S:=t.S++[o] })
def ET (f:M (List D)):M D:=bnd f λds=>OB (.lst ds)
theorem WJ {f:M (List D)}(h:PE X e (RF X.K f)):PE X e (RE X.K (ET f)):=
 AI h λσ H Q z9=>by
  obtain ⟨Oo,c,t,fi,r,t',eq,k⟩:=z9;obtain ⟨ds,t1,e1,eq⟩:=Ae eq
  cases eq
  refine ⟨Oo,c,t,fi,ds,_,e1,λp xs H1 c1 f1 s1 rxs hp=>?_⟩;obtain ⟨c2,f2,s2,e2⟩:=f1.newObj (o:=.lst ds) (u:=.lst xs) hp λc' H' ex hu=>⟨xs,hu,rxs.mono ex⟩;exact k _ _ c2 f2 (s1.trans s2) (.obj e2)
abbrev Fn:=List D->List Ob->Option (D×List Ob)
inductive spF (K:PySem.W.Frag)(f:Fn)(vs:List V)(H:Hp)(Q:VK)(E:XK):Prop where
 | mk (c:Cf) (ds:List D) (S:List Ob) (si:SInv K c S H) (rs:Reps K c H vs ds) (r:D) (S':List Ob) (e:f ds S=some (r,S')) (k:∀v H' c',SInv K c' S' H'->Stp c.O c H c' H'->(∀b,c'.O b↔c.O b)->Rep K c' H' v r->Q v H'):spF K f vs H Q E
def Ak (g:Fn)(f:M (List D)):M D:=bnd f λds t=>match g ds t.S with
 | some (r,S')=>some (r,{ t with S:=S' })
 | none=>none
theorem FH {g:Fn}{ds:List D}{r:D}{t':T}(h:(match g ds t.S with | some (r,S')=>some (r,{ t with S:=S' }) | none=>none:Option (D×T))=some (r,t')):∃S',g ds t.S=some (r,S')/\t' = { t with S:=S' }:=by
 cases e:g ds t.S with
 | none=>rw [e] at h;cases h
 | some p=>obtain ⟨r',S'⟩:=p;rw [e] at h;cases h;exact ⟨S',rfl,rfl⟩
theorem Uq {k:Nat}{fa:Addr}{fd:FuncData}{ps:List Str}{g:Fn}{f:M (List D)}{x:Str}(F:FnOk X.prog X.w X.K X.mg X.base CX0 k fa fd ps (spF X.K g))(hr:Room k X.A)(hg:Gl X x)(hm:X.mg x=some (.ref fa))(hk:PySem.W.keepIn X.K (.ref fa)=true)(hb:Binds X.K fd ps [])
 (ha:PA X (e :: es) (RA X.K f)) (hdb:(x == ("__debug__" : Str))=false:=by decide) (he:starEach (e :: es) X.env=(false,eval e X.env) :: starEach es X.env:=by rfl) (hpl:(backTo pos (starEach es X.env)).any (·.1)=false:=by rfl) :
 PE X (.Call (.Name x p) (e :: es) [] pos) (RE X.K (Ak g f)):=
 AI (NI F hr hg hm hk hb .nil HU ha hdb he hpl) λσ H Q z9=>by
  obtain ⟨Oo,c,t,fi,r,t',eq,kk⟩:=z9;obtain ⟨ds,t1,e1,eq⟩:=Ae eq;obtain ⟨S',e2,rfl⟩:=FH eq;refine ⟨Oo,c,t,fi,ds,t1,e1,λvs H1 c1 f1 s1 rvs=>?_⟩;show spF X.K g (vs++[]) H1 Q E0;rw [uh8];refine ⟨c1,ds,t1.S,f1.s,rvs,r,S',e2,λv H' c' si st ho rv=>?_⟩;obtain ⟨f2,s2⟩:=f1.after si st ho;exact kk v H' c' f2 (s1.trans s2) rv
def fB (f:M (List D))(h:List D->M D):M D:=bnd f h
theorem RE.callB {f:M (List D)}{h:List D->M D}{R:List V->Hp->VK->Prop}(s:Ij K R h){σ:L2.St}{H:Hp}{Q:VK}(q:RE K (fB f h) σ H Q):tCB R (RA K f) σ H Q:=by
 obtain ⟨Oo,c,t,fi,r,t',eq,k⟩:=q;obtain ⟨ds,t1,e1,eq⟩:=Ae eq;exact ⟨Oo,c,t,fi,ds,t1,e1,λxs H1 c1 f1 s1 rxs=>s f1 rxs eq λv H' c' f' s' rv=>k v H' c' f' (s1.trans s') rv⟩
def fBF (f:M (List D))(h:List D->M (List D)):M (List D):=bnd f h
theorem RF.callB {f:M (List D)}{h:List D->M (List D)}{R:List V->Hp->VK->Prop}(s:Li K R h){σ:L2.St}{H:Hp}{Q:VK}(q:RF K (fBF f h) σ H Q):tCB R (RA K f) σ H Q:=by
 obtain ⟨Oo,c,t,fi,r,t',eq,k⟩:=q;obtain ⟨ds,t1,e1,eq⟩:=Ae eq;exact ⟨Oo,c,t,fi,ds,t1,e1,λxs H1 c1 f1 s1 rxs=>s f1 rxs eq λp vs H' c' f' s' rv hp=>k p vs H' c' f' (s1.trans s') rv hp⟩
theorem RF.two {h:D->D->M (List D)}(s:Lh K R h){σ:L2.St}{H:Hp}{Q:VK}(q:RF K (bnd f λx=>bnd g λy=>h x y) σ H Q):tOp R (RE K f) (RE K g) σ H Q:=by
 obtain ⟨Oo,c,t,fi,r,t',eq,k⟩:=q;obtain ⟨dx,t1,e1,eq⟩:=Ae eq;obtain ⟨dy,t2,e2,eq⟩:=Ae eq;exact ⟨Oo,c,t,fi,dx,t1,e1,λx H1 c1 f1 s1 rx=>⟨Oo,c1,t1,f1,dy,t2,e2,λy H2 c2 f2 s2 ry=>s f2 (rx.mono s2.ext) ry eq λp vs H' c' f' s' rv hp=>k p vs H' c' f' ((s1.trans s2).trans s') rv hp⟩⟩
end
variable {μ:Cf->Hp->D->(V->Hp->Prop)->Prop}
section
variable {X:Cx}{e a b:Expr}{pos:Pos}{st:Stmt}{sts:List Stmt}
noncomputable def Af (f g:M Out):M Out:=λt=>match f t with
 | some (.next,t1)=>g t1
 | z=>z
def Ar:M Out:=ret .next
theorem UE:PSs X [] (RSg X.K μ Ar):=Nf Vi λE σ H z9=>by
 obtain ⟨Oo,c,t,fi,o,t',eq,k⟩:=z9
 cases eq
 exact k σ H c fi .refl
theorem RQ {μ:Cf->Hp->D->(V->Hp->Prop)->Prop}{f g:M Out}(h1:PS X st (RSg X.K μ f))(h2:PSs X sts (RSg X.K μ g)):PSs X (st :: sts) (RSg X.K μ (Af f g)):=
 Nf (IF h1 h2) λE σ H z9=>by
  obtain ⟨Oo,c,t,fi,o,t',eq,k⟩:=z9;unfold Af at eq
  cases e1:f t with
  | none=>rw [e1] at eq;cases eq
  | some p=>
    obtain ⟨o1,t1⟩:=p;rw [e1] at eq;refine ⟨Oo,c,t,fi,o1,t1,e1,λσ1 H1 c1 f1 s1=>?_⟩
    cases o1 with
    | next=>exact ⟨Oo,c1,t1,f1,o,t',eq,λσ2 H2 c2 f2 s2=>k σ2 H2 c2 f2 (s1.trans s2)⟩
    | brk=>cases eq;exact k σ1 H1 c1 f1 s1
    | cont=>cases eq;exact k σ1 H1 c1 f1 s1
    | ret d=>cases eq;exact k σ1 H1 c1 f1 s1
theorem Ny {μ:Cf->Hp->D->(V->Hp->Prop)->Prop}{f:M Out}(h1:PS X st (RSg X.K μ f)):PSs X [st] (RSg X.K μ f):=F7 h1
def Ap (f:M D):M Out:=bnd f λd=>ret (.ret d)
theorem PL (h:PE X e (RE X.K f)):PS X (.Return (some e) pos) (RS X.K (Ap f)):=
 Bb (Hq h) λE σ H z9=>by
  obtain ⟨Oo,c,t,fi,o,t',eq,k⟩:=z9;obtain ⟨d,t1,e1,eq⟩:=Ae eq
  cases eq
  exact ⟨Oo,c,t,fi,d,_,e1,λv H1 c1 f1 s1 rv=>k σ H1 c1 f1 s1 v rv⟩
theorem Nt:PS X (.Pass pos) (RSg X.K μ Ar):=Bb Vh λE σ H z9=>by
 obtain ⟨Oo,c,t,fi,o,t',eq,k⟩:=z9
 cases eq
 exact k σ H c fi .refl
theorem RN:PS X (.Break pos) (RSg X.K μ (ret .brk)):=Bb SL λE σ H z9=>by
 obtain ⟨Oo,c,t,fi,o,t',eq,k⟩:=z9
 cases eq
 exact k σ H c fi .refl
def Bi (f:M D):M Out:=bnd f λ_=>ret .next
theorem Nr (h:PE X e (RE X.K f))(hs:swapsWith e none pos.line X.env=pure false:=by rfl):PS X (.Expr e pos) (RSg X.K μ (Bi f)):=
 Bb (HV h hs) λE σ H z9=>by
  obtain ⟨Oo,c,t,fi,o,t',eq,k⟩:=z9;obtain ⟨d,t1,e1,eq⟩:=Ae eq
  cases eq
  exact ⟨Oo,c,t,fi,d,_,e1,λv H1 c1 f1 s1 rv=>k σ H1 c1 f1 s1⟩
def ifS (f:M Bool)(g h:M Out):M Out:=bnd f λk=>if k=true then g else h
theorem YO {f:M Bool}{g h:M Out}{sa sb:List Stmt}(hc:PT X e (RT X.K f))(ha:PSs X sa (RSg X.K μ g))(hb:PSs X sb (RSg X.K μ h)):PS X (.If e sa sb pos) (RSg X.K μ (ifS f g h)):=
 Bb (Y8 hc ha hb) λE σ H z9=>by
  obtain ⟨Oo,c,t,fi,o,t',eq,k⟩:=z9;obtain ⟨kb,t1,e1,eq⟩:=Ae eq;refine ⟨Oo,c,t,fi,kb,t1,e1,λH1 c1 f1 s1=>?_⟩
  cases kb with
  | true=>rw [if_pos rfl] at eq ⊢;exact ⟨Oo,c1,t1,f1,o,t',eq,λσ2 H2 c2 f2 s2=>k σ2 H2 c2 f2 (s1.trans s2)⟩
  | false=>rw [if_neg ue0] at eq ⊢;exact ⟨Oo,c1,t1,f1,o,t',eq,λσ2 H2 c2 f2 s2=>k σ2 H2 c2 f2 (s1.trans s2)⟩
noncomputable def AF (i:Nat)(d:D):M Unit:=λt=>some ((),{ t with env:=t.env.set i (some (.val d)) })
def As (i:Nat)(f:M D):M Out:=bnd f λd=>bnd (AF i d) λ_=>ret .next
theorem RS.set {μ:Cf->Hp->D->(V->Hp->Prop)->Prop}{K:PySem.W.Frag}{i:Nat}{f:M D}{E:Ends}{σ:L2.St}{H:Hp}(q:RSg K μ (As i f) E σ H):OW (RE K f) (Lo i) E σ H:=by
 obtain ⟨Oo,c,t,fi,o,t',eq,k⟩:=q;obtain ⟨d,t1,e1,eq⟩:=Ae eq
 cases eq
 exact ⟨Oo,c,t,fi,d,t1,e1,λv H1 c1 f1 s1 rv=>k _ H1 c1 (f1.set rv) s1⟩
theorem PP {x:Str}{pos':Pos}(hN:X.N.Nodup)(hi:X.N[i]?=some x)(hx:Loc X.env.scope x)(he:PE X e (RE X.K f))(hs:swapsWith e (some (.Name x pos')) pos.line X.env=pure false:=by rfl)(hf:X.fn x=true\/X.env.scope.names.lookup x=some .local:=by walk_at "h") :
 PS X (.Assign [.Name x pos'] e pos) (RSg X.K μ (As i f)):=Bb (MC hN hi hx he hs hf) λ_ _ _ q=>RS.set q
def Ft (i:Nat)(f:M (List D)):M Out:=bnd f λds t=>some (.next,{ t with env:=t.env.set i (some (.own ds)) })
theorem RS.own {f:M (List D)}{E:Ends}(q:RSg K μ (Ft i f) E σ H):OW (RF K f) (Lo i) E σ H:=by
 obtain ⟨Oo,c,t,fi,o,t',eq,k⟩:=q;obtain ⟨ds,t1,e1,eq⟩:=Ae eq
 cases eq
 refine ⟨Oo,c,t,fi,ds,t1,e1,λp vs H1 c1 f1 s1 rv hp=>?_⟩;obtain ⟨c2,f2,s2⟩:=f1.setOwn (i:=i) hp rv;exact k _ _ c2 f2 (s1.trans s2)
theorem WV {x:Str}{f:M (List D)}{pos':Pos}(hN:X.N.Nodup)(hi:X.N[i]?=some x)(hx:Loc X.env.scope x)(he:PE X e (RF X.K f))(hs:swapsWith e (some (.Name x pos')) pos.line X.env=pure false:=by rfl)(hf:X.fn x=true\/X.env.scope.names.lookup x=some .local:=by walk_at "h") :
 PS X (.Assign [.Name x pos'] e pos) (RSg X.K μ (Ft i f)):=Bb (MC hN hi hx he hs hf) λ_ _ _ q=>RS.own q
theorem Du {x:Str}(hN:X.N.Nodup)(hi:X.N[i]?=some x)(hx:Loc X.env.scope x)(hf:X.fn x=true\/X.env.scope.names.lookup x=some .local:=by walk_at "h"):PG X (.Name x pos) (RG X.K (AF i)):=
 LF (U8 hN hi hx hf) λv σ H Q z9=>by
  obtain ⟨Oo,c,t,d,fi,rv,t',eq,k⟩:=z9
  cases eq
  exact k _ H c (fi.set rv) .refl
def C3 (f:M D)(g:D->M Unit):M Out:=bnd f λd=>bnd (g d) λ_=>ret .next
theorem WT {g:D->M Unit}(he:PE X e (RE X.K f))(hg:PG X tg (RG X.K g))(hs:swapsWithSole [tg] e pos.line X.env=pure false:=by rfl)(hw:swappedStores [tg] e X.env=pure none:=by rfl)(hp:(assignEach [tg] X.env).map (·.2)=[assign tg X.env]:=by rfl) :
 PS X (.Assign [tg] e pos) (RSg X.K μ (C3 f g)):=
 Bb (by first | exact Qw he hg hs hw | exact Qw he hg hs hw hp) λE σ H z9=>by
  obtain ⟨Oo,c,t,fi,o,t',eq,k⟩:=z9;obtain ⟨d,t1,e1,eq⟩:=Ae eq;obtain ⟨u,t2,e2,eq⟩:=Ae eq
  cases eq
  exact ⟨Oo,c,t,fi,d,t1,e1,λv H1 c1 f1 s1 rv=>⟨Oo,c1,t1,d,f1,rv,_,e2,λσ2 H2 c2 f2 s2=>k σ2 H2 c2 f2 (s1.trans s2)⟩⟩
inductive RGs (K:PySem.W.Frag)(f:List D->M Unit)(vs:List V)(σ:L2.St)(H:Hp)(Q:L2.St->Hp->Prop):Prop where
 | mk (Oo:Addr->Prop) (c:Cf) (t:T) (ds:List D) (fi:FInv K Oo c t σ H) (r:Reps K c H vs ds) (t':T) (e:f ds t=some ((),t')) (k:∀σ' H' c',FInv K Oo c' t' σ' H'->Stp Oo c H c' H'->Q σ' H'):RGs K f vs σ H Q
theorem Nd {ts:List Expr}{t t':TGs}(h:PGs X ts t)(i:∀v σ H Q,t' v σ H Q->t v σ H Q):PGs X ts t':=λpins s σ H vs us Q I r q=>h pins s σ H vs us Q I r (i vs σ H Q q)
def BY:List D->M Unit
 | []=>ret ()
 | _=>fail
def AK (f:D->M Unit)(g:List D->M Unit):List D->M Unit
 | d :: ds=>bnd (f d) λ_=>g ds
 | []=>fail
theorem Uu:PGs X [] (RGs X.K BY):=Nd U9 λvs σ H Q z9=>by
 obtain ⟨Oo,c,t,ds,fi,rv,t',eq,k⟩:=z9
 cases rv with
 | nil=>cases eq;exact ⟨rfl,k σ H c fi .refl⟩
 | cons _ _=>cases eq
theorem RGs.cons {K:PySem.W.Frag}{f:D->M Unit}{g:List D->M Unit}{vs:List V}{σ:L2.St}{H:Hp}{Q:L2.St->Hp->Prop}(q:RGs K (AK f g) vs σ H Q):TR (RG K f) (RGs K g) vs σ H Q:=by
 obtain ⟨Oo,c,t,ds,fi,rv,t',eq,k⟩:=q
 cases rv with
 | nil=>cases eq
 | cons r rs=>
   obtain ⟨u,t1,e1,eq⟩:=Ae eq;exact ⟨_,_,rfl,Oo,c,t,_,fi,r,t1,e1,λσ1 H1 c1 f1 s1=>⟨Oo,c1,t1,_,f1,rs.mono s1.ext,t',eq,λσ2 H2 c2 f2 s2=>k σ2 H2 c2 f2 (s1.trans s2)⟩⟩
def unT (n:Nat)(g:List D->M Unit):D->M Unit
 | .tup ds=>if ds.length=n then g ds else fail
 | _=>fail
def Cw (st:D->M Unit)(b:M Out):List D->M Out
 | []=>ret .next
 | d :: r=>λt=>match st d t with
   | none=>none
   | some (_,t1)=>match b t1 with
     | some (.next,t2)=>Cw st b r t2
     | some (.cont,t2)=>Cw st b r t2
     | some (.brk,t2)=>some (.next,t2)
     | some (.ret x,t2)=>some (.ret x,t2)
     | none=>none
def C4 (f:M (List D))(st:D->M Unit)(b:M Out):M Out:=bnd f λds=>Cw st b ds
theorem RS.for {f:M (List D)}{g:D->M Unit}{b:M Out}{E:Ends}(q:RSg K μ (C4 f g b) E σ H):Te (RI K f) (RG K g) (RSg K μ b) E σ H:=by
 obtain ⟨Oo,c,t,fi,o,t',eq,k⟩:=q;obtain ⟨ds,t1,e1,eq⟩:=Ae eq;refine ⟨Oo,c,t,fi,ds,t1,e1,λJ H1 c1 f1 s1 it=>?_⟩;refine ⟨λi m σ' H'=>m=ds.length - i/\i<=ds.length/\∃c' t2,FInv K Oo c' t2 σ' H'/\Stp Oo c1 H1 c' H'/\Cw g b (ds.drop i) t2=some (o,t'),⟨_,rfl,ul6 _,c1,t1,f1,.refl,by rw [uj2];exact eq⟩,?_⟩;rintro i m σ' H' ⟨rfl,hi,c',t2,f2,s2,e2⟩
 by_cases hlt:i < ds.length
 ·refine .inr ⟨it.go c' H' i s2.ext hlt,λσ3 H3=>∃c3 t3,FInv K Oo c3 t3 σ3 H3/\Stp Oo c1 H1 c3 H3/\Cw g b (ds.drop (i + 1)) t3=some (o,t'),λσ3 H3 h=>⟨ds.length - (i + 1),by lia,rfl,hlt,h⟩,λx H'' hy=>?_⟩;obtain ⟨rfl,rx⟩:=it.yld c' H' i x H'' _ s2.ext (ub3 hlt) hy;rw [ub1 hlt] at e2;unfold Cw at e2
  cases e3:g ds[i] t2 with
  | none=>rw [e3] at e2;cases e2
  | some p=>
    obtain ⟨u,t3⟩:=p;rw [e3] at e2
    try dsimp only at e2
    refine ⟨Oo,c',t2,_,f2,rx,t3,e3,λσ3 H3 c3 f3 s3=>?_⟩
    cases e4:b t3 with
    | none=>rw [e4] at e2;cases e2
    | some p=>
      obtain ⟨o4,t4⟩:=p;rw [e4] at e2
      try dsimp only at e2
      refine ⟨Oo,c3,t3,f3,o4,t4,e4,λσ5 H5 c5 f5 s5=>?_⟩;have s':=(s2.trans s3).trans s5
      cases o4 with
      | next=>exact ⟨c5,t4,f5,s',e2⟩
      | cont=>exact ⟨c5,t4,f5,s',e2⟩
      | brk=>cases e2;exact k σ5 H5 c5 f5 (s1.trans s')
      | ret r=>cases e2;exact k σ5 H5 c5 f5 (s1.trans s')
 ·have hi':i=ds.length:=by lia
  subst hi';rw [ug7] at e2
  cases e2
  exact .inl ⟨it.stop c' H' s2.ext,k σ' H' c' f2 (s1.trans s2)⟩
theorem PF {iter:Expr}{body:List Stmt}{f:M (List D)}{g:D->M Unit}{b:M Out}(hp:PassesOwn (model X.prog X.w) X.A X.env X.xe)(hc:X.calm=true)(hi:PI X tg iter (RI X.K f))(hg:PG X tg (RG X.K g))(hb:PSs X body (RSg X.K μ b))
 (hs:∀x,foldedSetIterable iter X.env x=pure x:=by intro _;rfl):PS X (.For tg iter body [] pos) (RSg X.K μ (C4 f g b)):=
 Bb (Qx hp hc hi hg hb hs) λ_ _ _ q=>RS.for q
theorem ItOk.lst {K:PySem.W.Frag}{c:Cf}{H:Hp}{p:Addr}{ds:List D}(r:∀c' H',Ext c H c' H'->∃vs,SqL K H' p vs/\Reps K c' H' vs ds):ItOk K (Itl K p) c H ds:=by
 refine ⟨λc' H' i ex hi=>?_,λc' H' i x H'' d ex hd hy=>?_,λc' H' ex=>?_⟩
 ·obtain ⟨vs,h1,h2⟩:=r c' H' ex;obtain ⟨v,e,_⟩:=h2.at (ub3 hi);exact ⟨vs,v,h1,e⟩
 ·obtain ⟨vs,h1,h2⟩:=r c' H' ex;obtain ⟨rfl,h⟩:=hy;exact ⟨rfl,h2.get (h vs h1) hd⟩
 ·obtain ⟨vs,h1,h2⟩:=r c' H' ex;exact ⟨vs,h1,by rw [h2.length];exact ul5 _⟩
theorem ItOk.tup {K:PySem.W.Frag}{c:Cf}{H:Hp}{p:Addr}{ds:List D}(r:∀c' H',Ext c H c' H'->∃vs,SqT K H' p vs/\Reps K c' H' vs ds):ItOk K (Itt K p) c H ds:=by
 refine ⟨λc' H' i ex hi=>?_,λc' H' i x H'' d ex hd hy=>?_,λc' H' ex=>?_⟩
 ·obtain ⟨vs,h1,h2⟩:=r c' H' ex;obtain ⟨v,e,_⟩:=h2.at (ub3 hi);exact ⟨vs,v,h1,e⟩
 ·obtain ⟨vs,h1,h2⟩:=r c' H' ex;obtain ⟨rfl,h⟩:=hy;exact ⟨rfl,h2.get (h vs h1) hd⟩
 ·obtain ⟨vs,h1,h2⟩:=r c' H' ex;exact ⟨vs,h1,by rw [h2.length];exact ul5 _⟩
end
theorem FInv.leave {Oo:Addr->Prop}(f:FInv K Oo c t σ H):SInv K ⟨c.ι,Oo⟩ t.S H/\Ext c H ⟨c.ι,Oo⟩ H:=by
 have ext:Ext c H ⟨c.ι,Oo⟩ H:=⟨λ_ _ e _=>e,λb o _ z=>z.elim .inl λw=>.inr (f.sub b w),λ_ _ e=>e⟩;exact ⟨⟨f.s.len,f.s.nd,λk a o e1 e2=>(f.s.obs k a o e1 e2).mono ext rfl,λb z=>f.s.trk b (f.sub b z),λb z=>f.s.dis b (f.sub b z)⟩,ext⟩
noncomputable def env0 (m:Nat)(ds:List D):List (Option Sl):=ds.map (λd=>some (.val d))++List.replicate (m - ds.length) none
def fnOf (n m:Nat)(g:M Out):Fn:=λds S=>if ds.length=n then (match g ⟨env0 m ds,S⟩ with
 | some (.ret r,t)=>some (r,t.S)
 | some (.next,t)=>some (.non,t.S)
 | _=>none) else none
theorem Gp {ds:List D}{N:List Str}(s:SInv K c S H)(r:Reps K c H vs ds):FInv K c.O c ⟨env0 N.length ds,S⟩ (L2.Ct N vs) H:=by
 have hlen:vs.length=ds.length:=r.length;have none_:∀{i:Nat} {x:Sl},(env0 N.length ds)[i]?=some (some x)->∃d,ds[i]?=some d/\x = .val d:=λ{i x} q=>by
  unfold env0 at q
  by_cases hi:i < ds.length
  ·rw [ub0 (by simpa using hi),uf1,ub3 hi] at q;simp at q;exact ⟨ds[i],ub3 hi,q.symm⟩
  ·rw [ua5 (by simpa using hi),ub5] at q
   split at q <;> simp at q
 refine ⟨s,by simp [env0,L2.Ct,hlen],λ_ z=>z,λi d q=>?_,λi es q=>?_,λi j es _ a q _ _ _=>?_⟩
 ·obtain ⟨d',h1,h2⟩:=none_ q
  cases h2
  obtain ⟨v,h3,h4⟩:=r.at h1;refine ⟨v,?_,h4⟩;unfold L2.Ct;have hi:=(ua9.mp h3).1;rw [ub0 (by simpa using hi),uf1,h3];rfl
 ·obtain ⟨_,_,h2⟩:=none_ q;cases h2
 ·obtain ⟨_,_,h2⟩:=none_ q;cases h2
theorem YN {P:Program}{w:World}{mg:Str->Option Value}{base:Heap}{x qual:Str}{st:Stmt}{fa:Addr}{fd:FuncData}{N ps:List Str}{k:Nat}{g:M Out}(F:Fun K x qual st fa fd)(S:FnScope N ps (Al st))
 (hb:∀(cdv:Value) (A:Around) (outer:List Env) (s:Shared) (H:Hp) (E:XK),Room k (A.deeper (PyProof.Rows.envOfC qual (Al st) s.heap.objs.size fa cdv))->
   PSs (Db CX0 P w K mg base N qual (Al st) fa cdv A outer s H E).nox (A8 st) (RS K g)):FnOk P w K mg base CX0 (k + 1) fa fd ps (spF K (fnOf ps.length N.length g)):=by
 have hlen:∀{ds:List D} {S:List Ob} {z:D×List Ob},fnOf ps.length N.length g ds S=some z->ds.length=ps.length:=λ{ds S z} h=>by
  unfold fnOf at h
  split at h
  ·next h1=>exact h1
  ·cases h
 refine F.ok S (λvs H Q E h=>?_) (λcdv A outer s H vs Q E hr h=>?_)
 ·obtain ⟨c,ds,S,si,rs,r,S',e,_⟩:=h;rw [rs.length];exact hlen e
 obtain ⟨c,ds,S0,si,rs,r,S',e,kk⟩:=h;refine ⟨RS K g,hb cdv A outer s H E hr,?_⟩;have hl:=hlen e;unfold fnOf at e;rw [if_pos hl] at e
 cases eg:g ⟨env0 N.length ds,S0⟩ with
 | none=>rw [eg] at e;cases e
 | some p=>
   obtain ⟨o,t⟩:=p;rw [eg] at e;refine ⟨c.O,c,_,Gp si rs,o,t,eg,λσ' H' c' f' s'=>?_⟩;obtain ⟨si',ext'⟩:=f'.leave;have st':Stp c.O c H ⟨c'.ι,c.O⟩ H':=⟨s'.ext.trans ext',s'.oo⟩
   cases o with
   | next=>cases e;exact kk .non H' _ si' st' (λ_=>Iff.rfl) .non
   | ret d=>cases e;exact λv rv=>kk v H' _ si' st' (λ_=>Iff.rfl) (rv.mono ext')
   | brk=>cases e
   | cont=>cases e
variable {fr:List Nat}
section
variable {X:Cx}{e a b:Expr}{pos:Pos}
def items:D->M (List D)
 | .lst ds=>ret ds
 | .tup ds=>ret ds
 | .scr ns=>ret (ns.map .int)
 | _=>fail
noncomputable def Bd (lo:Int)(n:Nat):List D:=(List.range n).map λi=>.int (lo + (i:Nat))
theorem ItOk.rng {lo:Int}:ItOk K (Itr lo n) c H (Bd lo n):=by
 refine ⟨λc' H' i ex hi=>?_,λc' H' i x H'' d ex hd hy=>?_,λc' H' ex=>?_⟩
 ·have:i < n:=by simpa [Bd] using hi
  exact this
 ·obtain ⟨rfl,rfl⟩:=hy;refine ⟨rfl,?_⟩;have hi:i < n:=by
   have:=(ua9.mp hd).1;simpa [Bd] using this
  have:d = .int (lo + (i:Nat)):=by
   rw [Bd,uf1,List.getElem?_range hi] at hd;simpa using hd.symm
  rw [this];exact .int _
 ·show n<=(Bd lo n).length;simp [Bd]
noncomputable def CU (i:Int):Bool:=decide (-(2 ^ 62)<=i) && decide (i < 2 ^ 62)
def Kh:List D->M (List D)
 | [.int j]=>λt=>if CU j=true then some (Bd 0 j.toNat,t) else none
 | _=>fail
def Ki:List D->M (List D)
 | [.int i,.int j]=>λt=>if (CU i && CU j)=true then some (Bd i (j - i).toNat,t) else none
 | _=>fail
def C8 (f:M (List D)):M (List D):=bnd f Kh
def Gm (f:M (List D)):M (List D):=bnd f Ki
theorem FP {i:Int}(h:CU i=true) : -(2 ^ 62)<=i/\i < 2 ^ 62:=by
 unfold CU at h;rw [ug5] at h;exact ⟨uf9 h.1,uf9 h.2⟩
theorem Py {f:M (List D)}(hg:Gl X "range")(hm:X.mg "range" = none)(ha:PA X [a] (RA X.K f))(hs:starEach [a] X.env=[(false,eval a X.env)]:=by rfl):PI X tg (.Call (.Name "range" p) [a] [] pos) (RI X.K (C8 f)):=
 GU (Qt hg hm ha hs) λσ H R z9=>by
  obtain ⟨Oo,c,t,fi,ds,t',eq,k⟩:=z9;obtain ⟨xs,t1,e1,eq⟩:=Ae eq;refine ⟨Oo,c,t,fi,xs,t1,e1,λvs H1 c1 f1 s1 rv=>?_⟩;unfold Kh at eq
  split at eq
  ·next j=>
   split at eq
   ·next hs=>
    cases eq
    cases rv with
    | cons r rs=>
      cases rs
      cases r
      obtain ⟨h1,h2⟩:=FP hs;exact ⟨j,rfl,h1,h2,k _ H1 c1 f1 s1 ItOk.rng⟩
   ·cases eq
  ·cases eq
theorem Pz {f:M (List D)}(hg:Gl X "range")(hm:X.mg "range" = none)(ha:PA X [a,b] (RA X.K f))(hs:starEach [a,b] X.env=[(false,eval a X.env),(false,eval b X.env)]:=by rfl)(hs2:starEach [b] X.env=[(false,eval b X.env)]:=by rfl):PI X tg (.Call (.Name "range" p) [a,b] [] pos) (RI X.K (Gm f)):=
 GU (Qu hg hm ha hs hs2) λσ H R z9=>by
  obtain ⟨Oo,c,t,fi,ds,t',eq,k⟩:=z9;obtain ⟨xs,t1,e1,eq⟩:=Ae eq;refine ⟨Oo,c,t,fi,xs,t1,e1,λvs H1 c1 f1 s1 rv=>?_⟩;unfold Ki at eq
  split at eq
  ·next i j=>
   split at eq
   ·next hs=>
    cases eq
    rw [ug5] at hs
    cases rv with
    | cons r rs=>
      cases r
      cases rs with
      | cons r rs=>
        cases rs
        cases r
        obtain ⟨h1,h2⟩:=FP hs.1;obtain ⟨h3,h4⟩:=FP hs.2;exact ⟨i,j,rfl,⟨h1,h2,h3,h4⟩,k _ H1 c1 f1 s1 ItOk.rng⟩
   ·cases eq
  ·cases eq
def BS (st:D->M Unit)(tst:M Bool)(elt:M D):List D->M (List D)
 | []=>ret []
 | d :: r=>bnd (st d) λ_=>bnd tst λk=>if k=true then bnd elt λx=>bnd (BS st tst elt r) λxs=>ret (x :: xs) else BS st tst elt r
noncomputable def Zk:Option (Option Sl)->Option Sl
 | some (some (.val d))=>some (.val d)
 | _=>none
def cenv (n:Nat)(fr:List Nat)(env:List (Option Sl)):List (Option Sl):=List.replicate n none++fr.map λi=>Zk env[i]?
noncomputable def EQ (n:Nat)(fr:List Nat)(σ:L2.St):L2.St:=List.replicate n none++fr.map λi=>(σ[i]?).join
def B0 (n:Nat)(fr:List Nat)(f:M (List D))(st:D->M Unit)(tst:M Bool)(elt:M D):M (List D):=bnd f λds t=>match BS st tst elt ds ⟨cenv n fr t.env,t.S⟩ with
 | some (xs,t')=>if xs.length<=LIM then some (xs,{ t with S:=t'.S }) else none
 | none=>none
theorem Ip {env:List (Option Sl)}{x:Sl}(h:(cenv n fr env)[j]?=some (some x)):∃i d,n<=j/\fr[j - n]?=some i/\env[i]?=some (some (.val d))/\x = .val d:=by
 unfold cenv at h
 by_cases hj:j < n
 ·rw [ub0 (by simpa using hj),ub5] at h
  split at h <;> simp at h
 ·rw [ua5 (by simpa using hj),uc7,uf1] at h
  cases e:fr[j - n]? with
  | none=>rw [e] at h;simp at h
  | some i=>
    rw [e] at h;simp only [ui3,uf7] at h
    cases e2:env[i]? with
    | none=>rw [e2] at h;cases h
    | some o=>
      cases o with
      | none=>rw [e2] at h;cases h
      | some sl=>
        cases sl with
        | own _=>rw [e2] at h;cases h
        | val d=>rw [e2] at h;cases h;exact ⟨i,d,by lia,rfl,e2,rfl⟩
theorem Go {Oo:Addr->Prop}(f:FInv K Oo c t σ H):FInv K c.O c ⟨cenv n fr t.env,t.S⟩ (EQ n fr σ) H:=by
 refine ⟨f.s,by simp [cenv,EQ],λ_ z=>z,λj d q=>?_,λj es q=>?_,λj _ es _ _ q _ _ _=>?_⟩
 ·obtain ⟨i,d',h0,h1,h2,h3⟩:=Ip q
  cases h3
  obtain ⟨v,h4,h5⟩:=f.val i d h2;refine ⟨v,?_,h5⟩;unfold EQ;rw [ua5 (by simpa using h0),uc7,uf1,h1];simp [h4]
 ·obtain ⟨_,_,_,_,_,h⟩:=Ip q;cases h
 ·obtain ⟨_,_,_,_,_,h⟩:=Ip q;cases h
theorem RF.comp {f:M (List D)}{st:D->M Unit}{tst:M Bool}{elt:M D}{Q:VK}(q:RF K (B0 n fr f st tst elt) σ H Q):Lu (RI K f) (RG K st) (RT K tst) (RE K elt) (EQ n fr) σ H Q:=by
 obtain ⟨Oo,c,t,fi,xs,t',eq,k⟩:=q;obtain ⟨ds,t1,e1,eq⟩:=Ae eq;refine ⟨Oo,c,t,fi,ds,t1,e1,λJ H1 c1 f1 s1 it=>?_⟩
 cases e3:BS st tst elt ds ⟨cenv n fr t1.env,t1.S⟩ with
 | none=>rw [e3] at eq;cases eq
 | some p=>
   obtain ⟨ys,t3⟩:=p;rw [e3] at eq;dsimp only at eq
   split at eq
   case isFalse=>cases eq
   next hl=>
   cases eq
   refine ⟨λi m acc σ' H'=>m=ds.length - i/\i<=ds.length/\∃c' t2 zs rest,FInv K c1.O c' t2 σ' H'/\Stp c1.O c1 H1 c' H'/\Reps K c' H' acc zs/\BS st tst elt (ds.drop i) t2=some (rest,t3)/\xs=zs++rest,
    ⟨_,rfl,ul6 _,c1,_,[],xs,Go f1,.refl,.nil,by rw [uj2];exact e3,rfl⟩,?_⟩
   rintro i m acc σ' H' ⟨rfl,hi,c',t2,zs,rest,f2,s2,ra,e2,ez⟩;have hacc:acc.length<=sizeLine:=by
    have:zs.length<=xs.length:=by rw [ez,ue3];exact ug8 _ _
    rw [ra.length];exact uk7 this (uk7 hl Ci)
   refine ⟨hacc,?_⟩
   by_cases hlt:i < ds.length
   ·refine .inr ⟨it.go c' H' i s2.ext hlt,λx H'' hy=>?_⟩;obtain ⟨rfl,rx⟩:=it.yld c' H' i x H'' _ s2.ext (ub3 hlt) hy;rw [ub1 hlt] at e2;unfold BS at e2;obtain ⟨u,t4,e4,e2⟩:=Ae e2;obtain ⟨kb,t5,e5,e2⟩:=Ae e2;refine ⟨c1.O,c',t2,_,f2,rx,t4,e4,λσ3 H3 c3 f3 s3=>⟨c1.O,c3,t4,f3,kb,t5,e5,λH4 c4 f4 s4=>?_⟩⟩
    cases kb with
    | false=>
      rw [if_neg ue0] at e2 ⊢;exact ⟨ds.length - (i + 1),by lia,rfl,hlt,c4,t5,zs,rest,f4,(s2.trans s3).trans s4,ra.mono (s3.trans s4).ext,e2,ez⟩
    | true=>
      rw [if_pos rfl] at e2 ⊢;obtain ⟨x6,t6,e6,e2⟩:=Ae e2;obtain ⟨r7,t7,e7,e2⟩:=Ae e2
      cases e2
      refine ⟨c1.O,c4,t5,f4,x6,t6,e6,λv H5 c5 f5 s5 rv=>?_⟩;exact ⟨ds.length - (i + 1),by lia,rfl,hlt,c5,t6,zs++[x6],r7,f5,((s2.trans s3).trans s4).trans s5,(ra.mono ((s3.trans s4).trans s5).ext).append (.cons rv .nil),e7,by rw [ez,uf4];rfl⟩
   ·have hi':i=ds.length:=by lia
    subst hi';rw [ug7] at e2
    cases e2
    refine .inl ⟨it.stop c' H' s2.ext,λp hp _=>?_⟩;obtain ⟨si,ext⟩:=f2.leave;obtain ⟨f6,s6⟩:=f1.after si ⟨s2.ext.trans ext,s2.oo⟩ (λ_=>Iff.rfl);rw [uh8] at ez;subst ez;exact k p acc H' _ f6 (s1.trans s6) (ra.mono ext) hp
end
end F2
namespace F2
open PySem L2 PySem.Spec PySem.SeqAt
noncomputable def eq0:D->D->Option Bool
 | .int a,.int b=>some (a == b)
 | .str a,.str b=>some (a == b)
 | .bl a,.bl b=>some (a == b)
 | .non,.non=>some true
 | .int _,.str _=>some false
 | .str _,.int _=>some false
 | _,_=>none
noncomputable def DF (f:D->D->Option Bool):List D->List D->Option Bool
 | x :: xs,y :: ys=>match f x y,DF f xs ys with
   | some a,some b=>some (a && b)
   | _,_=>none
 | _,_=>some true
def eqN:Nat->D->D->Option Bool
 | 0,x,y=>eq0 x y
 | n + 1,.tup xs,.tup ys=>(DF (eqN n) xs ys).map λb=>b && xs.length == ys.length
 | n + 1,.lst xs,.lst ys=>if xs.length=ys.length then DF (eqN n) xs ys else some false
 | _ + 1,x,y=>eq0 x y
noncomputable def ej (f:D->D->Option Bool)(xs ys:List D)(j:Nat):Bool:=match xs[j]?,ys[j]? with
 | some d,some e=>(f d e).getD true
 | _,_=>true
theorem Dc {f:D->D->Option Bool}:∀{xs ys:List D} {b:Bool},DF f xs ys=some b->b=(List.range (min xs.length ys.length)).all (ej f xs ys)/\∀(j:Nat) d e,xs[j]?=some d->ys[j]?=some e->∃k,f d e=some k
 | [],ys,b,h=>by
   have h:some true=some b:=by simpa [DF] using h
   cases h
   refine ⟨by simp,λj d e q _=>by simp at q⟩
 | x :: xs,[],b,h=>by
   have h:some true=some b:=by simpa [DF] using h
   cases h
   refine ⟨by simp,λj d e _ q=>by simp at q⟩
 | x :: xs,y :: ys,b,h=>by
   unfold DF at h
   cases e1:f x y with
   | none=>rw [e1] at h;cases h
   | some a=>
     cases e2:DF f xs ys with
     | none=>rw [e1,e2] at h;cases h
     | some c=>
       rw [e1,e2] at h
       cases h
       obtain ⟨h1,h2⟩:=Dc e2;refine ⟨?_,λj d e q1 q2=>?_⟩
       ·have hm:min (x :: xs).length (y :: ys).length=min xs.length ys.length + 1:=by simp [Nat.succ_min_succ]
        rw [hm,List.range_succ_eq_map,uj7,List.all_map,h1];have:ej f (x :: xs) (y :: ys) 0=a:=by simp [ej,e1]
        rw [this];rfl
       ·cases j with
        | zero=>simp at q1 q2;subst q1 q2;exact ⟨a,e1⟩
        | succ j=>exact h2 j d e (by simpa using q1) (by simpa using q2)
variable {P:Program}{w:World}{H:Hp}{vs:List V}
theorem Gx {h:Heap}{a:Addr}(o:HOk P w H h)(e:H a=some (.lst vs)):∃its:List Value,Vals vs its/\h.IsList a its.toArray:=by
 obtain ⟨_,its,n,r,q⟩:=o a _ e;exact ⟨its,r,_,q,rfl,n,rfl⟩
theorem HM {h:Heap}{a:Addr}(o:HOk P w H h)(e:H a=some (.tup vs)):∃its:List Value,Vals vs its/\h.IsTuple a its.toArray:=by
 obtain ⟨_,its,r,q⟩:=o a _ e;exact ⟨its,r,q⟩
theorem Jy {its:List Value}{j:Nat}(r:Vals vs its)(h:j < its.toArray.size):∃v,vs[j]?=some v/\RelV v its.toArray[j]:=by
 have h':j < its.length:=by simpa using h
 have hl:j < vs.length:=by rw [r.length];exact h'
 obtain ⟨u,e1,e2⟩:=r.get (ub3 hl);refine ⟨vs[j],ub3 hl,?_⟩;rw [ub3 h'] at e1
 cases e1
 simpa using e2
variable {b:Bool}
theorem Po {f:D->D->Option Bool}{xs ys:List D}(h:DF f xs ys=some b)(ht:∀(j:Nat) d e k,xs[j]?=some d->ys[j]?=some e->f d e=some k->k=true):b=true:=by
 obtain ⟨h1,h2⟩:=Dc h;rw [h1,ug9];intro j hj;have hj':=ui9.mp hj;have l1:j < xs.length:=by lia
 have l2:j < ys.length:=by lia
 obtain ⟨k,ek⟩:=h2 j _ _ (ub3 l1) (ub3 l2);have:=ht j _ _ k (ub3 l1) (ub3 l2) ek;unfold ej;rw [ub3 l1,ub3 l2];simp [ek,this]
theorem G6 {x y:D}(e:eq0 x y=some b):(∃i j,x = .int i/\y = .int j/\(i == j)=b)\/(∃i j,x = .str i/\y = .str j/\(i == j)=b)\/(∃i j,x = .bl i/\y = .bl j/\(i == j)=b)\/(x = .non/\y = .non/\true=b)\/(∃i j,x = .int i/\y = .str j/\false=b)\/(∃i j,x = .str i/\y = .int j/\false=b):=by
 unfold eq0 at e
 split at e
 ·cases e;exact .inl ⟨_,_,rfl,rfl,rfl⟩
 ·cases e;exact .inr (.inl ⟨_,_,rfl,rfl,rfl⟩)
 ·cases e;exact .inr (.inr (.inl ⟨_,_,rfl,rfl,rfl⟩))
 ·cases e;exact .inr (.inr (.inr (.inl ⟨rfl,rfl,rfl⟩)))
 ·cases e;exact .inr (.inr (.inr (.inr (.inl ⟨_,_,rfl,rfl,rfl⟩))))
 ·cases e;exact .inr (.inr (.inr (.inr (.inr ⟨_,_,rfl,rfl,rfl⟩))))
 ·cases e
theorem G7 {n:Nat}{x y:D}(e:eqN n x y=some b):eq0 x y=some b\/(∃m xs ys,n=m + 1/\x = .lst xs/\y = .lst ys/\(if xs.length=ys.length then DF (eqN m) xs ys else some false)=some b)\/∃m xs ys b',n=m + 1/\x = .tup xs/\y = .tup ys/\DF (eqN m) xs ys=some b'/\(b' && xs.length == ys.length)=b:=by
 unfold eqN at e
 split at e
 ·exact .inl e
 ·obtain ⟨b',e1,e2⟩:=uc2.mp e;exact .inr (.inr ⟨_,_,_,b',rfl,rfl,rfl,e1,e2⟩)
 ·exact .inr (.inl ⟨_,_,_,rfl,rfl,rfl,e⟩)
 ·exact .inl e
variable {K:PySem.W.Frag}{c:Cf}
theorem Nn:∀(n:Nat) {v:V} {d e:D} {b:Bool},Rep K c H v d->Rep K c H v e->eqN n d e=some b->b=true
 :=by
  intro n
  induction n using Nat.strongRecOn with
  | ind n ih=>
  intro v d e b rd re q;have items:∀{m:Nat} {vs:List V} {ds es:List D} {b':Bool},n=m + 1->Reps K c H vs ds->Reps K c H vs es->DF (eqN m) ds es=some b'->b'=true:=λ{m vs ds es b'} hm r1 r2 e'=>
   Po e' λj d e k q1 q2 ek=>by
    obtain ⟨v,g1,g2⟩:=r1.at q1;exact ih m (by lia) g2 (r2.get g1 q2) ek
  rcases G7 q with q0 | ⟨m,ds,es,hm,rfl,rfl,q0⟩ | ⟨m,ds,es,b',hm,rfl,rfl,q1,q2⟩
  ·rcases G6 q0 with ⟨i,j,rfl,rfl,rfl⟩ | ⟨i,j,rfl,rfl,rfl⟩ | ⟨i,j,rfl,rfl,rfl⟩ | ⟨rfl,rfl,rfl⟩ | ⟨i,j,rfl,rfl,rfl⟩ | ⟨i,j,rfl,rfl,rfl⟩
   ·cases rd;cases re;simp
   ·cases rd;cases re;simp
   ·cases rd;cases re;simp
   ·cases rd;cases re;rfl
   ·cases rd;cases re
   ·cases rd;cases re
  ·cases rd with
   | lst h1 h2 h3=>
     cases re with
     | lst g1 g2 g3=>
       rw [h1] at g1;cases g1
       rw [if_pos (h3.length.symm.trans g3.length)] at q0;exact items hm h3 g3 q0
  ·cases rd with
   | tup h1 h2 h3=>
     cases re with
     | tup g1 g2 g3=>
       rw [h1] at g1;cases g1
       rw [<-q2,items hm h3 g3 q1,h3.length.symm.trans g3.length];simp
theorem Nm {s:Shared}(hok:HOk P w H s.heap):∀(n:Nat) {A:Around} {x y:V} {u v:Value} {dx dy:D} {b:Bool},RelV x u->RelV y v->Rep K c H x dx->Rep K c H y dy->eqN n dx dy=some b->A.units + n < cLine->
 RcAt A s u v b/\(EqAt A s u v b)
 :=by
  intro n
  induction n using Nat.strongRecOn with
  | ind n ih=>
  intro A x y u v dx dy b ru rv rx ry e hu;have items:∀{m:Nat} {vs ws:List V} {is js:List Value} {ds es:List D} {b':Bool},n=m + 1->Vals vs is->Vals ws js->Reps K c H vs ds->Reps K c H ws es->DF (eqN m) ds es=some b'->
   ∀j (h1:j < is.toArray.size) (h2:j < js.toArray.size),EqAt A.in1 s is.toArray[j] js.toArray[j] (ej (eqN m) ds es j):=λ{m vs ws is js ds es b'} hm r1 r2 q1 q2 e' j h1 h2=>by
   obtain ⟨v1,a1,a2⟩:=Jy r1 h1;obtain ⟨v2,b1,b2⟩:=Jy r2 h2;obtain ⟨l1,g1⟩:=ua9.mp a1;obtain ⟨l2,g2⟩:=ua9.mp b1;have k1:ds[j]?=some (ds[j]'(by rw [<-q1.length];exact l1)):=ub3 _;have k2:es[j]?=some (es[j]'(by rw [<-q2.length];exact l2)):=ub3 _;obtain ⟨kk,ek⟩:=(Dc e').2 j _ _ k1 k2;have:ej (eqN m) ds es j=kk:=by unfold ej;rw [k1,k2];simp [ek]
   rw [this];have hu':A.in1.units + m < cLine:=by
    have:A.in1.units=A.units + 1:=by first | rfl | exact Around.units_in1 _ | simp [Around.in1,Around.units]
    lia
   exact (ih m (by lia) a2 b2 (q1.get a1 k1) (q2.get b1 k2) ek hu').2
  have hu0:A.units < cLine:=by lia
  have conc:∀{p q:Addr} {k:Bool},p≠q->RcAt A s (.ref p) (.ref q) k->RcAt A s (.ref p) (.ref q) k/\EqAt A s (.ref p) (.ref q) k:=λhn h=>⟨h,EqAt.of_refs hn h⟩;rcases G7 e with e0 | ⟨m,ds,es,hm,rfl,rfl,e0⟩ | ⟨m,ds,es,b',hm,rfl,rfl,e1,e2⟩
  ·rcases G6 e0 with ⟨i,j,rfl,rfl,rfl⟩ | ⟨i,j,rfl,rfl,rfl⟩ | ⟨i,j,rfl,rfl,rfl⟩ | ⟨rfl,rfl,rfl⟩ | ⟨i,j,rfl,rfl,rfl⟩ | ⟨i,j,rfl,rfl,rfl⟩
   ·cases rx;cases ry;obtain ⟨t',rfl⟩:=ru;obtain ⟨t,rfl⟩:=rv;exact ⟨RcAt.int_int _ _ _ _,EqAt.int_int _ _ _ _⟩
   ·cases rx;cases ry;obtain ⟨t',rfl⟩:=ru;obtain ⟨t,rfl⟩:=rv;exact ⟨RcAt.str_str _ _ _ _,EqAt.str_str _ _ _ _⟩
   ·cases rx;cases ry;cases ru;cases rv;exact ⟨RcAt.bool_bool _ _,EqAt.bool_bool _ _⟩
   ·cases rx;cases ry;cases ru;cases rv;exact ⟨RcAt.none_none,EqAt.same _⟩
   ·cases rx;cases ry;obtain ⟨t',rfl⟩:=ru;obtain ⟨t,rfl⟩:=rv;exact ⟨RcAt.int_str _ _ _ _,EqAt.int_str _ _ _ _⟩
   ·cases rx;cases ry;obtain ⟨t',rfl⟩:=ru;obtain ⟨t,rfl⟩:=rv;exact ⟨RcAt.str_int _ _ _ _,EqAt.str_int _ _ _ _⟩
  ·cases rx with
   | @lst p vs _ g1 g2 g3=>
   cases ry with
   | @lst q ws _ h1 h2 h3=>
     cases ru
     cases rv
     obtain ⟨is,r1,l1⟩:=Gx hok g1;obtain ⟨js,r2,l2⟩:=Gx hok h1;have hs1:is.toArray.size=ds.length:=by rw [<-g3.length,r1.length];simp
     have hs2:js.toArray.size=es.length:=by rw [<-h3.length,r2.length];simp
     by_cases hl:ds.length=es.length
     ·rw [if_pos hl] at e0;have hsz:is.toArray.size=js.toArray.size:=by rw [hs1,hs2,hl]
      have rc:=RcAt.lists l1 l2 hsz hu0 (items hm r1 r2 g3 h3 e0);have eb:(List.range is.toArray.size).all (ej (eqN m) ds es)=b:=by rw [(Dc e0).1,hs1,<-hl,Nat.min_self]
      rw [eb] at rc
      by_cases hpq:p=q
      ·refine ⟨rc,?_⟩;subst hpq;rw [Nn n (Rep.lst g1 g2 g3) (Rep.lst h1 h2 h3) e];exact EqAt.same _
      ·exact conc hpq rc
     ·rw [if_neg hl] at e0
      cases e0
      have hsz:(is.toArray.size != js.toArray.size)=true:=by rw [hs1,hs2];simpa using hl
      refine conc (λz=>hl ?_) (RcAt.lists_lengths l1 l2 hsz hu0);subst z;rw [g1] at h1;cases h1
      rw [<-g3.length,<-h3.length]
  ·cases rx with
   | @tup p vs _ g1 g2 g3=>
   cases ry with
   | @tup q ws _ h1 h2 h3=>
     cases ru
     cases rv
     obtain ⟨is,r1,l1⟩:=HM hok g1;obtain ⟨js,r2,l2⟩:=HM hok h1;have hs1:is.toArray.size=ds.length:=by rw [<-g3.length,r1.length];simp
     have hs2:js.toArray.size=es.length:=by rw [<-h3.length,r2.length];simp
     have rc:=RcAt.tuples l1 l2 hu0 (items hm r1 r2 g3 h3 e1);have eb:((List.range (min is.toArray.size js.toArray.size)).all (ej (eqN m) ds es) && is.toArray.size == js.toArray.size)=b:=by rw [hs1,hs2,<-(Dc e1).1];exact e2
     rw [eb] at rc
     by_cases hpq:p=q
     ·refine ⟨rc,?_⟩;subst hpq;rw [Nn n (Rep.tup g1 g2 g3) (Rep.tup h1 h2 h3) e];exact EqAt.same _
     ·exact conc hpq rc
theorem UV {s:Shared}(hok:HOk P w H s.heap)(n:Nat){A:Around}{x y:V}{u v:Value}{dx dy:D}{b:Bool}(ru:RelV x u)(rv:RelV y v)(rx:Rep K c H x dx)(ry:Rep K c H y dy)(e:eqN n dx dy=some b)(hu:A.units + n < cLine) :
 RcNeAt A s u v (!b):=by
 have items:∀{m:Nat} {vs ws:List V} {is js:List Value} {ds es:List D} {b':Bool},n=m + 1->Vals vs is->Vals ws js->Reps K c H vs ds->Reps K c H ws es->DF (eqN m) ds es=some b'->
  ∀j (h1:j < is.toArray.size) (h2:j < js.toArray.size),EqAt A.in1 s is.toArray[j] js.toArray[j] (ej (eqN m) ds es j):=λ{m vs ws is js ds es b'} hm r1 r2 q1 q2 e' j h1 h2=>by
  obtain ⟨v1,a1,a2⟩:=Jy r1 h1;obtain ⟨v2,b1,b2⟩:=Jy r2 h2;obtain ⟨l1,g1⟩:=ua9.mp a1;obtain ⟨l2,g2⟩:=ua9.mp b1;have k1:ds[j]?=some (ds[j]'(by rw [<-q1.length];exact l1)):=ub3 _;have k2:es[j]?=some (es[j]'(by rw [<-q2.length];exact l2)):=ub3 _;obtain ⟨kk,ek⟩:=(Dc e').2 j _ _ k1 k2;have:ej (eqN m) ds es j=kk:=by unfold ej;rw [k1,k2];simp [ek]
  rw [this];have hu':A.in1.units + m < cLine:=by
   have:A.in1.units=A.units + 1:=rfl;lia
  exact (Nm hok m a2 b2 (q1.get a1 k1) (q2.get b1 k2) ek hu').2
 have hu0:A.units < cLine:=by lia
 rcases G7 e with e0 | ⟨m,ds,es,hm,rfl,rfl,e0⟩ | ⟨m,ds,es,b',hm,rfl,rfl,e1,e2⟩
 ·rcases G6 e0 with ⟨i,j,rfl,rfl,rfl⟩ | ⟨i,j,rfl,rfl,rfl⟩ | ⟨i,j,rfl,rfl,rfl⟩ | ⟨rfl,rfl,rfl⟩ | ⟨i,j,rfl,rfl,rfl⟩ | ⟨i,j,rfl,rfl,rfl⟩
  ·cases rx;cases ry;obtain ⟨t',rfl⟩:=ru;obtain ⟨t,rfl⟩:=rv;exact RcNeAt.int_int _ _ _ _
  ·cases rx;cases ry;obtain ⟨t',rfl⟩:=ru;obtain ⟨t,rfl⟩:=rv;exact RcNeAt.str_str _ _ _ _
  ·cases rx;cases ry;cases ru;cases rv;exact RcNeAt.bool_bool _ _
  ·cases rx;cases ry;cases ru;cases rv;exact RcNeAt.none_none
  ·cases rx;cases ry;obtain ⟨t',rfl⟩:=ru;obtain ⟨t,rfl⟩:=rv;exact RcNeAt.int_str _ _ _ _
  ·cases rx;cases ry;obtain ⟨t',rfl⟩:=ru;obtain ⟨t,rfl⟩:=rv;exact RcNeAt.str_int _ _ _ _
 ·cases rx with
  | @lst p vs _ g1 g2 g3=>
  cases ry with
  | @lst q ws _ h1 h2 h3=>
    cases ru
    cases rv
    obtain ⟨is,r1,l1⟩:=Gx hok g1;obtain ⟨js,r2,l2⟩:=Gx hok h1;have hs1:is.toArray.size=ds.length:=by rw [<-g3.length,r1.length];simp
    have hs2:js.toArray.size=es.length:=by rw [<-h3.length,r2.length];simp
    by_cases hl:ds.length=es.length
    ·rw [if_pos hl] at e0;have hsz:is.toArray.size=js.toArray.size:=by rw [hs1,hs2,hl]
     have rc:=RcNeAt.lists l1 l2 hsz hu0 (items hm r1 r2 g3 h3 e0);rw [show (List.range is.toArray.size).all (ej (eqN m) ds es)=b by rw [(Dc e0).1,hs1,<-hl,Nat.min_self]] at rc;exact rc
    ·rw [if_neg hl] at e0
     cases e0
     exact RcNeAt.lists_lengths l1 l2 (by rw [hs1,hs2];simpa using hl) hu0
 ·cases rx with
  | @tup p vs _ g1 g2 g3=>
  cases ry with
  | @tup q ws _ h1 h2 h3=>
    cases ru
    cases rv
    obtain ⟨is,r1,l1⟩:=HM hok g1;obtain ⟨js,r2,l2⟩:=HM hok h1;have hs1:is.toArray.size=ds.length:=by rw [<-g3.length,r1.length];simp
    have hs2:js.toArray.size=es.length:=by rw [<-h3.length,r2.length];simp
    have rc:=RcNeAt.tuples l1 l2 hu0 (items hm r1 r2 g3 h3 e1);have eb:((List.range (min is.toArray.size js.toArray.size)).all (ej (eqN m) ds es) && is.toArray.size == js.toArray.size)=b:=by rw [hs1,hs2,<-(Dc e1).1];exact e2
    rw [eb] at rc;exact rc
def EQD:Nat:=40
def neD (x y:D):M D:=λt=>(eqN EQD x y).map λb=>(.bl (!b),t)
def OL (K:PySem.W.Frag)(g:Bool->Bool):R2:=λx y H Q=>∃c dx dy b,Rep K c H x dx/\Rep K c H y dy/\eqN EQD dx dy=some b/\Q (.bl (g b)) H
theorem Qp {X:Cx}(hu:X.A.units + 64 < cLine):OpR X (compareOp .Eq) (OL X.K id):=by
 intro pins s σ H x y v u Q I rx ry h;obtain ⟨c,dx,dy,b,q1,q2,e,q⟩:=h;have hu':X.A.units + EQD < cLine:=by unfold EQD;lia
 exact (Nm I.hok EQD rx ry q1 q2 e hu').1 X.prog X.w _ _ ⟨.bl b,H,I,rfl,q⟩
theorem Mw {X:Cx}(hu:X.A.units + 64 < cLine):OpR X (compareOp .NotEq) (OL X.K (!·)):=by
 intro pins s σ H x y v u Q I rx ry h;obtain ⟨c,dx,dy,b,q1,q2,e,q⟩:=h;have hu':X.A.units + EQD < cLine:=by unfold EQD;lia
 exact UV I.hok EQD rx ry q1 q2 e hu' X.prog X.w _ _ ⟨.bl (!b),H,I,rfl,q⟩
end F2
set_option maxHeartbeats 4000000
namespace F2
open PySem L2 PySem.Spec
variable {g:Int->Int->D}{t:T}{z:D×T}{X:Cx}{c:Cf}{H:Hp}
section
variable {K:PySem.W.Frag}
def i2 (g:Int->Int->D):D->D->M D
 | .int i,.int j=>ret (g i j)
 | _,_=>fail
theorem W3 {x y:D}(h:i2 g x y t=some z):∃i j,x = .int i/\y = .int j/\z=(g i j,t):=by
 cases x with
 | int i=>cases y with
   | int j=>cases h;exact ⟨i,j,rfl,rfl,rfl⟩
   | _=>cases h
 | _=>cases h
theorem X7 {gV:Int->Int->V}(hr:∀i j c H,Rep K c H (gV i j) (g i j)):Bh K (rI0 gV) (i2 g):=λ{Oo c t σ H x y dx dy r t' Q} f rx ry eq k=>by
 obtain ⟨i,j,rfl,rfl,z⟩:=W3 eq
 cases z
 cases rx
 cases ry
 exact ⟨i,j,rfl,rfl,k _ H c f .refl (hr i j c H)⟩
def i2C (C:Int->Int->Bool)(g:Int->Int->D):D->D->M D
 | .int i,.int j=>λt=>if C i j=true then some (g i j,t) else none
 | _,_=>fail
theorem UJ {C:Int->Int->Bool}{x y:D}(h:i2C C g x y t=some z):∃i j,x = .int i/\y = .int j/\C i j=true/\z=(g i j,t):=by
 cases x with
 | int i=>cases y with
   | int j=>
     unfold i2C at h;dsimp only at h
     by_cases hc:C i j=true
     ·rw [if_pos hc] at h;cases h;exact ⟨i,j,rfl,rfl,hc,rfl⟩
     ·rw [if_neg hc] at h;cases h
   | _=>cases h
 | _=>cases h
theorem HZ {P:Int->Int->Prop}{C:Int->Int->Bool}{gV:Int->Int->V}(hP:∀i j,C i j=true->P i j)(hr:∀i j c H,Rep K c H (gV i j) (g i j)):Bh K (rI P gV) (i2C C g):=λ{Oo c t σ H x y dx dy r t' Q} f rx ry eq k=>by
 obtain ⟨i,j,rfl,rfl,hc,z⟩:=UJ eq
 cases z
 cases rx
 cases ry
 exact ⟨i,j,rfl,rfl,hP i j hc,k _ H c f .refl (hr i j c H)⟩
def Cz:=i2 λi j=>.int (i - j)
noncomputable def Ll (_ j:Int):Bool:=decide (0 < j) && decide (j < 1073741824)
def A0:=i2C Ll λi j=>.int (i / j)
def Ba:=i2C (λ_ j=>decide (0 < j)) λi j=>.int (i % j)
noncomputable def Ls (i j:Int):Bool:=decide (0<=j) && decide (j<=1000000) && decide (i.natAbs < 2 ^ 64)
def MB:=i2C Ls λi j=>.int (i ^ j.toNat)
noncomputable def E9 (i j:Int):Bool:=(decide (-(2 ^ 64) < i) && decide (i < 2 ^ 64)) || (decide (-(2 ^ 64) < j) && decide (j < 2 ^ 64))
def MM:=i2C (λ_ j=>decide (0<=j)) λi j=>.int (i / 2 ^ j.toNat)
theorem VL:Bh K (rI0 λi j=>.int (i - j)) Cz:=X7 λi j _ _=>.int _
theorem SX:Bh K (rI V9 λi j=>.int (i / j)) A0:=HZ (λi j h=>by
 unfold Ll at h;rw [ug5] at h;exact ⟨uf9 h.1,uf9 h.2⟩) λi j _ _=>.int _
theorem VC:Bh K (rI (λ_ j=>0 < j) λi j=>.int (i % j)) Ba:=HZ (λi j h=>uf9 h) λi j _ _=>.int _
theorem VH:Bh K (rI Wa λi j=>.int (i ^ j.toNat)) MB:=HZ (λi j h=>by
 unfold Ls at h;rw [ug5,ug5] at h;exact ⟨uf9 h.1.1,uf9 h.1.2,uf9 h.2⟩) λi j _ _=>.int _
theorem VI:Bh K (rI (λ_ j=>0<=j) λi j=>.int (i / 2 ^ j.toNat)) MM:=HZ (λi j h=>uf9 h) λi j _ _=>.int _
theorem Qj {i j:Int}(h:E9 i j=true):CMul i j:=by
 unfold E9 at h;rw [Bool.or_eq_true,ug5,ug5] at h;rcases h with h | h
 ·exact .inl ⟨uf9 h.1,uf9 h.2⟩
 ·exact .inr ⟨uf9 h.1,uf9 h.2⟩
def Ka:D->M D
 | .int i=>ret (.int (-i))
 | _=>fail
theorem VF:Wi K (rU λi=>.int (-i)) Ka:=λ{Oo c t σ H x dx r t' Q} f rx eq k=>by
 cases rx with
 | int i=>cases eq;exact ⟨i,rfl,k _ H c f .refl (.int _)⟩
 | _=>cases eq
def Wl:D->D->M D
 | .int i,.int j=>ret (.int (i + j))
 | .str x,.str y=>lim (x.length + y.length) (.str (x++y))
 | .lst xs,.lst ys=>lim (xs.length + ys.length) (.lst (xs++ys))
 | _,_=>fail
def Vl:R2:=λx y H Q=>∃i j,x = .str i/\y = .str j/\i.length + j.length<=sizeLine/\Q (.str (i++j)) H
def OJ (K:PySem.W.Frag):R2:=λx y H Q=>rI0 (λi j=>.int (i + j)) x y H Q\/(Vl x y H Q\/OK x y H Q)
theorem UZ:OpR X (binaryOp .Add) (OJ X.K):=op_add.or (op_add_str.or Mu)
theorem Vt:Bh K (OJ K) Wl:=λ{Oo c t σ H x y dx dy r t' Q} f rx ry eq k=>by
 cases rx with
 | int i=>
   cases ry with
   | int j=>cases eq;exact .inl ⟨i,j,rfl,rfl,k _ H c f .refl (.int _)⟩
   | _=>cases eq
 | str i=>
   cases ry with
   | str j=>
     obtain ⟨h,z⟩:=DT eq
     cases z
     exact .inr (.inl ⟨i,j,rfl,rfl,uk7 h Ci,k _ H c f .refl (.str _)⟩)
   | _=>cases eq
 | @lst a vs ds h1 h2 h3=>
   cases ry with
   | @lst b ws es g1 g2 g3=>
     obtain ⟨h,z⟩:=DT eq
     cases z
     refine .inr (.inr ⟨a,b,vs,ws,rfl,rfl,h1,g1,?_,λp hp=>?_⟩)
     ·rw [h3.length,g3.length];exact uk7 h Ci
     ·exact k _ _ c (f.laid hp) (f.stp_laid hp) (.lst Aj (f.s.free hp) ((h3.append g3).mono (Ext.laid f.s hp)))
   | _=>cases eq
 | _=>cases eq
def G3:D->D->M (List D)
 | .lst xs,.lst ys=>lim (xs.length + ys.length) (xs++ys)
 | _,_=>fail
theorem SW:Lh K OK G3:=λ{Oo c t σ H x y dx dy r t' Q} f rx ry eq k=>by
 cases rx with
 | @lst a vs ds h1 h2 h3=>
   cases ry with
   | @lst b ws es g1 g2 g3=>
     obtain ⟨h,z⟩:=DT eq
     cases z
     refine ⟨a,b,vs,ws,rfl,rfl,h1,g1,?_,λp hp=>k p _ H c f .refl (h3.append g3) hp⟩;rw [h3.length,g3.length];exact uk7 h Ci
   | _=>cases eq
 | _=>cases eq
def isC:D->D->M D
 | x,.non=>λt=>some (.bl (match x with | .non=>true | _=>false),t)
 | x,.bl b=>λt=>some (.bl (match x with | .bl c=>c == b | _=>false),t)
 | _,_=>fail
def P5 (x y:D):M D:=bnd (isC x y) λd=>match d with | .bl b=>ret (.bl (!b)) | _=>fail
def rIs (g:Bool->Bool):R2:=λx y H Q=>(y = .non\/∃b,y = .bl b)/\Q (.bl (g (decide (x=y)))) H
theorem Uh {x y:V}{v u:Value}(rx:RelV x v)(ry:RelV y u)(hy:y = .non\/∃b,y = .bl b):plainIs v u=true/\(v == u)=decide (x=y):=by
 rcases hy with rfl | ⟨b,rfl⟩
 ·cases ry
  cases x with
  | non=>cases rx;exact ⟨rfl,by simp⟩
  | bl _=>cases rx;exact ⟨rfl,by simp⟩
  | int _=>obtain ⟨t,rfl⟩:=rx;exact ⟨rfl,by simp⟩
  | str _=>obtain ⟨t,rfl⟩:=rx;exact ⟨rfl,by simp⟩
  | byt _=>obtain ⟨t,rfl⟩:=rx;exact ⟨rfl,by simp⟩
  | flt _=>obtain ⟨t,rfl⟩:=rx;exact ⟨rfl,by simp⟩
  | ref _=>cases rx;exact ⟨rfl,by simp⟩
  | ty _=>cases rx;exact ⟨rfl,by simp⟩
 ·cases ry
  cases x with
  | non=>cases rx;exact ⟨rfl,by simp⟩
  | bl c=>cases rx;exact ⟨rfl,by simp;cases c <;> cases b <;> rfl⟩
  | int _=>obtain ⟨t,rfl⟩:=rx;exact ⟨rfl,by simp⟩
  | str _=>obtain ⟨t,rfl⟩:=rx;exact ⟨rfl,by simp⟩
  | byt _=>obtain ⟨t,rfl⟩:=rx;exact ⟨rfl,by simp⟩
  | flt _=>obtain ⟨t,rfl⟩:=rx;exact ⟨rfl,by simp⟩
  | ref _=>cases rx;exact ⟨rfl,by simp⟩
  | ty _=>cases rx;exact ⟨rfl,by simp⟩
theorem Qq:OpR X (compareOp .Is) (rIs id):=by
 intro pins s σ H x y v u Q I rx ry h;obtain ⟨hy,q⟩:=h;obtain ⟨h1,h2⟩:=Uh rx ry hy;exact wpAny_is_plain h1 ⟨.bl _,H,I,by rw [h2];rfl,q⟩
theorem UL {x y:V}{dx dy:D}(rx:Rep K c H x dx)(ry:Rep K c H y dy)(eq:isC dx dy t=some z):(y = .non\/∃b,y = .bl b)/\z=(.bl (decide (x=y)),t):=by
 cases ry with
 | non=>
   refine ⟨.inl rfl,?_⟩
   cases rx <;> (cases eq;first | rfl | simp)
 | bl b=>
   refine ⟨.inr ⟨b,rfl⟩,?_⟩
   cases rx <;> (cases eq;first | rfl | simp)
   next a=>cases a <;> cases b <;> rfl
 | _=>cases eq
theorem QJ:Bh K (rIs id) isC:=λ{Oo c t σ H x y dx dy r t' Q} f rx ry eq k=>by
 obtain ⟨h,z⟩:=UL rx ry eq
 cases z
 exact ⟨h,k _ H c f .refl (.bl _)⟩
noncomputable def FK:D->Bool
 | .non=>true | .bl _=>true | .int _=>true | .str _=>true | _=>false
noncomputable def OS:D->Option (List D)
 | .lst ds=>some ds
 | .tup ds=>some ds
 | _=>none
noncomputable def toV:D->V
 | .bl b=>.bl b | .int i=>.int i | .str x=>.str x | _=>.non
theorem Ga {v:V}{d:D}(r:Rep K c H v d)(h:FK d=true):v=toV d:=by cases r <;> first | rfl | cases h
theorem Fz {c:Cf}{H:Hp}:∀{vs:List V} {ds:List D},Reps K c H vs ds->ds.all FK=true->vs=ds.map toV
 | _,_,.nil,_=>rfl
 | _,_,.cons r t,h=>by
   rw [uj7,ug5] at h;rw [uj6,Ga r h.1,Fz t h.2]
theorem Gq:∀d:D,E6 (toV d)=true:=λd=>by cases d <;> rfl
def inD (neg:Bool)(x y:D):M D:=λt=>match OS y with
 | some ds=>if FK x=true/\ds.all FK=true then some (.bl (if neg then !inV (toV x) (ds.map toV) else inV (toV x) (ds.map toV)),t) else none
 | none=>none
theorem X8 {neg:Bool}:Bh K (rIn K neg) (inD neg):=λ{Oo c t σ H x y dx dy r t' Q} f rx ry eq k=>by
 unfold inD at eq
 cases ry with
 | @lst a vs ds h1 h2 h3=>
   dsimp only [OS] at eq
   split at eq
   ·next h=>
    cases eq
    refine ⟨a,vs,rfl,.inl (SqL.of h1),?_,?_,?_⟩
    ·rw [Ga rx h.1];exact Gq _
    ·rw [Fz h3 h.2,List.all_map,ug9];exact λd _=>Gq d
    ·rw [Ga rx h.1,Fz h3 h.2];exact k _ H c f .refl (.bl _)
   ·cases eq
 | @tup a vs ds h1 h2 h3=>
   dsimp only [OS] at eq
   split at eq
   ·next h=>
    cases eq
    refine ⟨a,vs,rfl,.inr (SqT.of h1),?_,?_,?_⟩
    ·rw [Ga rx h.1];exact Gq _
    ·rw [Fz h3 h.2,List.all_map,ug9];exact λd _=>Gq d
    ·rw [Ga rx h.1,Fz h3 h.2];exact k _ H c f .refl (.bl _)
   ·cases eq
 | _=>cases eq
def ixD:D->D->M D
 | .lst ds,.int i=>λt=>(atI ds i).map λd=>(d,t)
 | .tup ds,.int i=>λt=>(atI ds i).map λd=>(d,t)
 | .scr ns,.int i=>λt=>(atI ns i).map λn=>(.int n,t)
 | .str x,.int i=>λt=>if x.length<=LIM then (atI x.cps.toList i).map λn=>(.str ⟨#[n]⟩,t) else none
 | .obj k,.int i=>λt=>match t.S[k]? with
   | some (.lst ds)=>(atI ds i).map λd=>(d,t)
   | _=>none
 | _,_=>fail
theorem Il {vs:List V}{ds:List D}{i:Int}{d:D}(r:Reps K c H vs ds)(h:atI ds i=some d):∃v,atI vs i=some v/\Rep K c H v d:=by
 unfold atI at h ⊢;obtain ⟨j,h1,h2⟩:=Option.bind_eq_some_iff.mp h;obtain ⟨v,h3,h4⟩:=r.at h2;exact ⟨v,by rw [r.length,h1];exact h3,h4⟩
theorem Ud {α β:Type}(g:α->β)(xs:List α)(i:Int):atI (xs.map g) i=(atI xs i).map g:=by
 unfold atI;rw [uh6]
 cases ixN xs.length i with
 | none=>rfl
 | some j=>simp
theorem W7 {dx dy r:D}{t':T}(eq:ixD dx dy t=some (r,t')):∃i,dy = .int i/\((∃ds,dx = .lst ds)\/(∃ds,dx = .tup ds)\/(∃ns,dx = .scr ns)\/(∃z,dx = .str z)\/∃k,dx = .obj k):=by
 unfold ixD at eq
 split at eq
 ·exact ⟨_,rfl,.inl ⟨_,rfl⟩⟩
 ·exact ⟨_,rfl,.inr (.inl ⟨_,rfl⟩)⟩
 ·exact ⟨_,rfl,.inr (.inr (.inl ⟨_,rfl⟩))⟩
 ·exact ⟨_,rfl,.inr (.inr (.inr (.inl ⟨_,rfl⟩)))⟩
 ·exact ⟨_,rfl,.inr (.inr (.inr (.inr ⟨_,rfl⟩)))⟩
 ·cases eq
theorem X9:Bh K (rIx K) ixD:=λ{Oo c t σ H x y dx dy r t' Q} f rx ry eq k=>by
 obtain ⟨i,rfl,hd⟩:=W7 eq
 cases ry
 rcases hd with ⟨ds,rfl⟩ | ⟨ds,rfl⟩ | ⟨ns,rfl⟩ | ⟨z,rfl⟩ | ⟨kk,rfl⟩
 ·cases rx with
  | @lst a vs _ h1 h2 h3=>
    obtain ⟨d,e1,e2⟩:=uc2.mp eq
    cases e2
    obtain ⟨v,e3,e4⟩:=Il h3 e1;exact .inl ⟨a,vs,i,v,rfl,rfl,SqL.of h1,e3,k _ H c f .refl e4⟩
 ·cases rx with
  | @tup a vs _ h1 h2 h3=>
    obtain ⟨d,e1,e2⟩:=uc2.mp eq
    cases e2
    obtain ⟨v,e3,e4⟩:=Il h3 e1;exact .inr (.inl ⟨a,vs,i,v,rfl,rfl,SqT.of h1,e3,k _ H c f .refl e4⟩)
 ·cases rx with
  | @scr a _ h1=>
    obtain ⟨n,e1,e2⟩:=uc2.mp eq
    cases e2
    exact .inl ⟨a,_,i,.int n,rfl,rfl,h1.sq,by rw [Ud,e1];rfl,k _ H c f .refl (.int n)⟩
 ·cases rx
  unfold ixD at eq;dsimp only at eq
  split at eq
  ·next hl=>
   obtain ⟨n,e1,e2⟩:=uc2.mp eq
   cases e2
   exact .inr (.inr ⟨z,i,n,rfl,rfl,uk7 hl Ci,e1,k _ H c f .refl (.str _)⟩)
  ·cases eq
 ·cases rx with
  | @obj a _ h1=>
    unfold ixD at eq;dsimp only at eq
    cases es:t.S[kk]? with
    | none=>rw [es] at eq;cases eq
    | some o=>
      rw [es] at eq
      cases o with
      | dct _ | ins _ _=>cases eq
      | lst ds=>
        obtain ⟨d,e1,e2⟩:=uc2.mp eq
        cases e2
        obtain ⟨vs,g1,g2⟩:=f.s.obs kk a _ h1 es;obtain ⟨v,e3,e4⟩:=Il g2 e1;exact .inl ⟨a,vs,i,v,rfl,rfl,SqL.of g1,e3,k _ H c f .refl e4⟩
end
variable {f:M D}
section
variable {X:Cx}{e a b:Expr}{es:List Expr}{pos:Pos}
inductive RO (K:PySem.W.Frag)(f:M (Option Int))(σ:L2.St)(H:Hp)(Q:Option Int->Hp->Prop):Prop where
 | mk (Oo:Addr->Prop) (c:Cf) (t:T) (fi:FInv K Oo c t σ H) (r:Option Int) (t':T) (e:f t=some (r,t')) (k:∀H' c',FInv K Oo c' t' σ H'->Stp Oo c H c' H'->Q r H'):RO K f σ H Q
theorem Pc {oe:Option Expr}{t t':TO}(h:PO X oe t)(i:∀σ H Q,t' σ H Q->t σ H Q):PO X oe t':=λpins s σ H Q I q=>h pins s σ H Q I (i σ H Q q)
def fNo:M (Option Int):=ret none
def asI:D->M (Option Int)
 | .int i=>ret (some i)
 | _=>fail
def Ee (f:M D):M (Option Int):=bnd f asI
theorem UB:PO X none (RO X.K fNo):=Pc Vf λσ H Q z9=>by
 obtain ⟨Oo,c,t,fi,r,t',eq,k⟩:=z9
 cases eq
 exact k H c fi .refl
theorem UC (h:PE X e (RE X.K f)):PO X (some e) (RO X.K (Ee f)):=Pc (Vg h) λσ H Q z9=>by
 obtain ⟨Oo,c,t,fi,r,t',eq,k⟩:=z9;obtain ⟨d,t1,e1,eq⟩:=Ae eq;refine ⟨Oo,c,t,fi,d,t1,e1,λv H1 c1 f1 s1 rv=>?_⟩
 cases rv with
 | int i=>cases eq;exact ⟨i,rfl,k H1 c1 f1 s1⟩
 | _=>cases eq
def Rb (K:PySem.W.Frag)(R:V->Option Int->Option Int->Hp->VK->Prop)(h:D->Option Int->Option Int->M D):Prop:=∀{Oo:Addr->Prop} {c:Cf} {t:T} {σ:L2.St} {H:Hp} {x:V} {dx r:D} {lo hi:Option Int} {t':T} {Q:VK},FInv K Oo c t σ H->Rep K c H x dx->h dx lo hi t=some (r,t')->
 (∀v H' c',FInv K Oo c' t' σ H'->Stp Oo c H c' H'->Rep K c' H' v r->Q v H')->R x lo hi H Q
def fSl (f:M D)(l u:M (Option Int))(h:D->Option Int->Option Int->M D):M D:=bnd f λx=>bnd l λlo=>bnd u λhi=>h x lo hi
theorem RB {R:V->Option Int->Option Int->Hp->VK->Prop}{h:D->Option Int->Option Int->M D}{l u:M (Option Int)}{lo hi:Option Expr}{p2:Pos}(hr:SlR X R)(s:Rb X.K R h)(he:PE X e (RE X.K f))(hl:PO X lo (RO X.K l))(hu:PO X hi (RO X.K u)):PE X (.Subscript e (.Slice lo hi none p2) pos) (RE X.K (fSl f l u h)):=
 AI (Mz hr he hl hu) λσ H Q z9=>by
  obtain ⟨Oo,c,t,fi,r,t',eq,k⟩:=z9;obtain ⟨d,t1,e1,eq⟩:=Ae eq;obtain ⟨ol,t2,e2,eq⟩:=Ae eq;obtain ⟨oh,t3,e3,eq⟩:=Ae eq;exact ⟨Oo,c,t,fi,d,t1,e1,λv H1 c1 f1 s1 rv=>⟨Oo,c1,t1,f1,ol,t2,e2,λH2 c2 f2 s2=>⟨Oo,c2,t2,f2,oh,t3,e3,λH3 c3 f3 s3=>
   s f3 (rv.mono (s2.trans s3).ext) eq λv H' c' f' s' rv'=>k v H' c' f' (((s1.trans s2).trans s3).trans s') rv'⟩⟩⟩
def Ca {α:Type}(xs:List α)(lo hi:Option Int):List α:=(xs.drop (HT.sIx xs.length 0 lo)).take (HT.sIx xs.length xs.length hi - HT.sIx xs.length 0 lo)
def slD:D->Option Int->Option Int->M D
 | .lst ds,lo,hi=>ret (.lst (Ca ds lo hi))
 | .scr ns,lo,hi=>ret (.lst ((Ca ns lo hi).map .int))
 | _,_,_=>fail
theorem IH {K:PySem.W.Frag}{vs:List V}{ds:List D}(r:Reps K c H vs ds)(lo hi:Option Int):Reps K c H (Iq vs lo hi) (Ca ds lo hi):=by
 unfold Iq Ca;rw [r.length];exact (r.drop _).take _
theorem Rp {α β:Type}(g:α->β)(xs:List α)(lo hi:Option Int):Ca (xs.map g) lo hi=(Ca xs lo hi).map g:=by
 unfold Ca;rw [uh6,List.map_take,List.map_drop]
theorem Ky (ns:List Int)(lo hi:Option Int):Iq (ns.map V.int) lo hi=(Ca ns lo hi).map V.int:=Rp V.int ns lo hi
def SO (K:PySem.W.Frag):V->Option Int->Option Int->Hp->VK->Prop:=X1 K
theorem sl2:SlR X (SO X.K):=VP
theorem Ya {K:PySem.W.Frag}:Rb K (SO K) slD:=λ{Oo c t σ H x dx r lo hi t' Q} f rx eq k=>by
 cases rx with
 | @lst p vs ds h1 h2 h3=>
   cases eq
   exact ⟨p,vs,rfl,SqL.of h1,λq hq=>k _ _ c (f.laid hq) (f.stp_laid hq) (.lst Aj (f.s.free hq) ((IH h3 lo hi).mono (Ext.laid f.s hq)))⟩
 | @scr p ns h1=>
   cases eq
   refine ⟨p,_,rfl,h1.sq,λq hq=>k _ _ c (f.laid hq) (f.stp_laid hq) (.lst Aj (f.s.free hq) ?_)⟩;rw [Ky];exact Reps.ints _
 | _=>cases eq
theorem ae {id:String}{R:List V->Hp->VK->Prop}{h:List D->M D}{f:M (List D)}{x:Str}{p:Pos}(hc:DO X (.builtin id) R)(s:Ij X.K R h)(hg:Gl X x)(hm:X.mg x=none)(hv:bootBuiltins x=some (.builtin id))(ha:PA X (e :: es) (RA X.K f))(hn:x≠"__name__":=by decide)(hdb:(x == ("__debug__" : Str))=false:=by decide)
 (he:starEach (e :: es) X.env=(false,eval e X.env) :: starEach es X.env:=by rfl) (hpl:(backTo pos (starEach es X.env)).any (·.1)=false:=by rfl):PE X (.Call (.Name x p) (e :: es) [] pos) (RE X.K (fB f h)):=
 AI (ID hc hg hm hv ha hn hdb he hpl) λ_ _ _ q=>RE.callB s q
theorem af {id:String}{R:List V->Hp->VK->Prop}{h:List D->M (List D)}{f:M (List D)}{x:Str}{p:Pos}(hc:DO X (.type id) R)(s:Li X.K R h)(hg:Gl X x)(hm:X.mg x=none)(hv:bootBuiltins x=some (.type id))(ha:PA X (e :: es) (RA X.K f))(hn:x≠"__name__":=by decide)(hdb:(x == ("__debug__" : Str))=false:=by decide)
 (he:starEach (e :: es) X.env=(false,eval e X.env) :: starEach es X.env:=by rfl) (hpl:(backTo pos (starEach es X.env)).any (·.1)=false:=by rfl):PE X (.Call (.Name x p) (e :: es) [] pos) (RF X.K (fBF f h)):=
 AI (KR hc hg hm hv ha hn hdb he hpl) λ_ _ _ q=>RF.callB s q
theorem TM {op:Operator}{R:R2}{g:M D}{h:D->D->M (List D)}(ho:OpR X (binaryOp op) R)(s:Lh X.K R h)(ha:PE X a (RE X.K f))(hb:PE X b (RE X.K g)):PE X (.BinOp a op b pos) (RF X.K (bnd f λx=>bnd g λy=>h x y)):=
 AI (OE ho ha hb) λ_ _ _ q=>RF.two s q
end
section
variable {K:PySem.W.Frag}
theorem Fa {xs:List V}{d:D}(r:Reps K c H xs [d]):∃v,xs=[v]/\Rep K c H v d:=by
 cases r with
 | cons r rs=>cases rs;exact ⟨_,rfl,r⟩
theorem T1 {xs:List V}{d e:D}(r:Reps K c H xs [d,e]):∃v u,xs=[v,u]/\Rep K c H v d/\Rep K c H u e:=by
 cases r with
 | cons r rs=>
   obtain ⟨u,rfl,q⟩:=Fa rs;exact ⟨_,u,rfl,r,q⟩
def A4:List D->M D
 | [.lst ds]=>ret (.int ds.length)
 | [.tup ds]=>ret (.int ds.length)
 | [.scr ns]=>ret (.int ns.length)
 | [.str x]=>lim x.length (.int x.length)
 | [.obj k]=>λt=>match t.S[k]? with
   | some (.lst ds)=>some (.int ds.length,t)
   | _=>none
 | _=>fail
theorem Vz:Ij K (λxs H Q=>∃x n,xs=[x]/\Wc K x H n/\Q (.int n) H) A4:=λ{Oo c t σ H xs ds r t' Q} f rx eq k=>by
 match ds,rx,eq with
 | [],_,eq=>cases eq
 | d0 :: _ :: _,_,eq=>cases d0 <;> cases eq
 | [d],rx,eq=>
   obtain ⟨v,rfl,rv⟩:=Fa rx
   cases rv with
   | @lst a vs ds h1 h2 h3=>cases eq;exact ⟨_,ds.length,rfl,.inl ⟨vs,SqL.of h1,h3.length.symm⟩,k _ H c f .refl (.int _)⟩
   | @tup a vs ds h1 h2 h3=>cases eq;exact ⟨_,ds.length,rfl,.inr ⟨vs,SqT.of h1,h3.length.symm⟩,k _ H c f .refl (.int _)⟩
   | @scr a ns h1=>cases eq;exact ⟨_,ns.length,rfl,.inl ⟨_,h1.sq,by simp⟩,k _ H c f .refl (.int _)⟩
   | str x=>
     obtain ⟨hl,z⟩:=DT eq
     cases z
     exact ⟨_,x.length,rfl,⟨uk7 hl Ci,rfl⟩,k _ H c f .refl (.int _)⟩
   | @obj a kk h1=>
     unfold A4 at eq;dsimp only at eq
     cases es:t.S[kk]? with
     | none=>rw [es] at eq;cases eq
     | some o=>
       rw [es] at eq
       cases o with
       | dct _ | ins _ _=>cases eq
       | lst ds=>
         cases eq
         obtain ⟨vs,g1,g2⟩:=f.s.obs kk a _ h1 es;exact ⟨_,ds.length,rfl,.inl ⟨vs,SqL.of g1,g2.length.symm⟩,k _ H c f .refl (.int _)⟩
   | _=>cases eq
noncomputable def tyD:D->Option String
 | .non=>some "NoneType"
 | .bl _=>some "bool"
 | .int _=>some "int"
 | .str _=>some "str"
 | .lst _=>some "list"
 | .tup _=>some "tuple"
 | .dic=>some "dict"
 | _=>none
noncomputable def EV (n m:String):Option Bool:=match m with
 | "int"=>some (n == "int" || n == "bool")
 | "bool"=>some (n == "bool")
 | "str"=>some (n == "str")
 | "list"=>some (n == "list")
 | "tuple"=>some (n == "tuple")
 | "dict"=>some (n == "dict")
 | _=>none
def Eg:List D->M D
 | [d,.ty m]=>λt=>match tyD d with
   | some n=>(EV n m).map λb=>(.bl b,t)
   | none=>none
 | _=>fail
theorem NB {d:D}{n m:String}{b:Bool}(h1:tyD d=some n)(h2:EV n m=some b):PySem.W.kitOne K (.type n) (.type m)=some b:=by
 have hm:m = "int"\/m = "bool"\/m = "str"\/m = "list"\/m = "tuple"\/m = "dict":=by
  unfold EV at h2
  split at h2 <;> simp_all
 have hn:n = "NoneType"\/n = "bool"\/n = "int"\/n = "str"\/n = "list"\/n = "tuple"\/n = "dict":=by
  cases d <;> simp [tyD] at h1 <;> simp [<-h1]
 rcases hm with rfl | rfl | rfl | rfl | rfl | rfl <;> rcases hn with rfl | rfl | rfl | rfl | rfl | rfl | rfl <;> (cases h2;rfl)
def SN (K:PySem.W.Frag):List V->Hp->VK->Prop:=λxs H Q=>∃x n t b,xs=[x,.ty n]/\TyOf K H x t/\PySem.W.kitOne K t (.type n)=some b/\Q (.bl b) H
theorem LY:DO X (.builtin "isinstance") (SN X.K):=by
 intro pins s σ H xs us Q I r h;obtain ⟨x,n,t,b,rfl,ty,e,q⟩:=h;obtain ⟨u,w',rfl,rx,rt⟩:=T6 r
 cases rt
 exact KM I rx ty e λtk=>⟨.bl b,H,I.tok tk,rfl,q⟩
theorem NR:Ij K (SN K) Eg:=λ{Oo c t σ H xs ds r t' Q} f rx eq k=>by
 unfold Eg at eq
 split at eq
 ·next d m=>
  obtain ⟨v,u,rfl,rv,ru⟩:=T1 rx
  cases ru
  cases et:tyD d with
  | none=>rw [et] at eq;cases eq
  | some n=>
    rw [et] at eq;obtain ⟨b,e1,e2⟩:=uc2.mp eq
    cases e2
    refine ⟨v,m,.type n,b,rfl,?_,NB et e1,k _ H c f .refl (.bl b)⟩
    cases rv <;> first | (cases et;first | exact .non | exact .bl _ | exact .int _ | exact .str _ | exact .lst ‹_› | exact .tup ‹_› | exact .dK ‹_›) | cases et
 ·cases eq
def aL:List D->M D
 | [.lst ds]=>ret (.tup ds)
 | [.tup ds]=>ret (.tup ds)
 | [.obj k]=>λt=>match t.S[k]? with
   | some (.lst ds)=>some (.tup ds,t)
   | _=>none
 | _=>fail
def DU:List D->M (List D)
 | [.lst ds]=>ret ds
 | [.tup ds]=>ret ds
 | [.scr ns]=>ret (ns.map .int)
 | [.obj k]=>λt=>match t.S[k]? with
   | some (.lst ds)=>some (ds,t)
   | _=>none
 | _=>fail
theorem VA:Li K (λxs H Q=>∃p ys,xs=[.ref p]/\(SqL K H p ys\/SqT K H p ys)/\∀l,H l=none->Q (.ref l) (upd H l (.lst ys))) DU:=λ{Oo c t σ H xs ds r t' Q} f rx eq k=>by
 match ds,rx,eq with
 | [],_,eq=>cases eq
 | d0 :: _ :: _,_,eq=>cases d0 <;> cases eq
 | [d],rx,eq=>
   obtain ⟨v,rfl,rv⟩:=Fa rx
   cases rv with
   | @lst a vs ds h1 h2 h3=>cases eq;exact ⟨a,vs,rfl,.inl (SqL.of h1),λq hq=>k q vs H c f .refl h3 hq⟩
   | @tup a vs ds h1 h2 h3=>cases eq;exact ⟨a,vs,rfl,.inr (SqT.of h1),λq hq=>k q vs H c f .refl h3 hq⟩
   | @scr a ns h1=>cases eq;exact ⟨a,_,rfl,.inl h1.sq,λq hq=>k q _ H c f .refl (Reps.ints ns) hq⟩
   | @obj a kk h1=>
     unfold DU at eq;dsimp only at eq
     cases es:t.S[kk]? with
     | none=>rw [es] at eq;cases eq
     | some o=>
       rw [es] at eq
       cases o with
       | dct _ | ins _ _=>cases eq
       | lst ds=>
         cases eq
         obtain ⟨vs,g1,g2⟩:=f.s.obs kk a _ h1 es;exact ⟨a,vs,rfl,.inl (SqL.of g1),λq hq=>k q vs H c f .refl g2 hq⟩
   | _=>cases eq
def W4:List D->M D
 | [.int i]=>ret (.int i)
 | [.bl b]=>ret (.int (if b then 1 else 0))
 | _=>fail
def Z8:List D->M D
 | [.int i]=>ret (.int (if i < 0 then -i else i))
 | _=>fail
def ap:List D->M D
 | [.int i,.int j]=>ret (.int (if j < i then j else i))
 | _=>fail
def ao:List D->M D
 | [.int i,.int j]=>ret (.int (if j > i then j else i))
 | _=>fail
def IC:List D->M D
 | [.str x]=>λt=>if x.length=1 then some (.int (x.cps.getD 0 0:Nat),t) else none
 | _=>fail
theorem VG:Ij K (λxs H Q=>∃x,xs=[.str x]/\x.length=1/\Q (.int (x.cps.getD 0 0:Nat)) H) IC:=λ{Oo c t σ H xs ds r t' Q} f rx eq k=>by
 match ds,rx,eq with
 | [],_,eq=>cases eq
 | d0 :: _ :: _,_,eq=>cases d0 <;> cases eq
 | [d],rx,eq=>
   obtain ⟨v,rfl,rv⟩:=Fa rx
   cases rv with
   | str x=>
     unfold IC at eq;dsimp only at eq
     split at eq
     ·next h=>cases eq;exact ⟨x,rfl,h,k _ H c f .refl (.int _)⟩
     ·cases eq
   | _=>cases eq
end
end F2
namespace L2
open PySem PySem.Spec PyProof.Rows
open AutoSeq1 (wpAny_loadPart')
end L2
namespace L2
open PySem PySem.Spec PyProof.Rows
open AutoSeq1 (wpAny_loadPart')
theorem MtM.or {X:Cx}{id:String}{r r':V->List V->Hp->VK->Prop}(h:MtM X id r)(h':MtM X id r'):MtM X id (λx xs H Q=>r x xs H Q\/r' x xs H Q):=by
 intro pins s σ H x xs v us Q I rx rv q;rcases q with q | q
 ·exact h pins s σ H x xs v us Q I rx rv q
 ·exact h' pins s σ H x xs v us Q I rx rv q
section
variable {X:Cx}{a b c d:Expr}{ta tb tc td:TE}{pos:Pos}
end
end L2
namespace F2
open PySem L2 PySem.Spec
section
variable {K:PySem.W.Frag}
def AT (x y:D):M D:=Wl x y
def TW (K:PySem.W.Frag):R2:=OJ K
theorem NF {X:Cx}:OpR X (binaryOp .Add) (TW X.K):=UZ
theorem ML:Bh K (TW K) AT:=Vt
def So:D->D->M D
 | .int i,.int j=>λt=>if E9 i j=true then some (.int (i * j),t) else none
 | _,_=>fail
def OO (K:PySem.W.Frag):R2:=rI CMul (λi j=>.int (i * j))
theorem op_mul3 {X:Cx}:OpR X (binaryOp .Mult) (OO X.K):=Xs
theorem VD:Bh K (OO K) So:=λ{Oo c t σ H x y dx dy r t' Q} f rx ry eq k=>by
 cases rx with
 | int i=>
   cases ry with
   | int j=>
     unfold So at eq;dsimp only at eq
     split at eq
     ·next h=>cases eq;exact ⟨i,j,rfl,rfl,Qj h,k _ H c f .refl (.int _)⟩
     ·cases eq
   | _=>cases eq
 | _=>cases eq
end
variable {K:PySem.W.Frag}
section
variable {X:Cx}{e a b:Expr}{pos:Pos}
def BP (xs:List D):List D->Option (List D)
 | [d]=>if xs.length < LIM then some (xs++[d]) else none
 | _=>none
def G8 (xs:List D):List D->Option (List D)
 | [.lst ys]=>if xs.length + ys.length<=LIM then some (xs++ys) else none
 | _=>none
def ownM (i:Nat)(h:List D->List D->Option (List D))(g:M (List D)):M Out:=λt=>match t.env[i]? with
 | some (some (.own _))=>bnd g (λds t1=>match t1.env[i]? with
   | some (some (.own xs))=>(h xs ds).map λys=>(.next,{ t1 with env:=t1.env.set i (some (.own ys)) })
   | _=>none) t
 | _=>none
def N4 (K:PySem.W.Frag)(R:V->List V->Hp->VK->Prop)(h:List D->List D->Option (List D)):Prop:=∀{c:Cf} {S:List Ob} {H:Hp} {a:Addr} {vs us:List V} {xs ds ys:List D} {Q:VK},SInv K c S H->H a=some (.lst vs)->Reps K c H vs xs->Reps K c H us ds->h xs ds=some ys->
 (∀ws,Reps K c H ws ys->Q .non (upd H a (.lst ws)))->R (.ref a) us H Q
theorem NQ:N4 K NL BP:=λ{c S H a vs us xs ds ys Q} s h r rs e k=>by
 unfold BP at e
 split at e
 ·next d=>
  split at e
  ·next hl=>
   cases e
   obtain ⟨v,rfl,rv⟩:=Fa rs;exact ⟨a,vs,v,rfl,rfl,h,by rw [r.length];exact ud8 hl Ci,k _ (r.append (.cons rv .nil))⟩
  ·cases e
 ·cases e
def OM (K:PySem.W.Frag):V->List V->Hp->VK->Prop:=NM
theorem NC {X:Cx}:MtM X "list.extend" (OM X.K):=Qi
theorem Vv:N4 K (OM K) G8:=λ{c S H a vs us xs ds ys Q} s h r rs e k=>by
 unfold G8 at e
 split at e
 ·split at e
  ·next hl=>
   cases e
   obtain ⟨v,rfl,rv⟩:=Fa rs
   cases rv with
   | lst h1 h2 h3=>exact ⟨a,_,vs,_,rfl,rfl,h,h1,by rw [r.length,h3.length];exact uk7 hl Ci,k _ (r.append h3)⟩
  ·cases e
 ·cases e
theorem RS.ownM {μ:Cf->Hp->D->(V->Hp->Prop)->Prop}{K:PySem.W.Frag}{i:Nat}{h:List D->List D->Option (List D)}{g:M (List D)}{R:V->List V->Hp->VK->Prop}(s:N4 K R h){E:Ends}{σ:L2.St}{H:Hp}(q:RSg K μ (F2.ownM i h g) E σ H):T3 (tBM K "list" R (Yk i) (RA K g)) E σ H:=by
 obtain ⟨Oo,c,t,fi,o,t',eq,k⟩:=q;unfold F2.ownM at eq
 split at eq
 ·next xs0 e0=>
  obtain ⟨ds,t1,e1,eq⟩:=Ae eq;obtain ⟨a,vs0,h1,h2,h3,h4,h5⟩:=fi.own i xs0 e0;refine ⟨.ref a,h1,.inl ⟨rfl,vs0,SqL.of h4⟩,Oo,c,t,fi,ds,t1,e1,λus H1 c1 f1 s1 rus=>?_⟩
  split at eq
  ·next xs ex=>
   obtain ⟨ys,ey,ez⟩:=uc2.mp eq
   cases ez
   obtain ⟨a',vs,g1,g2,g3,g4,g5⟩:=f1.own i xs ex;rw [h1] at g1;injection g1 with g1;injection g1 with g1;injection g1 with g1;subst g1
   refine s f1.s g4 g5 rus ey λws rws=>?_;obtain ⟨f2,s2⟩:=f1.wrOwn ex h1 rws;exact k σ _ c1 f2 (s1.trans s2)
  ·cases eq
 ·cases eq
theorem PC {μ:Cf->Hp->D->(V->Hp->Prop)->Prop}(i:Nat){x:Str}{es:List Expr}{g:M (List D)}{px apos cpos:Pos}(ha:PA X (e :: es) (RA X.K g))(hN:X.N[i]?=some x:=by rfl)(hv:Vis X.env.scope x:=by walk_at "h")(hd:(x == ("__debug__" : Str))=false:=by decide)
 (hcd:(x == ("__classdict__" : Str))=false:=by decide)
 (hbase:attributeBase (.Name x px) "append" X.env (eval (.Name x px) X.env)=eval (.Name x px) X.env:=by rfl)
 (hfew:((backTo cpos (starEach (e :: es) X.env)).all (λx=>!x.1) && (backToKw cpos (keywordEach [] X.env)).all (λx=>x.1.isSome) && decide ((e :: es).length + ([]:List Keyword).length + (if ([]:List Keyword).isEmpty then 0 else 1) < 30))=true:=by rfl)
 (hline:(apos.endLine == cpos.line)=true:=by rfl) (hs:starEach (e :: es) X.env=(false,eval e X.env) :: starEach es X.env:=by rfl) (hplain:(backTo cpos (starEach es X.env)).any (·.1)=false:=by rfl) :
 PS X (.Expr (.Call (.Attribute (.Name x px) "append" apos) (e :: es) [] cpos) pos) (RSg X.K μ (ownM i BP g)):=
 Bb (HV (Jr ub6 PySem.F.slot_list_append PySem.F.type_list_append KP (Cm hN hv hd hcd) ha hbase hfew hline hs hplain)) λ_ _ _ q=>RS.ownM NQ q
theorem PD {μ:Cf->Hp->D->(V->Hp->Prop)->Prop}(i:Nat){x:Str}{es:List Expr}{g:M (List D)}{px apos cpos:Pos}(ha:PA X (e :: es) (RA X.K g))(hN:X.N[i]?=some x:=by rfl)(hv:Vis X.env.scope x:=by walk_at "h")(hd:(x == ("__debug__" : Str))=false:=by decide)
 (hcd:(x == ("__classdict__" : Str))=false:=by decide)
 (hbase:attributeBase (.Name x px) "extend" X.env (eval (.Name x px) X.env)=eval (.Name x px) X.env:=by rfl)
 (hfew:((backTo cpos (starEach (e :: es) X.env)).all (λx=>!x.1) && (backToKw cpos (keywordEach [] X.env)).all (λx=>x.1.isSome) && decide ((e :: es).length + ([]:List Keyword).length + (if ([]:List Keyword).isEmpty then 0 else 1) < 30))=true:=by rfl)
 (hline:(apos.endLine == cpos.line)=true:=by rfl) (hs:starEach (e :: es) X.env=(false,eval e X.env) :: starEach es X.env:=by rfl) (hplain:(backTo cpos (starEach es X.env)).any (·.1)=false:=by rfl) :
 PS X (.Expr (.Call (.Attribute (.Name x px) "extend" apos) (e :: es) [] cpos) pos) (RSg X.K μ (ownM i G8 g)):=
 Bb (HV (Jr ub6 PySem.F.slot_list_extend PySem.F.type_list_extend NC (Cm hN hv hd hcd) ha hbase hfew hline hs hplain)) λ_ _ _ q=>RS.ownM Vv q
def objM (h:List D->List D->Option (List D))(f:M D)(g:M (List D)):M D:=bnd f λo=>match o with
 | .obj k=>λt=>match t.S[k]? with
   | some (.lst _)=>bnd g (λds t1=>match t1.S[k]? with
     | some (.lst xs)=>(h xs ds).map λys=>(.non,{ t1 with S:=t1.S.set k (.lst ys) })
     | _=>none) t
   | _=>none
 | _=>fail
theorem RE.objM {K:PySem.W.Frag}{h:List D->List D->Option (List D)}{f:M D}{g:M (List D)}{R:V->List V->Hp->VK->Prop}(s:N4 K R h){σ:L2.St}{H:Hp}{Q:VK}(q:RE K (F2.objM h f g) σ H Q):tBM K "list" R (RE K f) (RA K g) σ H Q:=by
 obtain ⟨Oo,c,t,fi,r,t',eq,k⟩:=q;obtain ⟨o,t0,e0,eq⟩:=Ae eq;refine ⟨Oo,c,t,fi,o,t0,e0,λx H0 c0 f0 s0 rx=>?_⟩
 cases rx with
 | @obj a kk hk=>
   dsimp only at eq
   split at eq
   ·next xs0 ex0=>
    obtain ⟨ds,t1,e1,eq⟩:=Ae eq;obtain ⟨vs0,g0,g0'⟩:=f0.s.obs kk a _ hk ex0;refine ⟨.inl ⟨rfl,vs0,SqL.of g0⟩,Oo,c0,t0,f0,ds,t1,e1,λus H1 c1 f1 s1 rus=>?_⟩
    split at eq
    ·next xs ex=>
     obtain ⟨ys,ey,ez⟩:=uc2.mp eq
     cases ez
     have hk1:=s1.ext.io _ _ hk;obtain ⟨vs,g1,g2⟩:=f1.s.obs kk a _ hk1 ex;refine s f1.s g1 g2 rus ey λws rws=>?_;obtain ⟨f2,s2⟩:=f1.wrObj (o:=.lst ys) (u:=.lst ws) hk1 λc' H' ext hu=>⟨ws,hu,rws.mono ext⟩;exact k _ _ c1 f2 ((s0.trans s1).trans s2) .non
    ·cases eq
   ·cases eq
 | _=>cases eq
theorem Ps {o:Expr}{es:List Expr}{f:M D}{g:M (List D)}{apos cpos:Pos}(ho:PE X o (RE X.K f))(ha:PA X (e :: es) (RA X.K g))
 (hbase:attributeBase o "append" X.env (eval o X.env)=eval o X.env:=by rfl)
 (hfew:((backTo cpos (starEach (e :: es) X.env)).all (λx=>!x.1) && (backToKw cpos (keywordEach [] X.env)).all (λx=>x.1.isSome) && decide ((e :: es).length + ([]:List Keyword).length + (if ([]:List Keyword).isEmpty then 0 else 1) < 30))=true:=by rfl)
 (hline:(apos.endLine == cpos.line)=true:=by rfl) (hs:starEach (e :: es) X.env=(false,eval e X.env) :: starEach es X.env:=by rfl) (hplain:(backTo cpos (starEach es X.env)).any (·.1)=false:=by rfl) :
 PE X (.Call (.Attribute o "append" apos) (e :: es) [] cpos) (RE X.K (objM BP f g)):=
 AI (Jr ub6 PySem.F.slot_list_append PySem.F.type_list_append KP ho ha hbase hfew hline hs hplain) λ_ _ _ q=>RE.objM NQ q
def Yd (o i d:D):M Unit:=match o,i with
 | .obj k,.int j=>λt=>match t.S[k]? with
   | some (.lst xs)=>(ixN xs.length j).map λn=>((),{ t with S:=t.S.set k (.lst (xs.set n d)) })
   | _=>none
 | _,_=>fail
def stD (f g:M D)(d:D):M Unit:=bnd f λo=>bnd g λi=>Yd o i d
end
section
variable {X:Cx}{e a b tg iter elt:Expr}{ifs:List Expr}{pos:Pos}{scope:Scope}{N':List Str}{n:Nat}{fr:List Nat}{f:M (List D)}{st:D->M Unit}{tst:M Bool}{el:M D}
def FD:M Bool:=ret true
theorem Ux:PIf X [] (RT X.K FD):=λpins s σ H Q I z9=>by
 obtain ⟨Oo,c,t,fi,r,t',eq,k⟩:=z9;exact Vb pins s σ H Q I (by cases eq;exact k H c fi .refl)
theorem Uy {g:M Bool}(h:PT X e (RT X.K g)):PIf X [e] (RT X.K g):=Vc h
theorem FZ (O:CmpOk X scope N' (EQ n fr))(hc:X.calm=true)(hi:PI X tg iter (RI X.K f))
 (hg:∀cl C s2 H2 fp,PG (B9 X N' scope cl C s2 H2 fp) tg (RG X.K st)) (ht:∀cl C s2 H2 fp,PIf (B9 X N' scope cl C s2 H2 fp) ifs (RT X.K tst)) (he:∀cl C s2 H2 fp,PE (B9 X N' scope cl C s2 H2 fp) elt (RE X.K el))
 (hs:∀x,foldedSetIterable iter X.env x=pure x:=by intro _;rfl):PE X (.ListComp elt [⟨tg,iter,ifs,0⟩] scope pos) (RF X.K (B0 n fr f st tst el)):=
 AI (Kc O hc hi hg ht he hs) λ_ _ _ q=>RF.comp q
theorem Fh (tgs:List Str)(frn:List (Nat×Str))(hk:scope.kind = .function)(hcell:(scope.names.all λy=>y.2 != .cell)=true)(hloc:(scope.names.all λy=>y.2 != .local || scope.names.lookup y.1 == some .local)=true)
 (hfree:(scope.names.all λy=>y.2 != .free || X.env.kindOf y.1 == some .cell || X.env.kindOf y.1 == some .free)=true)
 (hf:(frn.all λp=>X.N[p.1]? == some p.2 && scope.names.lookup p.2 == some .free)=true):CmpOk X scope (tgs++frn.map (·.2)) (EQ tgs.length (frn.map (·.1))):=by
 rw [ug9] at hcell hloc hfree hf;refine ⟨hk,λy hy=>by simpa using hcell y hy,λy hy hl=>?_,λy hy hl=>?_,λσ _=>by simp [EQ],λσ j x v h1 h2=>?_⟩
 ·have:=hloc y hy;simpa [hl] using this
 ·have:=hfree y hy;simpa [hl] using this
 ·unfold EQ at h2
  by_cases hj:j < tgs.length
  ·rw [ub0 (by simpa using hj),ub5] at h2
   split at h2 <;> simp at h2
  ·rw [ua5 (by simpa using hj),uc7,uf1,uf1] at h2;rw [ua5 (by simpa using hj),uf1] at h1
   cases e:frn[j - tgs.length]? with
   | none=>rw [e] at h1;cases h1
   | some p=>
     rw [e] at h1 h2;simp only [ui3,uf7] at h1 h2;have hp:=hf p (ud2 e);rw [ug5] at hp;refine ⟨p.1,by rw [<-h1];simpa using hp.1,?_,by rw [<-h1];simpa using hp.2⟩
     cases e2:σ[p.1]? with
     | none=>rw [e2] at h2;cases h2
     | some o=>rw [e2] at h2;simpa using h2
end
mutual
noncomputable def Bv:D->Bool
 | .tup xs=>GG xs
 | .lst xs=>GG xs
 | .obj _=>false
 | .scr _=>false
 | .exc _ _=>false
 | _=>true
noncomputable def GG:List D->Bool
 | []=>true
 | d :: r=>Bv d && GG r
end
def c0:Cf:=⟨[],λ_=>False⟩
theorem GX (a:Addr):¬c0.A a:=λh=>h.elim (λz=>nomatch z) λz=>z
mutual
theorem DN {K:PySem.W.Frag}{c:Cf}{H:Hp}{v:V}{d:D}(r:Rep K c H v d)(p:Bv d=true):Rep K c0 H v d:=by
 cases r with
 | non=>exact .non
 | bl b=>exact .bl b
 | int i=>exact .int i
 | str x=>exact .str x
 | ty n=>exact .ty n
 | tup h n r=>exact .tup h (GX _) (HW r (by simpa [Bv] using p))
 | lst h n r=>exact .lst h (GX _) (HW r (by simpa [Bv] using p))
 | scr h=>simp [Bv] at p
 | dic h n=>exact .dic h (GX _)
 | obj h=>simp [Bv] at p
 | exc _ _ _ _ _=>simp [Bv] at p
theorem HW {K:PySem.W.Frag}{c:Cf}{H:Hp}{vs:List V}{ds:List D}(r:Reps K c H vs ds)(p:GG ds=true):Reps K c0 H vs ds:=by
 cases r with
 | nil=>exact .nil
 | cons h t=>
   simp only [GG,ug5] at p;exact .cons (DN h p.1) (HW t p.2)
end
noncomputable def DK (S:List Ob):D->D
 | .obj k=>match S[k]? with
   | some (.lst ds)=>.lst ds
   | _=>.obj k
 | d=>d
noncomputable def Sa:D->Bool
 | .obj _=>true
 | _=>false
def eqS (g:Bool->Bool)(x y:D):M D:=λt=>
 if (Sa x || Sa y)=true then (if (Bv (DK t.S x) && Bv (DK t.S y))=true then (eqN EQD (DK t.S x) (DK t.S y)).map λb=>(.bl (g b),t) else none)
 else (eqN EQD x y).map λb=>(.bl (g b),t)
theorem MG {c:Cf}{S:List Ob}{H:Hp}{v:V}{d:D}(s:SInv K c S H)(r:Rep K c H v d)(p:Bv (DK S d)=true):Rep K c0 H v (DK S d):=by
 cases r with
 | @obj a k hk=>
   unfold DK at p ⊢;dsimp only at p ⊢
   split
   ·next ds e=>
    rw [e] at p;obtain ⟨vs,h1,h2⟩:=s.obs k a _ hk e;exact .lst h1 (GX _) (HW h2 (by simpa [Bv] using p))
   ·next h=>
    split at p
    ·next ds e=>exact absurd e (h ds)
    ·simp [Bv] at p
 | non=>exact .non
 | bl b=>exact .bl b
 | int b=>exact .int b
 | str b=>exact .str b
 | ty b=>exact .ty b
 | tup h n q=>exact DN (.tup h n q) p
 | lst h n q=>exact DN (.lst h n q) p
 | scr h=>exact DN (c:=c) (.scr h) p
 | dic h n=>exact DN (.dic h n) p
 | exc a b n f q=>exact DN (.exc a b n f q) p
theorem HY {g:Bool->Bool}:Bh K (OL K g) (eqS g):=λ{Oo c t σ H x y dx dy r t' Q} f rx ry eq k=>by
 unfold eqS at eq
 split at eq
 ·split at eq
  ·next hp=>
   rw [ug5] at hp;obtain ⟨b,e1,e2⟩:=uc2.mp eq
   cases e2
   exact ⟨c0,_,_,b,MG f.s rx hp.1,MG f.s ry hp.2,e1,k _ H c f .refl (.bl (g b))⟩
  ·cases eq
 ·obtain ⟨b,e1,e2⟩:=uc2.mp eq
  cases e2
  exact ⟨c,dx,dy,b,rx,ry,e1,k _ H c f .refl (.bl (g b))⟩
theorem Qa {H:Hp}{a:Addr}{ns:List Int}{f:Fn}{S':List Ob}(hO:N3 H)(hS:SqL K H a (ns.map V.int))(e:f [.scr ns] []=some (.bl true,S')):spF K f [.ref a] H (λv _=>v = .bl true) λ_ _ _=>False:=by
 refine ⟨c0,[.scr ns],[],⟨rfl,List.Pairwise.nil,λk a o h=>by simp [c0] at h,λb z=>z.elim,λb z=>z.elim⟩,.cons (.scr ?_) .nil,.bl true,S',e,λv H' c' _ _ _ rv=>by cases rv;rfl⟩;rcases hS with (h | h) | h
 ·rcases hO a with z | ⟨o,xs,z⟩
  ·rw [z] at h;cases h
  ·rw [z] at h;cases h
 ·exact .inl ⟨h,GX _⟩
 ·exact .inr h
end F2
namespace L2
open PySem PySem.Spec PyProof.Rows
section
variable {prog:Program}{w:World}{A:Around}{E:Value->Shared->Prop}{s:Shared}
theorem Jf {it l:Addr}{items:Array Value}(hne:l≠it):∀(n i:Nat) (s:Shared) (Q:List Value->Shared->Prop),s.heap.IsListIter it l i->s.heap.IsList l items->i + n<=items.size->
 (∀h',h'.IsListIter it l (i + n)->Heap.SameBut it s.heap h'->Q ((items.toList.drop i).take n) { s with heap:=h' })->wpAny (model prog w) A (draw (.ref it) n) Q E s
 | 0,i,s,Q,hit,_,_,hQ=>um1 (by simpa using hQ s.heap hit (Heap.SameBut.refl ..))
 | n + 1,i,s,Q,hit,ht,hle,hQ=>by
   have hlt:i < items.size:=by lia
   refine um0 (wpAny_pyNext_list_item hit ht (x:=items[i]) (by simp [hlt]) λh1 hit1 hs1=>?_);refine um0 (uk4 (Jf hne n (i + 1) _ _ hit1 (ht.extBut hs1.extBut hne) (by lia) λh2 hit2 hs2=>um1 ?_));have hd:items.toList.drop i=items[i] :: items.toList.drop (i + 1):=by simp [ub1,hlt]
   have:=hQ h2 (by rw [show i + (n + 1)=i + 1 + n by lia];exact hit2) (hs1.trans hs2);rw [hd,List.take_succ_cons] at this;exact this
theorem MT {l:Addr}{items:Array Value}{targets:List (Bool×(Value->Sem Unit))}{Q:Unit->Shared->Prop}(hh:A.handled=none)(ht:s.heap.IsList l items)(hn:targets.length=items.size)(hstar:targets.findIdx? (·.1)=none)
 (h:∀h',Heap.ExtBut s.heap.objs.size s.heap h'->wpAny (model prog w) A (assignInOrder (targets.map (·.2)) items.toList) Q E { s with heap:=h' }):wpAny (model prog w) A (unpack (.ref l) targets) Q E s:=by
 have hlt:l≠s.heap.objs.size:=by obtain ⟨o,ho,_⟩:=ht;exact uk6 (uk5 ho)
 unfold unpack;rw [hn,hstar];refine um0 (uk4 ?_);unfold unpackItems;refine um0 ?_;unfold notIterableAtAll;refine um0 (wpAny_specialOf ht.typeIs PySem.F.slot_list_iter.lookup ?_);refine um1 ?_;simp only [ue4,if_false];refine um0 (uk4 (wpAny_pyIter_list ht ?_));have hp:Heap.IsList (s.heap.push { cls:=.type "list_iterator",data:=.fields #[.ref l,.int 0 0] }) l items:=by
  obtain ⟨o,ho,r⟩:=ht;exact ⟨o,ub9 _ ho,r⟩
 refine um0 (uk4 (Jf hlt items.size 0 _ _ ⟨_,ud4 _ rfl,rfl,rfl⟩ hp (by lia) λh1 hit1 hs1=>?_));have hall:List.take items.size (List.drop 0 items.toList)=items.toList:=by
  rw [uj2];exact uc3 (by simp)
 rw [hall];rw [if_neg (by simp)];have ht1:Heap.IsList h1 l items:=hp.extBut hs1.extBut hlt;refine um0 (uk4 (wpAny_pyNext_list_end hh hit1 ht1 (by simp) λh2 he2=>?_));simp only [Option.isSome_none,ue4,if_false];exact um1 (h h2 λb o hb e=>he2 b o hb (hs1.extBut b o hb (ub9 _ e)))
end
section
variable {X:Cx}{pos:Pos}
def gUn (K:PySem.W.Frag)(n:Nat)(t:TGs):TG:=λv σ H Q=>∃a xs,v = .ref a/\(SqT K H a xs\/SqL K H a xs)/\xs.length=n/\t xs σ H Q
theorem Y3 {es:List Expr}{k:Nat}{t:TGs}{n:Nat}(hc:X.calm=true)(h:PGs X es t)
 (hn:(assignEach es X.env).length=n:=by rfl) (hst:(assignEach es X.env).findIdx? (·.1)=none:=by rfl):PG X (.Tuple es k pos) (gUn X.K n t):=by
 intro pins s σ H v u Q I r hw;obtain ⟨a,xs,e1,hq | hq,hl,hw⟩:=hw
 ·exact XJ hc h hn hst pins s σ H v u Q I r ⟨a,xs,e1,hq,hl,hw⟩
 ·subst e1
  cases r
  obtain ⟨its,rv,ht,hz⟩:=I.list hq;rw [assign_Tuple];refine um0 (wpAny_standAt (MT (I.ok.hd hc) ht.isList (by simp [hn,<-hl,rv.length]) hst λh' hx=>?_));have I1:Inv X pins σ H { s with heap:=h' }:=I.kept (t':=s.toks) λb o e=>hx b o (uk6 (uk5 e)) e;exact h pins _ σ H xs _ Q I1 (by simpa using rv) hw
end
section
open HT
variable {prog:Program}{w:World}{A:Around}{E:Value->Shared->Prop}{s:Shared}
end
section
variable {X:Cx}
end
noncomputable def Its (z:Str):It:=⟨λi _=>i < z.cps.size,λi H x H'=>H'=H/\∃c,z.cps[i]?=some c/\x = .str ⟨#[c]⟩,λi _=>i=z.cps.size⟩
theorem MS {P:Program}{w:World}{K:PySem.W.Frag}{tg:Expr}{T:String}{x:Str}{t:Tok}(it:Addr)(hT:["enumerate", "zip", "dict_itemiterator", "dict_reverseitemiterator", "odict_iterator", "itertools.zip_longest", "itertools.pairwise"].contains T=false)
 (W:∀A:Around,A.handled=none->Walks P w A it [it] [it] x.cps.size (SignAt x) (λi h=>h.IsStrIter it T x t i))
 (self:∀(A:Around) (i:Nat) (s:Shared) (Q:Value->Shared->Prop) (E:Value->Shared->Prop),s.heap.IsStrIter it T x t i->Q (.ref it) s->wpAny (model P w) A (pyIter (.ref it)) Q E s) :
 Turn P w K tg (Its x) [it] it (λi h=>h.IsStrIter it T x t i) where
 mem:=by simp
 obj:=λi h st b hb=>by
  have e:b=it:=by simpa using hb
  subst e;obtain ⟨o,e,c,d⟩:=st;exact ⟨o,e,λv z=>by rw [d] at z;cases z⟩
 keep:=λi h h' st k=>by
  obtain ⟨o,e,r⟩:=st;exact ⟨o,k it (by simp) o e,r⟩
 item:=by
  intro X hP hw hK hc i pins s σ H E I hf st hg;subst hP hw hK;obtain ⟨f0,f1,f2,f3,f4,f5⟩:=hf it (by simp);refine (W X.A (I.ok.hd hc)).item i s _ _ hg st λv h' tk hv st' kk=>?_;obtain ⟨c,u,hcc,rfl⟩:=hv;have I1:Inv X pins σ H { s with heap:=h',toks:=tk }:=I.turned (λb o hb e=>kk b o (by simpa using hb) e) f0 f1 f3 f4 f5;obtain ⟨o,e,ec,ed⟩:=id st';exact ⟨_,rfl,Lp (s:={ s with heap:=h',toks:=tk }) e ec ed hT ⟨.str ⟨#[c]⟩,H,I1,⟨u,rfl⟩,⟨rfl,c,hcc,rfl⟩,st',λb hb=>(hf b hb).1⟩⟩
 done:=by
  intro X hP hw hK hc i pins s σ H E I hf st hg;subst hP hw hK;obtain ⟨f0,f1,f2,f3,f4,f5⟩:=hf it (by simp);have hg':i=x.cps.size:=hg;subst hg';exact (W X.A (I.ok.hd hc)).done s _ _ st λh' tk kk=>⟨rfl,I.turned (λb o hb e=>kk b o (by simpa using hb) e) f0 f1 f3 f4 f5⟩
 self:=λA i s Q E st h=>self A i s Q E st h
section
variable {X:Cx}{tg:Expr}{pos:Pos}
def ak (K:PySem.W.Frag)(tl:TE):TI:=λσ H R=>tl σ H λx H1=>(∃a,x = .ref a/\(∃xs,SqL K H1 a xs)/\R (Itl K a) H1)\/(∃a,x = .ref a/\(∃xs,SqT K H1 a xs)/\R (Itt K a) H1)\/∃z,x = .str z/\R (Its z) H1
theorem Qs {l:Expr}{tl:TE}(hl:PE X l tl):PI X tg l (ak X.K tl):=by
 intro pins s σ H R I h;refine thn (hl pins s σ H _ I h) λv s1 z9=>?_;obtain ⟨x,H1,I1,r1,q1⟩:=z9;have fp:∀b∈[s1.heap.objs.size],FpOk X pins H1 b:=λb hb=>by
  have e:b=s1.heap.objs.size:=by simpa using hb
  subst e;exact I1.fpOk (ul5 _) (I1.hok.fresh (ul5 _))
 rcases q1 with ⟨a,rfl,⟨xs,hq⟩,q⟩ | ⟨a,rfl,⟨xs,hq⟩,q⟩ | ⟨z,rfl,q⟩
 ·cases r1
  obtain ⟨its,rv,p,hz⟩:=I1.list hq;refine wpAny_pyIter_list p.isList ?_;exact ⟨s1.heap.objs.size,[s1.heap.objs.size],_,_,H1,rfl,I1.kept (t':=s1.toks) λb o e=>ub9 _ e,QY a _,⟨_,ud4 _ rfl,rfl,rfl⟩,fp,q⟩
 ·cases r1
  obtain ⟨its,rv,p,hz⟩:=I1.tuple hq;refine wpAny_pyIter_tuple (show s1.heap.IsTuple a its.toArray from p) ?_;exact ⟨s1.heap.objs.size,[s1.heap.objs.size],_,_,H1,rfl,I1.kept (t':=s1.toks) λb o e=>ub9 _ e,OZ a _,⟨_,ud4 _ rfl,rfl,rfl⟩,fp,q⟩
 ·obtain ⟨t,rfl⟩:=r1
  cases ha:z.cps.all (· < 128)
  ·refine wpAny_pyIter_wide ha ?_;exact ⟨s1.heap.objs.size,[s1.heap.objs.size],_,_,H1,rfl,I1.kept (t':=s1.toks) λb o e=>ub9 _ e,MS (T:="str_iterator") (x:=z) (t:=t) _ (by decide) (λA hA=>Walks.strWide hA _ z t) (λ_ _ _ _ _ st h=>wpAny_pyIter_striter_wide st h),⟨_,ud4 _ rfl,rfl,rfl⟩,fp,q⟩
  ·refine wpAny_pyIter_ascii ha ?_;exact ⟨s1.heap.objs.size,[s1.heap.objs.size],_,_,H1,rfl,I1.kept (t':=s1.toks) λb o e=>ub9 _ e,MS (T:="str_ascii_iterator") (x:=z) (t:=t) _ (by decide) (λA hA=>Walks.strAscii hA _ z t) (λ_ _ _ _ _ st h=>wpAny_pyIter_striter_ascii st h),⟨_,ud4 _ rfl,rfl,rfl⟩,fp,q⟩
def TZ:R2:=λx y H Q=>∃z k,x = .str z/\y = .int k/\MulOk z k/\Q (.str (Txt.mul z k)) H
theorem U2:OpR X (binaryOp .Mult) TZ:=by
 intro pins s σ H x y v u Q I rx ry h;obtain ⟨z,k,rfl,rfl,hk,q⟩:=h;obtain ⟨t,rfl⟩:=rx;obtain ⟨t',rfl⟩:=ry;exact SB.mul hk λt2 tk=>⟨.str _,H,I.tok tk,⟨t2,rfl⟩,q⟩
def GH (g:Int->Int->Bool)(h:List Nat->List Nat->Bool):R2:=λx y H Q=>(∃i j,x = .int i/\y = .int j/\Q (.bl (g i j)) H)\/∃i j,x = .str i/\y = .str j/\Q (.bl (h i.cps.toList j.cps.toList)) H
theorem Xq:OpR X (compareOp .Lt) (GH (λi j=>decide (i < j)) λi j=>decide (i < j)):=op_lt.or λpins s σ H x y v u Q I rx ry h=>by
 obtain ⟨i,j,rfl,rfl,q⟩:=h;obtain ⟨t,rfl⟩:=rx;obtain ⟨t',rfl⟩:=ry;exact P.lt_str ⟨.bl _,H,I,rfl,q⟩
theorem Qr:OpR X (compareOp .LtE) (GH (λi j=>decide (i<=j)) λi j=>!(decide (j < i))):=op_le.or λpins s σ H x y v u Q I rx ry h=>by
 obtain ⟨i,j,rfl,rfl,q⟩:=h;obtain ⟨t,rfl⟩:=rx;obtain ⟨t',rfl⟩:=ry;exact P.le_str ⟨.bl _,H,I,rfl,q⟩
theorem Xo:OpR X (compareOp .Gt) (GH (λi j=>decide (j < i)) λi j=>decide (j < i)):=op_gt.or λpins s σ H x y v u Q I rx ry h=>by
 obtain ⟨i,j,rfl,rfl,q⟩:=h;obtain ⟨t,rfl⟩:=rx;obtain ⟨t',rfl⟩:=ry;exact P.gt_str ⟨.bl _,H,I,rfl,q⟩
theorem Xn:OpR X (compareOp .GtE) (GH (λi j=>decide (j<=i)) λi j=>!(decide (i < j))):=op_ge.or λpins s σ H x y v u Q I rx ry h=>by
 obtain ⟨i,j,rfl,rfl,q⟩:=h;obtain ⟨t,rfl⟩:=rx;obtain ⟨t',rfl⟩:=ry;exact P.ge_str ⟨.bl _,H,I,rfl,q⟩
end
end L2
namespace F2
open PySem L2 PySem.Spec
def Df:D->M (List D)
 | .lst ds=>ret ds
 | .scr ns=>ret (ns.map .int)
 | .tup ds=>ret ds
 | .str x=>ret (x.cps.toList.map λc=>.str ⟨#[c]⟩)
 | _=>fail
def ES (f:M D):M (List D):=bnd f Df
def DI:D->D->M D
 | .str x,.int k=>λt=>if CU k=true/\x.length * k.toNat<=LIM/\k<=LIM/\x.length<=LIM then some (.str (Txt.mul x k),t) else none
 | x,y=>So x y
def FA:D->Option Int->Option Int->M D:=slD
def L5 (g:Int->Int->Bool)(h:List Nat->List Nat->Bool):D->D->M D
 | .int i,.int j=>ret (.bl (g i j))
 | .str x,.str y=>ret (.bl (h x.cps.toList y.cps.toList))
 | _,_=>fail
def ltA:=L5 (λi j=>decide (i < j)) (λi j=>decide (i < j))
def leA:=L5 (λi j=>decide (i<=j)) (λi j=>!(decide (j < i)))
def gtA:=L5 (λi j=>decide (j < i)) (λi j=>decide (j < i))
def geA:=L5 (λi j=>decide (j<=i)) (λi j=>!(decide (i < j)))
def unS (n:Nat)(g:List D->M Unit):D->M Unit
 | .tup ds=>if ds.length=n then g ds else fail
 | .lst ds=>if ds.length=n then g ds else fail
 | _=>fail
def ad:M D:=fC .dic
variable {tg:Expr}{K:PySem.W.Frag}{n:Nat}{g:List D->M Unit}{es:List Expr}
section
variable {X:Cx}{e a b:Expr}{pos:Pos}{st:Stmt}
theorem ItOk.str {K:PySem.W.Frag}{c:Cf}{H:Hp}{x:Str}:ItOk K (Its x) c H (x.cps.toList.map λc=>.str ⟨#[c]⟩):=by
 refine ⟨λc' H' i ex hi=>?_,λc' H' i y H'' d ex hd hy=>?_,λc' H' ex=>?_⟩
 ·show i < x.cps.size;simpa using hi
 ·obtain ⟨rfl,n,hn,rfl⟩:=hy;refine ⟨rfl,?_⟩;have:d = .str ⟨#[n]⟩:=by
   rw [uf1] at hd;have hn':x.cps.toList[i]?=some n:=by simpa using hn
   rw [hn'] at hd;simpa using hd.symm
  rw [this];exact .str _
 ·show _=x.cps.size;simp
theorem WP {f:M D}(h:PE X e (RE X.K f)):PI X tg e (RI X.K (ES f)):=
 GU (Qs h) λσ H R z9=>by
  obtain ⟨Oo,c,t,fi,ds,t',eq,k⟩:=z9;obtain ⟨d,t1,e1,eq⟩:=Ae eq;refine ⟨Oo,c,t,fi,d,t1,e1,λv H1 c1 f1 s1 rv=>?_⟩
  cases rv with
  | @lst p vs ds' h1 h2 h3=>
    cases eq
    exact .inl ⟨p,rfl,⟨vs,SqL.of h1⟩,k _ H1 c1 f1 s1 (ItOk.lst λc' H' ex=>⟨vs,SqL.of (ex.keep _ _ h1 h2),h3.mono ex⟩)⟩
  | @scr p ns h1=>
    cases eq
    exact .inl ⟨p,rfl,⟨_,h1.sq⟩,k _ H1 c1 f1 s1 (ItOk.lst λc' H' ex=>⟨_,(h1.mono ex).sq,Reps.ints ns⟩)⟩
  | @tup p vs ds' h1 h2 h3=>
    cases eq
    exact .inr (.inl ⟨p,rfl,⟨vs,SqT.of h1⟩,k _ H1 c1 f1 s1 (ItOk.tup λc' H' ex=>⟨vs,SqT.of (ex.keep _ _ h1 h2),h3.mono ex⟩)⟩)
  | str x=>
    cases eq
    exact .inr (.inr ⟨x,rfl,k _ H1 c1 f1 s1 ItOk.str⟩)
  | _=>cases eq
theorem RG.un {v:V}{σ:L2.St}{H:Hp}{Q:L2.St->Hp->Prop}(q:RG K (unS n g) v σ H Q):gUn K n (RGs K g) v σ H Q:=by
 obtain ⟨Oo,c,t,d,fi,rv,t',eq,k⟩:=q
 cases rv with
 | @tup a vs ds h1 h2 h3=>
   unfold unS at eq
   by_cases hn:ds.length=n
   ·dsimp only at eq;rw [if_pos hn] at eq;exact ⟨a,vs,rfl,.inl (SqT.of h1),by rw [h3.length];exact hn,Oo,c,t,ds,fi,h3,t',eq,k⟩
   ·dsimp only at eq;rw [if_neg hn] at eq;cases eq
 | @lst a vs ds h1 h2 h3=>
   unfold unS at eq
   by_cases hn:ds.length=n
   ·dsimp only at eq;rw [if_pos hn] at eq;exact ⟨a,vs,rfl,.inr (SqL.of h1),by rw [h3.length];exact hn,Oo,c,t,ds,fi,h3,t',eq,k⟩
   ·dsimp only at eq;rw [if_neg hn] at eq;cases eq
 | _=>cases eq
theorem YK {k:Nat}(hc:X.calm=true)(h:PGs X es (RGs X.K g))(hn:(assignEach es X.env).length=n:=by rfl)(hst:(assignEach es X.env).findIdx? (·.1)=none:=by rfl):PG X (.Tuple es k pos) (RG X.K (unS n g)):=
 LF (Y3 hc h hn hst) λ_ _ _ _ q=>RG.un q
theorem RL {f:D->M Unit}(h1:PG X e (RG X.K f))(h2:PGs X es (RGs X.K g))(hs:(assignEach (e :: es) X.env).map (·.2)=assign e X.env :: (assignEach es X.env).map (·.2):=by rfl):PGs X (e :: es) (RGs X.K (AK f g)):=
 Nd (SK h1 h2 hs) λ_ _ _ _ q=>RGs.cons q
end
section
variable {K:PySem.W.Frag}
def TY (K:PySem.W.Frag):R2:=λx y H Q=>OO K x y H Q\/TZ x y H Q
theorem U1 {X:Cx}:OpR X (binaryOp .Mult) (TY X.K):=op_mul3.or U2
theorem M9 {x:Str}{k:Int}(h:CU k=true/\x.length * k.toNat<=LIM/\k<=LIM/\x.length<=LIM):MulOk x k:=by
 obtain ⟨g1,g2⟩:=FP h.1;have hL:LIM=100000:=rfl;refine ⟨?_,λh1 _=>?_,λh1 _=>?_⟩
 ·rw [Bool.or_eq_false_iff];exact ⟨ui8 (by lia),ui8 (by lia)⟩
 ·have h2:k<=100000:=by have:=h.2.2.1;rw [hL] at this;exact this
  have h3:x.length<=100000:=by have:=h.2.2.2;rw [hL] at this;exact this
  have h4:(92233720368547:Int)<=(2 ^ 63 - 1) / k:=by
   rw [Int.le_ediv_iff_mul_le (by lia)];lia
  lia
 ·have h5:=h.2.1;rw [hL] at h5;unfold Builtin.Str.tooLong
  first | exact ui8 (by unfold sizeLine;lia) | (unfold sizeLine;exact ui8 (by lia))
theorem SZ:Bh K (TY K) DI:=λ{Oo c t σ H x y dx dy r t' Q} f rx ry eq k=>by
 unfold DI at eq
 split at eq
 ·next z kk=>
  split at eq
  ·next h=>
   cases eq
   cases rx
   cases ry
   exact .inr ⟨z,kk,rfl,rfl,M9 h,k _ H c f .refl (.str _)⟩
  ·cases eq
 ·exact .inl (VD f rx ry eq k)
def X0 (K:PySem.W.Frag):V->Option Int->Option Int->Hp->VK->Prop:=SO K
theorem sl3 {X:Cx}:SlR X (X0 X.K):=sl2
theorem VJ:Rb K (X0 K) FA:=Ya
theorem HX {g:Int->Int->Bool}{h:List Nat->List Nat->Bool}:Bh K (GH g h) (L5 g h):=λ{Oo c t σ H x y dx dy r t' Q} f rx ry eq k=>by
 cases rx with
 | int i=>cases ry with
   | int j=>cases eq;exact .inl ⟨i,j,rfl,rfl,k _ H c f .refl (.bl _)⟩
   | _=>cases eq
 | str i=>cases ry with
   | str j=>cases eq;exact .inr ⟨i,j,rfl,rfl,k _ H c f .refl (.bl _)⟩
   | _=>cases eq
 | _=>cases eq
theorem VB:Bh K (GH (λi j=>decide (i < j)) λi j=>decide (i < j)) ltA:=HX
theorem NS:Bh K (GH (λi j=>decide (i<=j)) λi j=>!(decide (j < i))) leA:=HX
theorem Vx:Bh K (GH (λi j=>decide (j < i)) λi j=>decide (j < i)) gtA:=HX
theorem Vw:Bh K (GH (λi j=>decide (j<=i)) λi j=>!(decide (i < j))) geA:=HX
end
variable {fa:Addr}{fd:FuncData}
theorem WS {P:Program}{w:World}{mg:Str->Option Value}{base:Heap}{x qual:Str}{st:Stmt}{N ps:List Str}{k m:Nat}{g:M Out}(e1:ps.length=n)(e2:N.length=m)(F:Fun K x qual st fa fd)(S:FnScope N ps (Al st))
 (hb:∀(cdv:Value) (A:Around) (outer:List Env) (s:Shared) (H:Hp) (E:XK),Room k (A.deeper (PyProof.Rows.envOfC qual (Al st) s.heap.objs.size fa cdv))->
   PSs (Db CX0 P w K mg base N qual (Al st) fa cdv A outer s H E).nox (A8 st) (RS K g)):FnOk P w K mg base CX0 (k + 1) fa fd ps (spF K (fnOf n m g)):=by
 subst e1 e2;exact YN F S hb
theorem X5 {P:Program}{w:World}{mg:Str->Option Value}{base:Heap}{ps:List Str}{k:Nat}{f g:Fn}(e:f=g)(h:FnOk P w K mg base CX0 k fa fd ps (spF K g)):FnOk P w K mg base CX0 k fa fd ps (spF K f):=by rw [e];exact h
theorem Wp:bootBuiltins "len" = some (.builtin "len"):=by decide +kernel
theorem Bg:bootBuiltins "isinstance" = some (.builtin "isinstance"):=by decide +kernel
theorem Wq:bootBuiltins "ord" = some (.builtin "ord"):=by decide +kernel
theorem Wo:bootBuiltins "int" = some (.type "int"):=by decide +kernel
theorem Ws:bootBuiltins "str" = some (.type "str"):=by decide +kernel
theorem Ui:bootBuiltins "bool" = some (.type "bool"):=by decide +kernel
theorem Ni:bootBuiltins "list" = some (.type "list"):=by decide +kernel
theorem Rm:bootBuiltins "tuple" = some (.type "tuple"):=by decide +kernel
noncomputable def AZ:Expr->Bool
 | .Starred _ _=>true
 | _=>false
theorem AR {e:Expr}{env:Env}(h:AZ e=false):starEach (e :: es) env=(false,eval e env) :: starEach es env:=by
 cases e <;> first | rfl | cases h
def A6 (es:List Expr):Bool:=es.all λe=>!AZ e
theorem AS:∀{es:List Expr} {env:Env} {p:Pos},A6 es=true->(backTo p (starEach es env)).any (·.1)=false/\(backTo p (starEach es env)).all (λx=>!x.1)=true
 | [],env,p,_=>⟨rfl,rfl⟩
 | e :: es,env,p,h=>by
   have h':AZ e=false/\A6 es=true:=by
    rw [A6,uj7,ug5] at h;exact ⟨by simpa using h.1,h.2⟩
   obtain ⟨h1,h2⟩:=AS (es:=es) (env:=env) (p:=p) h'.2;rw [AR h'.1];refine ⟨?_,?_⟩
   ·show (false || (backTo p (starEach es env)).any (·.1))=false;rw [h1];rfl
   ·show (!false && (backTo p (starEach es env)).all (λx=>!x.1))=true;rw [h2];rfl
variable {f:M (List D)}{p:Pos}
section
variable {X:Cx}{e a b:Expr}{es:List Expr}{pos:Pos}
theorem Ru {f:M D}{g:M (List D)}(ha:PE X e (RE X.K f))(hr:PA X es (RA X.K g))(hs:AZ e=false:=by rfl):PA X (e :: es) (RA X.K (Ab f g)):=Up ha hr (AR hs)
theorem Rv {k:Nat}{ps:List Str}{g:Fn}{x:Str}(F:FnOk X.prog X.w X.K X.mg X.base CX0 k fa fd ps (spF X.K g))(hr:Room k X.A)(hg:Gl X x)(hm:X.mg x=some (.ref fa))(hk:PySem.W.keepIn X.K (.ref fa)=true)(hb:Binds X.K fd ps [])
 (ha:PA X (e :: es) (RA X.K f)) (hdb:(x == ("__debug__" : Str))=false:=by decide) (h1:AZ e=false:=by rfl) (h2:A6 es=true:=by rfl) :
 PE X (.Call (.Name x p) (e :: es) [] pos) (RE X.K (Ak g f)):=Uq F hr hg hm hk hb ha hdb (AR h1) (AS h2).1
theorem Ln {id:String}{R:List V->Hp->VK->Prop}{h:List D->M D}{x:Str}(hc:DO X (.builtin id) R)(s:Ij X.K R h)(hg:Gl X x)(hm:X.mg x=none)(hv:bootBuiltins x=some (.builtin id))(ha:PA X (e :: es) (RA X.K f))(hn:x≠"__name__":=by decide)(hdb:(x == ("__debug__" : Str))=false:=by decide)
 (h1:AZ e=false:=by rfl) (h2:A6 es=true:=by rfl):PE X (.Call (.Name x p) (e :: es) [] pos) (RE X.K (fB f h)):=ae hc s hg hm hv ha hn hdb (AR h1) (AS h2).1
theorem YJ {id:String}{R:List V->Hp->VK->Prop}{h:List D->M (List D)}{x:Str}(hc:DO X (.type id) R)(s:Li X.K R h)(hg:Gl X x)(hm:X.mg x=none)(hv:bootBuiltins x=some (.type id))(ha:PA X (e :: es) (RA X.K f))(hn:x≠"__name__":=by decide)(hdb:(x == ("__debug__" : Str))=false:=by decide)
 (h1:AZ e=false:=by rfl) (h2:A6 es=true:=by rfl):PE X (.Call (.Name x p) (e :: es) [] pos) (RF X.K (fBF f h)):=af hc s hg hm hv ha hn hdb (AR h1) (AS h2).1
theorem Ol (hg:Gl X "range")(hm:X.mg "range" = none)(ha:PA X [a] (RA X.K f))(h1:AZ a=false:=by rfl):PI X tg (.Call (.Name "range" p) [a] [] pos) (RI X.K (C8 f)):=Py hg hm ha (AR h1)
theorem Om (hg:Gl X "range")(hm:X.mg "range" = none)(ha:PA X [a,b] (RA X.K f))(h1:AZ a=false:=by rfl)(h2:AZ b=false:=by rfl):PI X tg (.Call (.Name "range" p) [a,b] [] pos) (RI X.K (Gm f)):=
 Pz hg hm ha (by rw [AR h1,AR h2];rfl) (AR h2)
theorem Pw {cpos:Pos}(h1:AZ e=false)(h2:A6 es=true)(h3:es.length < 20):((backTo cpos (starEach (e :: es) X.env)).all (λx=>!x.1) && (backToKw cpos (keywordEach [] X.env)).all (λx=>x.1.isSome) && decide ((e :: es).length + ([]:List Keyword).length + (if ([]:List Keyword).isEmpty then 0 else 1) < 30))=true:=by
 rw [(AS (es:=e :: es) (env:=X.env) (p:=cpos) (by rw [A6,uj7,h1];exact h2)).2];show (true && true && decide (es.length + 1 + 0 + 0 < 30))=true;simp;lia
theorem Op {μ:Cf->Hp->D->(V->Hp->Prop)->Prop}(i:Nat){x:Str}{g:M (List D)}{px apos cpos:Pos}(ha:PA X (e :: es) (RA X.K g))(hN:X.N[i]?=some x:=by rfl)(hv:Vis X.env.scope x:=by walk_at "h")(hd:(x == ("__debug__" : Str))=false:=by decide)
 (hcd:(x == ("__classdict__" : Str))=false:=by decide) (hline:(apos.endLine == cpos.line)=true:=by rfl) (h1:AZ e=false:=by rfl) (h2:A6 es=true:=by rfl) (h3:es.length < 20:=by decide) :
 PS X (.Expr (.Call (.Attribute (.Name x px) "append" apos) (e :: es) [] cpos) pos) (RSg X.K μ (ownM i BP g)):=PC i ha hN hv hd hcd rfl (Pw h1 h2 h3) hline (AR h1) (AS h2).1
theorem Oq {μ:Cf->Hp->D->(V->Hp->Prop)->Prop}(i:Nat){x:Str}{g:M (List D)}{px apos cpos:Pos}(ha:PA X (e :: es) (RA X.K g))(hN:X.N[i]?=some x:=by rfl)(hv:Vis X.env.scope x:=by walk_at "h")(hd:(x == ("__debug__" : Str))=false:=by decide)
 (hcd:(x == ("__classdict__" : Str))=false:=by decide) (hline:(apos.endLine == cpos.line)=true:=by rfl) (h1:AZ e=false:=by rfl) (h2:A6 es=true:=by rfl) (h3:es.length < 20:=by decide) :
 PS X (.Expr (.Call (.Attribute (.Name x px) "extend" apos) (e :: es) [] cpos) pos) (RSg X.K μ (ownM i G8 g)):=PD i ha hN hv hd hcd rfl (Pw h1 h2 h3) hline (AR h1) (AS h2).1
end
end F2
namespace HT
open PySem PySem.Spec L2 PyProof.Rows
section
variable {prog:Program}{w:World}{A:Around}{E:Value->Shared->Prop}{s:Shared}
end
end HT
namespace L2
open PySem PySem.Spec PyProof.Rows
section
variable {X:Cx}{e ek:Expr}{p2 pos:Pos}{te:TE}{tk:TO}
end
section
variable {X:Cx}
theorem G0:∀{ys:List Str} {us:List Value},Vals (ys.map V.str) us->CarriedAll us (ys.map PyData.str)
 | [],_,r=>by cases r;exact .nil
 | _ :: _,_,r=>by
   cases r with
   | cons r1 r2=>obtain ⟨t,rfl⟩:=r1;exact .cons (.str _ _) (G0 r2)
def TX (K:PySem.W.Frag):V->List V->Hp->VK->Prop:=λx xs H Q=>∃z a ys,x = .str z/\xs=[.ref a]/\SqL K H a (ys.map V.str)/\(∀y∈ys,y.length<=8)/\z.length<=8/\ys.length<=1048576/\Q (.str (Txt.join z ys)) H
theorem UT:MtR X "str.join" (TX X.K):=by
 intro pins s σ H x xs v us Q I rx rs h;obtain ⟨z,a,ys,rfl,rfl,ha,h1,h2,h3,q⟩:=h;obtain ⟨t,rfl⟩:=rx;obtain ⟨u,rfl,ru⟩:=Jz rs
 cases ru
 obtain ⟨its,r,pl,_⟩:=I.list ha;refine join_madeW (l:=ys) (g:=id) 8 pl.isList (by rw [ul8];exact G0 r) h1 h3 (by lia) λt' k=>?_;rw [ul8];exact ⟨.str _,H,I.tok _,⟨_,rfl⟩,q⟩
end
section
variable {X:Cx}
end
section
variable {X:Cx}
end
end L2
namespace F2
open PySem L2 PySem.Spec
section
variable {X:Cx}{K:PySem.W.Frag}
noncomputable def FC:List D->Option (List Str)
 | []=>some []
 | .str x :: r=>if x.length<=8 then (FC r).map (x :: ·) else none
 | _=>none
def joinM (f:M D)(g:M (List D)):M D:=bnd f λo=>bnd g λas=>match o,as with
 | .str z,[.lst ds]=>λt=>match FC ds with
   | some ys=>if z.length<=8/\ys.length<=1048576 then some (.str (Txt.join z ys),t) else none
   | none=>none
 | _,_=>fail
theorem MQ {c:Cf}{H:Hp}:∀{ds:List D} {vs:List V} {ys:List Str},Reps K c H vs ds->FC ds=some ys->vs=ys.map V.str/\∀y∈ys,y.length<=8
 | [],_,ys,r,e=>by
   cases r
   cases e
   exact ⟨rfl,λ_ h=>nomatch h⟩
 | d :: ds,_,ys,r,e=>by
   cases r with
   | cons r1 r2=>
     cases r1 with
     | str x=>
       unfold FC at e
       split at e
       ·next hx=>
        obtain ⟨zs,e1,rfl⟩:=uc2.mp e;obtain ⟨h1,h2⟩:=MQ r2 e1;refine ⟨by rw [h1];rfl,λy hy=>?_⟩;rcases uj5.mp hy with rfl | hy
        ·exact hx
        ·exact h2 y hy
       ·cases e
     | _=>cases e
theorem RE.joinM {f:M D}{g:M (List D)}{σ:L2.St}{H:Hp}{Q:VK}(q:RE K (F2.joinM f g) σ H Q):tBM K "str" (TX K) (RE K f) (RA K g) σ H Q:=by
 obtain ⟨Oo,c,t,fi,r,t',eq,k⟩:=q;obtain ⟨d,t1,e1,eq⟩:=Ae eq;obtain ⟨as,t2,e2,eq⟩:=Ae eq;refine ⟨Oo,c,t,fi,d,t1,e1,λv H1 c1 f1 s1 rv=>?_⟩
 split at eq
 ·next z ds=>
  cases rv
  refine ⟨rfl,Oo,c1,t1,f1,_,t2,e2,λus H2 c2 f2 s2 rus=>?_⟩;obtain ⟨w,rfl,rw'⟩:=Fa rus
  split at eq
  ·next ys ey=>
   split at eq
   ·next hz=>
    cases eq
    cases rw' with
    | @lst p vs ds h1 h2 h3=>
      obtain ⟨h4,h5⟩:=MQ h3 ey;subst h4;exact ⟨_,p,ys,rfl,rfl,SqL.of h1,h5,hz.1,hz.2,k _ _ c2 f2 (s1.trans s2) (.str _)⟩
   ·cases eq
  ·cases eq
 ·cases eq
theorem Us {o e:Expr}{es:List Expr}{f:M D}{g:M (List D)}{apos cpos:Pos}(ho:PE X o (RE X.K f))(ha:PA X (e :: es) (RA X.K g))
 (hbase:attributeBase o "join" X.env (eval o X.env)=eval o X.env:=by rfl)
 (hfew:((backTo cpos (starEach (e :: es) X.env)).all (λx=>!x.1) && (backToKw cpos (keywordEach [] X.env)).all (λx=>x.1.isSome) && decide ((e :: es).length + ([]:List Keyword).length + (if ([]:List Keyword).isEmpty then 0 else 1) < 30))=true:=by rfl)
 (hline:(apos.endLine == cpos.line)=true:=by rfl) (hs:starEach (e :: es) X.env=(false,eval e X.env) :: starEach es X.env:=by rfl) (hplain:(backTo cpos (starEach es X.env)).any (·.1)=false:=by rfl) :
 PE X (.Call (.Attribute o "join" apos) (e :: es) [] cpos) (RE X.K (joinM f g)):=
 AI (Jr PySem.F.plainAttrs_str PySem.F.slot_str_join PySem.F.type_str_join UT ho ha hbase hfew hline hs hplain) λ_ _ _ q=>RE.joinM q
end
end F2
namespace L2
open PySem PySem.Spec PyProof.Rows
def Qz:R2:=λx y H Q=>∃a kvs k v,x = .ref a/\y = .str k/\H a=some (.dK kvs)/\DL kvs (Sum.inr k:Key)=some v/\Q v H
def XV:V->V->V->Hp->(Hp->Prop)->Prop:=λo i v H Q=>∃a kvs k,o = .ref a/\i = .str k/\H a=some (.dK kvs)/\kvs.length < sizeLine/\Q (upd H a (.dK (Fw kvs (Sum.inr k:Key) v)))
section
variable {X:Cx}
theorem W6:IxR X Qz:=by
 intro value slice pins s σ H x y v u Q I rx ry h hs;obtain ⟨a,kvs,k,z,rfl,rfl,e,l,q⟩:=h
 cases rx
 obtain ⟨_,_,vs,rel,dd⟩:=Of I.hok e;have g:DGet H a (kV (Sum.inr k:Key)) (some z):=by rw [<-l];exact DGet.k e
 have hT:=dd.typeIs;unfold subscriptTail;refine um0 ?_;rw [getitemInPython_of_ne hT.not_modules];refine um0 (wpAny_specialOf hT PySem.F.slot_dict_getitem.lookup ?_);have get:wpAny (model X.prog X.w) X.A (getItem (.ref a) u) (EP X pins σ Q) X.xe s:=by
  obtain ⟨w',hw,rw'⟩:=RelO.some_of (v:=z) (o:=valueAt vs (Sum.inr k:Key)) (by rw [<-l];exact rel.val _);exact wpAny_getItem_of (Lq (k:=(Sum.inr k:Key)) ry) dd.mapOf hw ⟨z,H,I.tok _,rw',q⟩
 have fin:wpAny (model X.prog X.w) X.A (subscripted slice false (.ref a) u) (λr s₃=>wpAny (model X.prog X.w) X.A (letTemporaryGo value (.ref a) r >>= λ_=>pure r) (EP X pins σ Q) X.xe s₃) X.xe s:=by
  rw [hs];exact wpAny_operating (um2 get (λr s₃ h₃=>um0 (wpAny_letTemporaryGo (um1 h₃))) λ_ _ x=>x)
 first
  | exact um1 (um0 fin)
  | exact um0 (um1 (um0 fin))
  | exact um0 fin
theorem VM:We X XV:=by
 intro pins s σ H o i v ov iv u Q I ro ri rv h;obtain ⟨a,kvs,k,rfl,rfl,e,l,q⟩:=h
 cases ro
 obtain ⟨z,hd,vs,rel,dd⟩:=Of I.hok e;have hz:vs.length<=sizeLine:=by rw [<-rel.length];exact z
 have hl:(Fw kvs (Sum.inr k:Key) v).length<=sizeLine:=by have:=M6 kvs (Sum.inr k:Key) v;lia
 refine wpAny_setItem_pairs (hsz:=hz) (Lq (k:=(Sum.inr k:Key)) ri) dd λh' dd' hs=>⟨_,?_,q⟩;have he:∃q,h'.get? a=some q:=let ⟨q,_,_,hq,_⟩:=dd';⟨q,hq⟩;exact Um I (by rw [e];exact True.intro) hs he (Pn hl hd (rel.put _ rv) dd')
end
end L2
namespace F2
open PySem L2 PySem.Spec
noncomputable def By (kvs:List (Key×D))(k:Key):Option D:=(kvs.find? λkv=>decide (kv.1=k)).map (·.2)
noncomputable def FM (kvs:List (Key×D))(k:Key)(d:D):List (Key×D):=
 if (kvs.any λkv=>decide (kv.1=k))=true then kvs.map (λkv=>if kv.1=k then (kv.1,d) else kv) else kvs++[(k,d)]
def FI:D->D->M D
 | .obj n,.str x=>λt=>match t.S[n]? with
   | some (.dct kvs)=>(By kvs (.inr x)).map λd=>(d,t)
   | _=>none
 | _,_=>fail
def Ge:D->D->D->M Unit
 | .obj n,.str x,d=>λt=>match t.S[n]? with
   | some (.dct kvs)=>if kvs.length < LIM then some ((),{ t with S:=t.S.set n (.dct (FM kvs (.inr x) d)) }) else none
   | _=>none
 | _,_,_=>fail
def Jw (f g:M D)(d:D):M Unit:=bnd f λo=>bnd g λi=>Ge o i d
def JY (ps:List (Key×D)):List (Key×D):=ps.foldl (λacc kv=>FM acc kv.1 kv.2) []
def JT (n:Nat)(ps:List (Key×D)):M D:=λt=>match t.S[n]? with
 | some (.dct [])=>if ps.length<=15 then some (.obj n,{ t with S:=t.S.set n (.dct (JY ps)) }) else none
 | _=>none
section
variable {K:PySem.W.Frag}{c:Cf}{H:Hp}
theorem KVR.get {us:List (Key×V)}{kvs:List (Key×D)}(r:KVR K c H us kvs)(k:Key){d:D}(e:By kvs k=some d):∃v,DL us k=some v/\Rep K c H v d:=by
 unfold KVR at r
 induction r with
 | nil=>simp [By] at e
 | @cons p q ps qs h t ih=>
   by_cases hk:p.1=k
   ·have hq:q.1=k:=h.1.symm.trans hk;have:By (q :: qs) k=some q.2:=by simp [By,ui1,hq]
    rw [this] at e;cases e
    exact ⟨p.2,GL hk,h.2⟩
   ·have hq:¬q.1=k:=λz=>hk (h.1.trans z);have:By (q :: qs) k=By qs k:=by simp [By,ui1,hq]
    rw [this] at e;rw [GK hk];exact ih e
theorem KVR.any {us:List (Key×V)}{kvs:List (Key×D)}(r:KVR K c H us kvs)(k:Key):(us.any λkv=>decide (kv.1=k))=(kvs.any λkv=>decide (kv.1=k)):=by
 unfold KVR at r
 induction r with
 | nil=>rfl
 | @cons p q ps qs h t ih=>rw [uj8,uj8,ih,h.1]
theorem KVR.put {us:List (Key×V)}{kvs:List (Key×D)}(r:KVR K c H us kvs)(k:Key){v:V}{d:D}(rv:Rep K c H v d):KVR K c H (Fw us k v) (FM kvs k d):=by
 unfold Fw FM;rw [r.any k]
 by_cases q:(kvs.any λkv=>decide (kv.1=k))=true
 ·rw [if_pos q,if_pos q];clear q;unfold KVR at r ⊢
  induction r with
  | nil=>exact .nil
  | @cons p q ps qs h t ih=>
    rw [uj6,uj6];refine .cons ?_ ih
    by_cases e:p.1=k
    ·rw [if_pos e,if_pos (h.1.symm.trans e)];exact ⟨h.1,rv⟩
    ·rw [if_neg e,if_neg (λz=>e (h.1.trans z))];exact h
 ·rw [if_neg q,if_neg q];exact Paired.snoc r ⟨rfl,rv⟩
theorem KVR.length {us:List (Key×V)}{kvs:List (Key×D)}(r:KVR K c H us kvs):us.length=kvs.length:=Paired.length r
theorem KVR.mono {c':Cf}{H':Hp}{us:List (Key×V)}{kvs:List (Key×D)}(e:Ext c H c' H')(r:KVR K c H us kvs):KVR K c' H' us kvs:=Paired.mapP r λ_ _ z=>⟨z.1,z.2.mono e⟩
theorem QI:Bh K Qz FI:=λ{Oo c t σ H x y dx dy r t' Q} f rx ry eq k=>by
 unfold FI at eq
 split at eq
 ·next n z=>
  cases ry
  cases rx with
  | @obj a kk hk=>
    split at eq
    ·next kvs es=>
     obtain ⟨d,e1,e2⟩:=uc2.mp eq
     cases e2
     obtain ⟨us,g1,g2⟩:=f.s.obs _ a _ hk es;obtain ⟨v,e3,e4⟩:=g2.get _ e1;exact ⟨a,us,z,v,rfl,rfl,g1,e3,k _ H c f .refl e4⟩
    ·cases eq
 ·cases eq
end
section
variable {X:Cx}{pos:Pos}{e:Expr}
theorem Px {o i:Expr}{f g:M D}(ho:PE X o (RE X.K f))(hi:PE X i (RE X.K g))
 (ha:∀v,assign (.Subscript o i pos) X.env v=(do
   let ov <-holding [v] (eval o X.env)
   let iv <-holding [v,ov] (eval i X.env)
   standAt pos
   holding [v,ov,iv] (setItem ov iv v)
   release [v,ov,iv] []):=by intro _;rfl):PG X (.Subscript o i pos) (RG X.K (Jw f g)):=
 LF (XI ho hi VM ha) λv σ H Q z9=>by
  obtain ⟨Oo,c,t,d,fi,rv,t',eq,k⟩:=z9;obtain ⟨d0,t1,e1,eq⟩:=Ae eq;obtain ⟨di,t2,e2,eq⟩:=Ae eq;refine ⟨Oo,c,t,fi,_,t1,e1,λx H1 c1 f1 s1 rx=>⟨Oo,c1,t1,f1,di,t2,e2,λy H2 c2 f2 s2 ry=>?_⟩⟩;unfold Ge at eq
  split at eq
  ·next n z dd=>
   cases ry
   cases rx with
   | @obj a kk hk=>
     split at eq
     ·next kvs es=>
      split at eq
      ·next hl=>
       cases eq
       have hk2:=s2.ext.io _ _ hk;obtain ⟨us,g1,g2⟩:=f2.s.obs _ a _ hk2 es;refine ⟨a,us,z,rfl,rfl,g1,by rw [g2.length];exact Nat.lt_trans hl Wb,?_⟩;have rv2:=rv.mono (s1.trans s2).ext;obtain ⟨f3,s3⟩:=f2.wrObj (o:=.dct (FM kvs (.inr z) d)) (u:=.dK (Fw us (.inr z) v)) hk2 λc' H' ext hu=>⟨_,hu,(g2.put _ rv2).mono ext⟩;exact k σ _ c2 f3 ((s1.trans s2).trans s3)
      ·cases eq
     ·cases eq
  ·cases eq
end
end F2
namespace L2
open PySem PySem.Spec PyProof.Rows
section
variable {X:Cx}
end
end L2
namespace F2
open PySem L2 PySem.Spec
section
variable {X:Cx}{pos:Pos}{e:Expr}{es:List Expr}
end
end F2
namespace L2
open PySem PySem.Spec PyProof.Rows
section
variable {prog:Program}{w:World}{A:Around}{I:Addr}{fp wr:List Addr}{G:Array GenState->Array GenState->Prop}{n:Nat}{P:Nat->Value->Prop}{St:Nat->Shared->Prop}
end
section
variable {X:Cx}
end
end L2
namespace F2
open PySem L2 PySem.Spec PyProof.Rows
section
variable {X:Cx}{pos:Pos}{e:Expr}
end
end F2
namespace F2
open PySem L2 PySem.Spec
noncomputable def CY (f:M Bool)(b:M Out):Nat->M Out
 | 0=>λ_=>none
 | n + 1=>λt=>match f t with
   | none=>none
   | some (false,t1)=>some (.next,t1)
   | some (true,t1)=>match b t1 with
     | some (.next,t2)=>CY f b n t2
     | some (.cont,t2)=>CY f b n t2
     | some (.brk,t2)=>some (.next,t2)
     | some (.ret x,t2)=>some (.ret x,t2)
     | none=>none
def Lj:Nat:=1000000
def Hy (f:M Bool)(b:M Out):M Out:=CY f b Lj
theorem RS.while {μ:Cf->Hp->D->(V->Hp->Prop)->Prop}{K:PySem.W.Frag}{f:M Bool}{b:M Out}{E:Ends}{σ:L2.St}{H:Hp}(q:RSg K μ (Hy f b) E σ H):QS (RT K f) (RSg K μ b) E σ H:=by
 obtain ⟨Oo,c,t,fi,o,t',eq,k⟩:=q;refine ⟨λm σ' H'=>∃c' t2,FInv K Oo c' t2 σ' H'/\Stp Oo c H c' H'/\CY f b m t2=some (o,t'),⟨Lj,c,t,fi,.refl,eq⟩,?_⟩;rintro m σ' H' ⟨c',t2,f2,s2,e2⟩
 cases m with
 | zero=>cases e2
 | succ m=>
 rw [CY] at e2;dsimp only at e2
 cases ef:f t2 with
 | none=>rw [ef] at e2;cases e2
 | some p=>
 obtain ⟨r,t3⟩:=p;rw [ef] at e2;refine ⟨Oo,c',t2,f2,r,t3,ef,λH3 c3 f3 s3=>?_⟩
 cases r with
 | false=>
   cases e2
   exact k σ' H3 c3 f3 (s2.trans s3)
 | true=>
   rw [if_pos rfl];dsimp only at e2;refine ⟨λσ4 H4=>∃c4 t4,FInv K Oo c4 t4 σ4 H4/\Stp Oo c H c4 H4/\CY f b m t4=some (o,t'),λσ4 H4 h=>⟨m,ug2 m,h⟩,?_⟩
   cases eb:b t3 with
   | none=>rw [eb] at e2;cases e2
   | some p=>
   obtain ⟨ob,t4⟩:=p;rw [eb] at e2;refine ⟨Oo,c3,t3,f3,ob,t4,eb,λσ4 H4 c4 f4 s4=>?_⟩
   cases ob with
   | next=>exact ⟨c4,t4,f4,(s2.trans s3).trans s4,e2⟩
   | cont=>exact ⟨c4,t4,f4,(s2.trans s3).trans s4,e2⟩
   | brk=>
     cases e2
     exact k σ4 H4 c4 f4 ((s2.trans s3).trans s4)
   | ret x=>
     cases e2
     exact k σ4 H4 c4 f4 ((s2.trans s3).trans s4)
section
variable {X:Cx}{pos:Pos}
theorem Mh {μ:Cf->Hp->D->(V->Hp->Prop)->Prop}{e:Expr}{body:List Stmt}{f:M Bool}{b:M Out}(hp:PassesOwn (model X.prog X.w) X.A X.env X.xe)(hc:PT X e (RT X.K f))(hb:PSs X body (RSg X.K μ b)):PS X (.While e body [] pos) (RSg X.K μ (Hy f b)):=
 Bb (SM hp hc hb) λ_ _ _ q=>RS.while q
end
end F2
namespace L2
open PySem PySem.Spec PyProof.Rows
end L2
namespace F2
open PySem L2 PySem.Spec
end F2
namespace L2
open PySem PySem.Spec PyProof.Rows
section
variable {X:Cx}{tg:Expr}
end
end L2
namespace F2
open PySem L2 PySem.Spec
section
variable {X:Cx}{pos:Pos}{e:Expr}{es:List Expr}
end
noncomputable def ED (H:Hp)(a:Addr):Hp:=λb=>if b=a then none else H b
theorem SA {H:Hp}{a:Addr}{o:HO}(h:H a=some o):upd (ED H a) a o=H:=by
 funext b
 by_cases e:b=a
 ·subst e;rw [Aj];exact h.symm
 ·rw [Ag e];unfold ED;rw [if_neg e]
section
variable {K:PySem.W.Frag}{Oo:Addr->Prop}{c:Cf}{t:T}{σ:L2.St}{H:Hp}
theorem FInv.out (f:FInv K Oo c t σ H){i:Nat}{ds:List D}(e:t.env[i]?=some (some (.own ds))){a:Addr}(ha:σ[i]?=some (some (.ref a))) :
 FInv K Oo ⟨c.ι,λb=>c.O b/\b≠a⟩ { t with env:=t.env.set i none } σ (ED H a)/\Stp Oo c H ⟨c.ι,λb=>c.O b/\b≠a⟩ (ED H a):=by
 obtain ⟨a',vs,g1,g2,g3,g4,g5⟩:=f.own i ds e;rw [ha] at g1;injection g1 with g1;injection g1 with g1;injection g1 with g1;subst g1
 have ni:a∉c.ι:=f.s.dis a g2;have ext:Ext c H ⟨c.ι,λb=>c.O b/\b≠a⟩ (ED H a):=by
  refine ⟨λb o hb hn=>?_,λb o hb z=>?_,λk b h=>h⟩
  ·unfold ED;rw [if_neg λz=>hn (by rw [z];exact .inr g2)];exact hb
  ·rcases z with z | z
   ·exact .inl z
   ·exact .inr z.1
 have stp:Stp Oo c H ⟨c.ι,λb=>c.O b/\b≠a⟩ (ED H a):=⟨ext,λb hb=>by unfold ED;rw [if_neg λz=>g3 (by rw [<-z];exact hb)]⟩;have old:∀{j:Nat} {x:Sl},(t.env.set i none)[j]?=some (some x)->j≠i/\t.env[j]?=some (some x):=λ{j x} q=>by
  by_cases h:j=i
  ·subst h;rw [uf6] at q
   split at q
   ·split at q <;> simp at q
   ·contradiction
  ·exact ⟨h,by rw [ud1 (Ne.symm h)] at q;exact q⟩
 refine ⟨⟨⟨f.s.len,f.s.nd,λk b o e1 e2=>?_,λb hb=>?_,λb hb=>f.s.dis b hb.1⟩,by simpa using f.len,λb hb=>⟨f.sub b hb,λz=>g3 (by rw [<-z];exact hb)⟩,λj d q=>?_,λj es q=>?_,λj k es fs b q1 q2 q3 q4=>?_⟩,stp⟩
 ·refine (f.s.obs k b o e1 e2).mono ext ?_;unfold ED;rw [if_neg λz=>ni (by rw [<-z];exact ud2 e1)]
 ·obtain ⟨o,ho⟩:=f.s.trk b hb.1;exact ⟨o,by unfold ED;rw [if_neg hb.2];exact ho⟩
 ·obtain ⟨v,h1,h2⟩:=f.val j d (old q).2;exact ⟨v,h1,h2.mono ext⟩
 ·obtain ⟨nj,q'⟩:=old q;obtain ⟨b,us,k1,k2,k3,k4,k5⟩:=f.own j es q';have nb:b≠a:=λz=>nj (f.inj j i es ds a q' e (by rw [k1,z]) ha);exact ⟨b,us,k1,⟨k2,nb⟩,k3,by unfold ED;rw [if_neg nb];exact k4,k5.mono ext⟩
 ·exact f.inj j k es fs b (old q1).2 (old q2).2 q3 q4
end
noncomputable def Gb (i:Nat):M Out:=λt=>match t.env[i]? with
 | some (some (.own xs))=>some (.ret (.lst xs),{ t with env:=t.env.set i none })
 | _=>none
def FU (f:M (List D)):M Out:=bnd f λds=>ret (.ret (.lst ds))
variable {g:Fn}{fa:Addr}{fd:FuncData}
section
variable {X:Cx}{pos:Pos}{e:Expr}{es:List Expr}
theorem Nu {f:M (List D)}(h:PE X e (RF X.K f)):PS X (.Return (some e) pos) (RSg X.K (μF X.K) (FU f)):=
 Bb (Hq h) λE σ H z9=>by
  obtain ⟨Oo,c,t,fi,o,t',eq,k⟩:=z9;obtain ⟨ds,t1,e1,eq⟩:=Ae eq
  cases eq
  exact ⟨Oo,c,t,fi,ds,_,e1,λp us H1 c1 f1 s1 ru hp=>k σ H1 c1 f1 s1 p us hp ru⟩
theorem PN (i:Nat){x:Str}{px:Pos}(hN:X.N[i]?=some x:=by rfl)(hv:Vis X.env.scope x:=by walk_at "h")(hd:(x == ("__debug__" : Str))=false:=by decide)
 (hcd:(x == ("__classdict__" : Str))=false:=by decide):PS X (.Return (some (.Name x px)) pos) (RSg X.K (μF X.K) (Gb i)):=
 Bb (Hq (Cm hN hv hd hcd)) λE σ H z9=>by
  obtain ⟨Oo,c,t,fi,o,t',eq,k⟩:=z9;unfold Gb at eq
  split at eq
  ·next xs ex=>
   cases eq
   obtain ⟨a,vs,h1,h2,h3,h4,h5⟩:=fi.own i xs ex;refine ⟨.ref a,h1,?_⟩;obtain ⟨f2,s2⟩:=fi.out ex h1;have:=k σ (ED H a) _ f2 s2 a vs (by unfold ED;rw [if_pos rfl]) (h5.mono s2.ext);rw [SA h4] at this;exact this
  ·cases eq
inductive spFF (K:PySem.W.Frag)(f:Fn)(vs:List V)(H:Hp)(Q:VK)(E:XK):Prop where
 | mk (c:Cf) (ds:List D) (S:List Ob) (si:SInv K c S H) (rp:Reps K c H vs ds) (rs:List D) (S':List Ob) (e:f ds S=some (.lst rs,S')) (k:∀p us H' c',SInv K c' S' H'->Stp c.O c H c' H'->(∀b,c'.O b↔c.O b)->Reps K c' H' us rs->H' p=none->Q (.ref p) (upd H' p (.lst us))):spFF K f vs H Q E
def Dd (g:Fn)(f:M (List D)):M (List D):=bnd f λds t=>match g ds t.S with
 | some (.lst rs,S')=>some (rs,{ t with S:=S' })
 | _=>none
theorem Oc {ds:List D}{t:T}{rs:List D}{t':T}(h:(match g ds t.S with | some (.lst rs,S')=>some (rs,{ t with S:=S' }) | _=>none:Option (List D×T))=some (rs,t')):∃S',g ds t.S=some (.lst rs,S')/\t' = { t with S:=S' }:=by
 split at h
 ·next rs' S' e=>cases h;exact ⟨S',e,rfl⟩
 ·cases h
theorem RC {k:Nat}{ps:List Str}{f:M (List D)}{x:Str}{p:Pos}(F:FnOk X.prog X.w X.K X.mg X.base CX0 k fa fd ps (spFF X.K g))(hr:Room k X.A)(hg:Gl X x)(hm:X.mg x=some (.ref fa))(hk:PySem.W.keepIn X.K (.ref fa)=true)(hb:Binds X.K fd ps [])
 (ha:PA X (e :: es) (RA X.K f)) (hdb:(x == ("__debug__" : Str))=false:=by decide) (h1:AZ e=false:=by rfl) (h2:A6 es=true:=by rfl) :
 PE X (.Call (.Name x p) (e :: es) [] pos) (RF X.K (Dd g f)):=
 AI (NI F hr hg hm hk hb .nil HU ha hdb (AR h1) (AS h2).1) λσ H Q z9=>by
  obtain ⟨Oo,c,t,fi,rs,t',eq,kk⟩:=z9;obtain ⟨ds,t1,e1,eq⟩:=Ae eq;obtain ⟨S',e2,rfl⟩:=Oc eq;refine ⟨Oo,c,t,fi,ds,t1,e1,λvs H1 c1 f1 s1 rvs=>?_⟩;show spFF X.K g (vs++[]) H1 Q E0;rw [uh8];refine ⟨c1,ds,t1.S,f1.s,rvs,rs,S',e2,λp us H' c' si st ho ru hp=>?_⟩;obtain ⟨f2,s2⟩:=f1.after si st ho;exact kk p us H' c' f2 (s1.trans s2) ru hp
end
theorem Uz {P:Program}{w:World}{K:PySem.W.Frag}{mg:Str->Option Value}{base:Heap}{x qual:Str}{st:Stmt}{N ps:List Str}{k n m:Nat}{g:M Out}(e1:ps.length=n)(e2:N.length=m)(F:Fun K x qual st fa fd)(S:FnScope N ps (Al st))
 (hb:∀(cdv:Value) (A:Around) (outer:List Env) (s:Shared) (H:Hp) (E:XK),Room k (A.deeper (PyProof.Rows.envOfC qual (Al st) s.heap.objs.size fa cdv))->
   PSs (Db CX0 P w K mg base N qual (Al st) fa cdv A outer s H E).nox (A8 st) (RSg K (μF K) g)):FnOk P w K mg base CX0 (k + 1) fa fd ps (spFF K (fnOf n m g)):=by
 subst e1 e2;have hlen:∀{ds:List D} {S:List Ob} {z:D×List Ob},fnOf ps.length N.length g ds S=some z->ds.length=ps.length:=λ{ds S z} h=>by
  unfold fnOf at h
  split at h
  ·next h1=>exact h1
  ·cases h
 refine F.ok S (λvs H Q E h=>?_) (λcdv A outer s H vs Q E hr h=>?_)
 ·obtain ⟨c,ds,S,si,rs,r,S',e,_⟩:=h;rw [rs.length];exact hlen e
 obtain ⟨c,ds,S0,si,rs,r,S',e,kk⟩:=h;refine ⟨RSg K (μF K) g,hb cdv A outer s H E hr,?_⟩;have hl:=hlen e;unfold fnOf at e;rw [if_pos hl] at e
 cases eg:g ⟨env0 N.length ds,S0⟩ with
 | none=>rw [eg] at e;cases e
 | some p=>
   obtain ⟨o,t⟩:=p;rw [eg] at e;refine ⟨c.O,c,_,Gp si rs,o,t,eg,λσ' H' c' f' s'=>?_⟩;obtain ⟨si',ext'⟩:=f'.leave;have st':Stp c.O c H ⟨c'.ι,c.O⟩ H':=⟨s'.ext.trans ext',s'.oo⟩
   cases o with
   | next=>cases e
   | ret d=>
     cases e
     exact λp us hp ru=>kk p us H' _ si' st' (λ_=>Iff.rfl) (ru.mono ext') hp
   | brk=>cases e
   | cont=>cases e
theorem Vq {P:Program}{w:World}{K:PySem.W.Frag}{mg:Str->Option Value}{base:Heap}{ps:List Str}{k:Nat}{f:Fn}(e:f=g)(h:FnOk P w K mg base CX0 k fa fd ps (spFF K g)):FnOk P w K mg base CX0 k fa fd ps (spFF K f):=by rw [e];exact h
end F2
namespace L2
open PySem PySem.Spec PyProof.Rows
section
variable {X:Cx}
theorem U4 {o:Expr}{to:TE}{apos cpos:Pos}(ho:PE X o to)(hbase:attributeBase o "bit_length" X.env (eval o X.env)=eval o X.env:=by rfl)(hline:(apos.endLine == cpos.line)=true:=by rfl) :
 PE X (.Call (.Attribute o "bit_length" apos) [] [] cpos) (λσ H Q=>to σ H λv H1=>∃i,v = .int i/\Q (.int (Builtin.Int.intBits i:Nat)) H1):=by
 intro pins s σ H Q I h;refine Call_method0 hbase hline (thn (ho pins s σ H _ I h) λu s1 z9=>?_);obtain ⟨v,H1,I1,rv,i,ex,q⟩:=z9;subst ex;obtain ⟨t,rfl⟩:=rv;exact ⟨"int", "int.bit_length",PySem.F.plainAttrs_int,ua4,PySem.F.type_int_bit_length,typeIs_int _ _ _,(λ_ e=>nomatch e),
  method0_gives ua4 PySem.F.entry_int_bit_length (typeIs_int _ _ _) (PySem.F.args_int_bit_length_1 _) (PySem.AutoIntG2.int_bit_length_int_0 i t) ⟨.int (Builtin.Int.intBits i:Nat),H1,I1.tok _,⟨_,rfl⟩,q⟩⟩
end
end L2
namespace F2
open PySem L2 PySem.Spec
def IU:D->M D
 | .int i=>ret (.int (Builtin.Int.intBits i:Nat))
 | _=>fail
section
variable {X:Cx}{pos:Pos}{e:Expr}{es:List Expr}
theorem Pt {o:Expr}{f:M D}{apos cpos:Pos}(ho:PE X o (RE X.K f))(hbase:attributeBase o "bit_length" X.env (eval o X.env)=eval o X.env:=by rfl)(hline:(apos.endLine == cpos.line)=true:=by rfl) :
 PE X (.Call (.Attribute o "bit_length" apos) [] [] cpos) (RE X.K (fUn f IU)):=
 AI (U4 ho hbase hline) λσ H Q z9=>by
  obtain ⟨Oo,c,t,fi,r,t',eq,k⟩:=z9;obtain ⟨d,t1,e1,eq⟩:=Ae eq;refine ⟨Oo,c,t,fi,d,t1,e1,λx H1 c1 f1 s1 rx=>?_⟩;unfold IU at eq
  split at eq
  ·next i=>
   cases eq
   cases rx
   exact ⟨i,rfl,k _ H1 c1 f1 s1 (.int _)⟩
  ·cases eq
end
section
variable {X:Cx}{b elt:Expr}{pos:Pos}
end
end F2
namespace L2
open PySem PySem.Spec PyProof.Rows
theorem Inv.turnedL {X:Cx}{pins:List (Addr×Obj)}{σ:St}{H:Hp}{s:Shared}{h':Heap}{t':Nat}(fp:List Addr)(I:Inv X pins σ H s)(hf:∀b∈fp,FpOk X pins H b)(k:∀b o,b∉fp->s.heap.get? b=some o->h'.get? b=some o):Inv X pins σ H { s with heap:=h',toks:=t' }:=by
 have nit:∀b u,H b=some u->b∉fp:=λb u e z=>by rw [(hf b z).1] at e;cases e
 refine I.step (g':=s.gens) (d':=s.drawn) (ch:=fp) (λb hb=>?_) (λb o _ _ hc e _=>k b o hc e) (λb o _ _ hc e _=>⟨o.slots,k b o hc e⟩) (λ_ _ _ _ n=>n)
  (λb o hc e=>⟨o,k b o hc e⟩) (λ_ _ e=>e) (λ_ _ _ e=>e) (λb ps e=>⟨#[],by rw [e];simp⟩) (λm hm=>?_) (λb u e=>?_) I.bare
 ·obtain ⟨_,h1,_,h3,h4,h5⟩:=hf b hb;exact ⟨h3,h1,h4,h5⟩
 ·obtain ⟨o,es,ep,ho,r⟩:=hm;exact ⟨o,es,ep,k _ o (λz=>(hf _ z).2.1 rfl) ho,r⟩
 ·refine (I.hok b u e).stay (λc v hc q=>k c v ?_ q) (λ_ q=>q) λ_ _ q=>q;rcases hc with z | z
  ·rw [z];exact nit b u e
  ·exact nit c _ z
def Ite (K:PySem.W.Frag)(a:Addr):It:=
 ⟨λi H=>∃xs x,SqL K H a xs/\xs[i]?=some x,λi H x H'=>∃p v,x = .ref p/\H p=none/\(∀xs,SqL K H a xs->xs[i]?=some v)/\H'=upd H p (.tup [.int i,v]),λi H=>∃xs,SqL K H a xs/\xs.length<=i⟩
theorem QX {P:Program}{w:World}{K:PySem.W.Frag}{elts:List Expr}{n:Nat}{pos:Pos}(a e it:Addr)(hne:e≠it):Turn P w K (.Tuple elts n pos) (Ite K a) [e,it] e (λi h=>(∃old,IsEnum h e it i old)/\h.IsListIter it a i) where
 mem:=by simp
 obj:=λi h st b hb=>by
  obtain ⟨⟨old,h1⟩,o,e1,c,d⟩:=st;simp only [uj5,uh0,or_false] at hb;rcases hb with rfl | rfl
  ·exact ⟨_,h1,λv z=>by have z':Data.fields _=Data.cell v:=z;cases z'⟩
  ·exact ⟨o,e1,λv z=>by rw [d] at z;cases z⟩
 keep:=λi h h' st k=>⟨by obtain ⟨⟨old,h1⟩,_⟩:=st;exact ⟨old,k e (by simp) _ h1⟩,st.2.at λo e=>k it (by simp) o e⟩
 item:=by
  intro X hP hw hK hc i pins s σ H E I hf st hg;subst hP hw hK;obtain ⟨xs,x,hq,hx⟩:=hg;obtain ⟨its,rv,p,hz⟩:=I.list hq;obtain ⟨u,hu,ru⟩:=rv.get hx;obtain ⟨⟨old,st1⟩,st2⟩:=st;refine wpAny_pyNext_enum_item st1 st2 p.isList (x:=u) (by simpa using hu) hne λh' so st2' hT hsz kk=>?_;refine ⟨_,rfl,?_⟩;refine wpAny_letOwnedTupleGo_enum so λh2 st1' sb=>?_;have fe:=hf e (by simp);have fi:=hf it (by simp);have le:e < s.heap.objs.size:=uk5 st1;have li:it < s.heap.objs.size:=by obtain ⟨o,e1,_,_⟩:=st2;exact uk5 e1
  have hfr:H s.heap.objs.size=none:=I.hok.fresh (ul5 _);have h2T:h2.get? s.heap.objs.size=some { cls:=.type "tuple",data:=.seq #[.int (i:Nat) s.toks,u] }:=(sb.2 _ (uk9 le)).trans hT;have I1:Inv X pins σ (upd H s.heap.objs.size (.tup [.int (i:Nat),x])) { s with heap:=s.heap.push { cls:=.type "tuple",data:=.seq #[.int (i:Nat) s.toks,u] },toks:=s.toks }:=
   I.laid (t':=s.toks) (λb u e=>ub9 _ e) (ul5 _) ⟨by show 2<=sizeLine;decide,[.int (i:Nat) s.toks,u],.cons ⟨_,rfl⟩ (.cons ru .nil),⟨_,ud4 _ rfl,rfl,_,rfl⟩⟩
  have hup:∀b,b≠s.heap.objs.size->upd H s.heap.objs.size (.tup [.int (i:Nat),x]) b=H b:=λb hb=>Ag hb;have fp':∀b∈[e,it],FpOk X pins (upd H s.heap.objs.size (.tup [.int (i:Nat),x])) b:=λb hb=>by
   obtain ⟨g0,g1⟩:=hf b hb;refine ⟨?_,g1⟩;rw [hup b ?_];exact g0;simp only [uj5,uh0,or_false] at hb;rcases hb with rfl | rfl
   ·exact uk6 le
   ·exact uk6 li
  refine ⟨.ref s.heap.objs.size,upd H s.heap.objs.size (.tup [.int (i:Nat),x]),?_,rfl,⟨_,x,rfl,hfr,λys hy=>by rw [I.list_inj hy hq];exact hx,rfl⟩,⟨⟨_,by simpa using st1'⟩,?_⟩,λb hb=>(fp' b hb).1⟩
  ·have I2:=Inv.turnedL (h':=h2) (t':=s.toks + 1) [e,it] I1 fp' λb o hb eb=>(by
    simp only [uj5,uh0,or_false,not_or] at hb;rcases Heap.get?_push_cases eb with ⟨rfl,rfl⟩ | eb'
    ·exact h2T
    ·exact (sb.2 b hb.1).trans (kk b o hb.1 hb.2 eb'))
   exact I2
  ·exact st2'.at λo e1=>(sb.2 it (Ne.symm hne)).trans e1
 done:=by
  intro X hP hw hK hc i pins s σ H E I hf st hg;subst hP hw hK;obtain ⟨xs,hq,hx⟩:=hg;obtain ⟨its,rv,p,hz⟩:=I.list hq;obtain ⟨⟨old,st1⟩,st2⟩:=st;have hl:=rv.length;refine wpAny_pyNext_enum_end (I.ok.hd hc) st1 st2 p.isList (by simp;lia) λh' eb=>⟨rfl,?_⟩;exact Inv.turnedL [e,it] (t':=s.toks) I hf λb o hb e1=>eb b o (λz=>hb (by simp [z])) e1
 self:=λ_ _ _ _ _ st h=>by obtain ⟨⟨old,h1⟩,_⟩:=st;exact wpAny_pyIter_enum h1 h
def YT (K:PySem.W.Frag)(ta:TA):TI:=λσ H R=>ta σ H λvs H1=>∃a xs,vs=[.ref a]/\SqL K H1 a xs/\R (Ite K a) H1
theorem Va {X:Cx}{e:Expr}{ta:TA}{elts:List Expr}{n:Nat}{tpos p pos:Pos}(hg:Gl X "enumerate")(hm:X.mg "enumerate" = none)(ha:PA X [e] ta)(hs:starEach [e] X.env=[(false,eval e X.env)]:=by rfl) :
 PI X (.Tuple elts n tpos) (.Call (.Name "enumerate" p) [e] [] pos) (YT X.K ta):=by
 intro pins s σ H R I h;refine Call_ (F3 I hg hm boot_enumerate (ua3 (thn (ha pos pins s σ H _ I h) λus s1 z9=>?_) hs rfl));obtain ⟨vs,H1,I1,r1,q1⟩:=z9;obtain ⟨a,xs,ev,hq,q⟩:=q1;subst ev
 cases r1 with
 | cons r rr=>
   cases rr
   cases r
   obtain ⟨its,rv,pl,hz⟩:=I1.list hq;refine call_enumerate_list pl.isList λh' e1 e2 e3 kk=>?_;refine wpAny_pyIter_enum e1 ?_;have hfp:∀b∈[s1.heap.objs.size + 1,s1.heap.objs.size],FpOk X pins H1 b:=λb hb=>by
    have hb':s1.heap.objs.size<=b:=by
     simp only [uj5,uh0,or_false] at hb;lia
    exact I1.fpOk hb' (I1.hok.fresh hb')
   exact ⟨s1.heap.objs.size + 1,[s1.heap.objs.size + 1,s1.heap.objs.size],_,_,H1,rfl,I1.kept (t':=s1.toks) kk,QX a (s1.heap.objs.size + 1) s1.heap.objs.size (Nat.succ_ne_self _),⟨⟨_,e1⟩,e2⟩,hfp,q⟩
end L2
namespace F2
open PySem L2 PySem.Spec
structure ItOk2 (K:PySem.W.Frag)(J:It)(c:Cf)(H:Hp)(ds:List D):Prop where
 go:∀c' H' (i:Nat),Ext c H c' H'->i < ds.length->J.go i H'
 yld:∀c' H' (i:Nat) x H'' d,Ext c H c' H'->ds[i]?=some d->J.yld i H' x H''->∃p vs es,x = .ref p/\H' p=none/\H''=upd H' p (.tup vs)/\d = .tup es/\Reps K c' H' vs es
 stop:∀c' H',Ext c H c' H'->J.stop ds.length H'
inductive RI2 (K:PySem.W.Frag)(f:M (List D))(σ:L2.St)(H:Hp)(R:It->Hp->Prop):Prop where
 | mk (Oo:Addr->Prop) (c:Cf) (t:T) (fi:FInv K Oo c t σ H) (ds:List D) (t':T) (e:f t=some (ds,t')) (k:∀J H' c',FInv K Oo c' t' σ H'->Stp Oo c H c' H'->ItOk2 K J c' H' ds->R J H'):RI2 K f σ H R
noncomputable def DQ:Nat->List D->List D
 | _,[]=>[]
 | i,d :: r=>.tup [.int (i:Nat),d] :: DQ (i + 1) r
theorem G5:∀(ds:List D) (i:Nat),(DQ i ds).length=ds.length
 | [],_=>rfl
 | d :: r,i=>by rw [DQ,ug1,ug1,G5 r]
theorem KD:∀(ds:List D) (i j:Nat),(DQ i ds)[j]?=(ds[j]?).map λd=>.tup [.int ((i + j:Nat):Int),d]
 | [],_,_=>by simp [DQ]
 | d :: r,i,0=>rfl
 | d :: r,i,j + 1=>by
   rw [DQ,List.getElem?_cons_succ,List.getElem?_cons_succ,KD r (i + 1) j]
   congr 1
   funext d
   rw [show i + 1 + j=i + (j + 1) by lia]
def TK:List D->M (List D)
 | [.lst ds]=>ret (DQ 0 ds)
 | _=>fail
def Og (f:M (List D)):M (List D):=bnd f TK
theorem ItOk2.enum {K:PySem.W.Frag}{c:Cf}{H:Hp}{p:Addr}{ds:List D}(r:∀c' H',Ext c H c' H'->∃vs,SqL K H' p vs/\Reps K c' H' vs ds):ItOk2 K (Ite K p) c H (DQ 0 ds):=by
 refine ⟨λc' H' i ex hi=>?_,λc' H' i x H'' d ex hd hy=>?_,λc' H' ex=>?_⟩
 ·obtain ⟨vs,h1,h2⟩:=r c' H' ex;rw [G5] at hi;obtain ⟨v,e,_⟩:=h2.at (ub3 hi);exact ⟨vs,v,h1,e⟩
 ·obtain ⟨vs,h1,h2⟩:=r c' H' ex;obtain ⟨q,v,rfl,hq,hs,rfl⟩:=hy;have hv:=hs vs h1;rw [KD] at hd;obtain ⟨d',e1,rfl⟩:=uc2.mp hd;obtain ⟨v',e2,rv⟩:=h2.at e1;rw [hv] at e2
  cases e2
  rw [Nat.zero_add];exact ⟨q,_,_,rfl,hq,rfl,rfl,.cons (.int _) (.cons rv .nil)⟩
 ·obtain ⟨vs,h1,h2⟩:=r c' H' ex;exact ⟨vs,h1,by rw [G5,h2.length];exact ul5 _⟩
section
variable {X:Cx}{pos:Pos}{e:Expr}
theorem Uw {f:M (List D)}{elts:List Expr}{n:Nat}{tpos p:Pos}(hg:Gl X "enumerate")(hm:X.mg "enumerate" = none)(ha:PA X [e] (RA X.K f))(h1:AZ e=false:=by rfl):PI X (.Tuple elts n tpos) (.Call (.Name "enumerate" p) [e] [] pos) (RI2 X.K (Og f)):=
 GU (Va hg hm ha (AR h1)) λσ H R z9=>by
  obtain ⟨Oo,c,t,fi,ds,t',eq,k⟩:=z9;obtain ⟨xs,t1,e1,eq⟩:=Ae eq;refine ⟨Oo,c,t,fi,xs,t1,e1,λvs H1 c1 f1 s1 rv=>?_⟩;unfold TK at eq
  split at eq
  ·next es=>
   cases eq
   cases rv with
   | cons r rs=>
     cases rs
     cases r with
     | @lst a ws _ g1 g2 g3=>exact ⟨a,ws,rfl,SqL.of g1,k _ H1 c1 f1 s1 (ItOk2.enum λc' H' ex=>⟨ws,SqL.of (ex.keep _ _ g1 g2),g3.mono ex⟩)⟩
  ·cases eq
end
end F2
namespace L2
open PySem PySem.Spec PyProof.Rows
section
variable {X:Cx}
end
end L2
namespace F2
open PySem L2 PySem.Spec
section
variable {X:Cx}{pos:Pos}{e:Expr}{es:List Expr}
end
end F2
namespace L2
open PySem PySem.Spec PyProof.Rows
section
variable {X:Cx}{e ek:Expr}{p2 pos:Pos}{te:TE}{tk:TO}
end
end L2
namespace F2
open PySem L2 PySem.Spec
section
variable {X:Cx}
end
end F2
namespace L2
open PySem PySem.Spec PyProof.Rows
section
variable {X:Cx}
end
end L2
namespace F2
open PySem L2 PySem.Spec
section
variable {X:Cx}{pos:Pos}
end
end F2
namespace L2
open PySem PySem.Spec PyProof.Rows
section
variable {X:Cx}
end
end L2
namespace F2
open PySem L2 PySem.Spec
end F2
namespace L2
open PySem PySem.Spec PyProof.Rows
section
variable {X:Cx}
end
section
variable {X:Cx}
end
section
variable {X:Cx}
end
end L2
namespace F2
open PySem L2 PySem.Spec
section
variable {X:Cx}{pos:Pos}{e:Expr}{es:List Expr}
end
end F2
namespace L2
open PySem PySem.Spec PyProof.Rows
section
variable {X:Cx}
end
end L2
namespace F2
open PySem L2 PySem.Spec
def HL:List (Int×M D)->M (List (Key×D))
 | []=>ret []
 | (k,f) :: r=>bnd f λd=>bnd (HL r) λps=>ret ((.inl k,d) :: ps)
def Fi (l:List (Int×M D)):M D:=λt=>bnd (HL l) (JT t.S.length) { t with S:=t.S++[.dct []] }
noncomputable def Ov:List (Key×D)->Option (List Int)
 | []=>some []
 | (.inl k,_) :: r=>(Ov r).map (k :: ·)
 | _=>none
section
variable {K:PySem.W.Frag}{c:Cf}{H:Hp}
theorem KVR.has {us:List (Key×V)}{kvs:List (Key×D)}(r:KVR K c H us kvs)(k:Key):(DL us k).isSome=(By kvs k).isSome:=by
 unfold KVR at r
 induction r with
 | nil=>rfl
 | @cons p q ps qs h t ih=>
   by_cases hk:p.1=k
   ·have hq:q.1=k:=h.1.symm.trans hk;rw [GL hk];simp [By,ui1,hq]
   ·have hq:¬q.1=k:=λz=>hk (h.1.trans z);have:By (q :: qs) k=By qs k:=by simp [By,ui1,hq]
    rw [this,GK hk];exact ih
end
section
variable {X:Cx}{pos:Pos}{e b:Expr}
theorem Pu:PE X (.Dict [] [] pos) (RE X.K (Fi [])):=
 AI SG λσ H Q z9=>by
  obtain ⟨Oo,c,t,fi,r,t',eq,k⟩:=z9;intro p hp;obtain ⟨c1,f1,s1,e1⟩:=fi.newObj (o:=.dct []) (u:=.dK []) hp λc' H' ex hu=>⟨[],hu,.nil⟩;have e2:Fi [] t=some (.obj t.S.length,{ t with S:=t.S++[.dct []] }):=by
   simp [Fi,HL,bnd,F2.ret,JT,JY]
  rw [e2] at eq
  cases eq
  exact k _ _ c1 f1 s1 (.obj e1)
end
end F2
namespace L2
open PySem PySem.Spec PyProof.Rows
noncomputable def tb (led:Bool)(pl:List Nat):SetTable:={ mask:=7,place:=pl.toArray,dummies:=#[],finger:=0,led:=led,moves:=0,plain:=true }
noncomputable def pls:Nat->List (List Nat)
 | 0=>[[]]
 | k + 1=>(pls k).flatMap λl=>(List.range 8).filterMap λj=>if l.all (· < j) then some (l++[j]) else none
section
variable {P:Program}{w:World}{A:Around}{E:Value->Shared->Prop}{s:Shared}
end
section
variable {P:Program}{w:World}{A:Around}{I:Addr}{fp wr:List Addr}{G:Array GenState->Array GenState->Prop}{n:Nat}{Pr:Nat->Value->Prop}{St:Nat->Shared->Prop}
end
section
variable {P:Program}{w:World}{A:Around}{E:Value->Shared->Prop}{s:Shared}
end
section
variable {prog:Program}{w:World}{A:Around}
end
section
variable {X:Cx}
end
end L2
namespace F2
open PySem L2 PySem.Spec PyProof.Rows
section
variable {X:Cx}{pos:Pos}{e:Expr}
end
end F2
namespace L2
open PySem PySem.Spec PyProof.Rows
section
variable {P:Program}{w:World}{A:Around}{E:Value->Shared->Prop}{s:Shared}
structure ZT (h:Heap)(z TI TO i1 i2 t1 t2:Addr)(n:Nat):Prop where
 zz:IsZip h z TI TO .none
 ti:IsPair h TI (.ref i1) (.ref i2)
 ot:∃a b,IsPair h TO a b
 p1:h.IsTupleIter i1 t1 n
 p2:h.IsTupleIter i2 t2 n
end
section
variable {P:Program}{w:World}{A:Around}{E:Value->Shared->Prop}{s:Shared}
end
def Itz (K:PySem.W.Frag)(a b:Addr):It:=
 ⟨λi H=>∃xs ys x y,SqT K H a xs/\SqT K H b ys/\xs[i]?=some x/\ys[i]?=some y,λi H v H'=>∃p x y,v = .ref p/\H p=none/\(∀xs,SqT K H a xs->xs[i]?=some x)/\(∀ys,SqT K H b ys->ys[i]?=some y)/\H'=upd H p (.tup [x,y]),λi H=>∃xs ys,SqT K H a xs/\SqT K H b ys/\(xs.length<=i\/ys.length<=i)⟩
end L2
namespace F2
open PySem L2 PySem.Spec
noncomputable def bD:List D->List D->List D
 | x :: xs,y :: ys=>.tup [x,y] :: bD xs ys
 | _,_=>[]
theorem RF.comp2 {K:PySem.W.Frag}{n:Nat}{fr:List Nat}{f:M (List D)}{st:D->M Unit}{tst:M Bool}{elt:M D}{σ:L2.St}{H:Hp}{Q:VK}(q:RF K (B0 n fr f st tst elt) σ H Q):Lu (RI2 K f) (RG K st) (RT K tst) (RE K elt) (EQ n fr) σ H Q:=by
 obtain ⟨Oo,c,t,fi,xs,t',eq,k⟩:=q;obtain ⟨ds,t1,e1,eq⟩:=Ae eq;refine ⟨Oo,c,t,fi,ds,t1,e1,λJ H1 c1 f1 s1 it=>?_⟩
 cases e3:BS st tst elt ds ⟨cenv n fr t1.env,t1.S⟩ with
 | none=>rw [e3] at eq;cases eq
 | some p=>
   obtain ⟨ys,t3⟩:=p;rw [e3] at eq;dsimp only at eq
   split at eq
   case isFalse=>cases eq
   next hl=>
   cases eq
   refine ⟨λi m acc σ' H'=>m=ds.length - i/\i<=ds.length/\∃c' t2 zs rest,FInv K c1.O c' t2 σ' H'/\Stp c1.O c1 H1 c' H'/\Reps K c' H' acc zs/\BS st tst elt (ds.drop i) t2=some (rest,t3)/\xs=zs++rest,
    ⟨_,rfl,ul6 _,c1,_,[],xs,Go f1,.refl,.nil,by rw [uj2];exact e3,rfl⟩,?_⟩
   rintro i m acc σ' H' ⟨rfl,hi,c',t2,zs,rest,f2,s2,ra,e2,ez⟩;have hacc:acc.length<=sizeLine:=by
    have:zs.length<=xs.length:=by rw [ez,ue3];exact ug8 _ _
    rw [ra.length];exact uk7 this (uk7 hl Ci)
   refine ⟨hacc,?_⟩
   by_cases hlt:i < ds.length
   ·refine .inr ⟨it.go c' H' i s2.ext hlt,λx H'' hy=>?_⟩;obtain ⟨p,vs,es,rfl,hp,rfl,ed,rx⟩:=it.yld c' H' i x H'' _ s2.ext (ub3 hlt) hy;rw [ub1 hlt,ed] at e2;unfold BS at e2;obtain ⟨u,t4,e4,e2⟩:=Ae e2;obtain ⟨kb,t5,e5,e2⟩:=Ae e2;have sL:=f2.stp_laid (o:=.tup vs) hp;have s2':=s2.trans sL;have ra':=ra.mono sL.ext;refine ⟨c1.O,c',t2,_,f2.laid hp,.tup Aj (f2.s.free hp) (rx.mono (Ext.laid f2.s hp)),t4,e4,λσ3 H3 c3 f3 s3=>⟨c1.O,c3,t4,f3,kb,t5,e5,λH4 c4 f4 s4=>?_⟩⟩
    cases kb with
    | false=>
      rw [if_neg ue0] at e2 ⊢;exact ⟨ds.length - (i + 1),by lia,rfl,hlt,c4,t5,zs,rest,f4,(s2'.trans s3).trans s4,ra'.mono (s3.trans s4).ext,e2,ez⟩
    | true=>
      rw [if_pos rfl] at e2 ⊢;obtain ⟨x6,t6,e6,e2⟩:=Ae e2;obtain ⟨r7,t7,e7,e2⟩:=Ae e2
      cases e2
      refine ⟨c1.O,c4,t5,f4,x6,t6,e6,λv H5 c5 f5 s5 rv=>?_⟩;exact ⟨ds.length - (i + 1),by lia,rfl,hlt,c5,t6,zs++[x6],r7,f5,((s2'.trans s3).trans s4).trans s5,(ra'.mono ((s3.trans s4).trans s5).ext).append (.cons rv .nil),e7,by rw [ez,uf4];rfl⟩
   ·have hi':i=ds.length:=by lia
    subst hi';rw [ug7] at e2
    cases e2
    refine .inl ⟨it.stop c' H' s2.ext,λp hp _=>?_⟩;obtain ⟨si,ext⟩:=f2.leave;obtain ⟨f6,s6⟩:=f1.after si ⟨s2.ext.trans ext,s2.oo⟩ (λ_=>Iff.rfl);rw [uh8] at ez;subst ez;exact k p acc H' _ f6 (s1.trans s6) (ra.mono ext) hp
section
variable {X:Cx}{e a b tg iter elt:Expr}{ifs:List Expr}{pos:Pos}{scope:Scope}{N':List Str}{n:Nat}{fr:List Nat}{f:M (List D)}{st:D->M Unit}{tst:M Bool}{el:M D}
theorem RD (O:CmpOk X scope N' (EQ n fr))(hc:X.calm=true)(hi:PI X tg iter (RI2 X.K f))
 (hg:∀cl C s2 H2 fp,PG (B9 X N' scope cl C s2 H2 fp) tg (RG X.K st)) (ht:∀cl C s2 H2 fp,PIf (B9 X N' scope cl C s2 H2 fp) ifs (RT X.K tst)) (he:∀cl C s2 H2 fp,PE (B9 X N' scope cl C s2 H2 fp) elt (RE X.K el))
 (hs:∀x,foldedSetIterable iter X.env x=pure x:=by intro _;rfl):PE X (.ListComp elt [⟨tg,iter,ifs,0⟩] scope pos) (RF X.K (B0 n fr f st tst el)):=
 AI (Kc O hc hi hg ht he hs) λ_ _ _ q=>RF.comp2 q
end
def DS:List D->M D
 | [.obj k,.ty m]=>λt=>match t.S[k]? with
   | some (.lst _)=>(EV "list" m).map λb=>(.bl b,t)
   | _=>none
 | ds=>Eg ds
theorem SY {K:PySem.W.Frag}:Ij K (SN K) DS:=λ{Oo c t σ H xs ds r t' Q} f rx eq k=>by
 unfold DS at eq
 split at eq
 ·next n m=>
  obtain ⟨v,u,rfl,rv,ru⟩:=T1 rx
  cases ru
  cases rv with
  | @obj a kk hk=>
  split at eq
  ·next ds es=>
   obtain ⟨b,e1,e2⟩:=uc2.mp eq
   cases e2
   obtain ⟨us,g1,g2⟩:=f.s.obs _ a _ hk es;exact ⟨.ref a,m,.type "list",b,rfl,.lst g1,NB (d:=.lst []) rfl e1,k _ H c f .refl (.bl b)⟩
  ·cases eq
 ·exact NR f rx eq k
section
variable {X:Cx}{elt:Expr}{pos:Pos}{e:Expr}{es:List Expr}
end
end F2
namespace L2
open PySem PySem.Spec PyProof.Rows
section
variable {X:Cx}{pins:List (Addr×Obj)}{σ:St}{H:Hp}{s:Shared}{a:Addr}{kvs:List (Key×V)}{o:Obj}
end
section
variable {X:Cx}
end
section
variable {X:Cx}
end
end L2
namespace F2
open PySem L2 PySem.Spec SeqAt
def Pa (K:PySem.W.Frag)(H:Hp)(v w:V):Prop:=∃c dv dw,Rep K c H v dv/\Rep K c H w dw/\eqN EQD dv dw=some true
def V8 (K:PySem.W.Frag)(H:Hp)(v w:V):Prop:=Pa K H v w\/∃a b us ts,v = .ref a/\w = .ref b/\H a=some (.dK us)/\H b=some (.dK ts)/\us.length=ts.length/\(∀kv∈us,∃n:Int,kv.1=Sum.inl n)/\(∀kv∈ts,∃n:Int,kv.1=Sum.inl n)/\∀kv∈us,∃z,DL ts kv.1=some z/\Pa K H kv.2 z
def b6 (K:PySem.W.Frag)(b:Bool):R2:=λx y H Q=>∃p q vs ws,x = .ref p/\y = .ref q/\H p=some (.lst vs)/\H q=some (.lst ws)/\vs.length=ws.length/\(∀(j:Nat) v w,vs[j]?=some v->ws[j]?=some w->V8 K H v w)/\Q (.bl b) H
def LL (S:List Ob)(x y:D):Bool:=Bv (DK S x) && Bv (DK S y) && decide (eqN EQD (DK S x) (DK S y)=some true)
def bL (S:List Ob)(x y:D):Bool:=match x,y with
 | .obj m,.obj n=>match S[m]?,S[n]? with
   | some (.dct kvs),some (.dct lvs)=>kvs.length == lvs.length && (Ov kvs).isSome && (Ov lvs).isSome && kvs.all (λkv=>match By lvs kv.1 with | some e=>LL S kv.2 e | none=>false)
   | _,_=>LL S x y
 | _,_=>LL S x y
end F2
namespace F2
open PySem L2 PySem.Spec
section
variable {X:Cx}{pos:Pos}
end
end F2
namespace L2
open PySem PySem.Spec PyProof.Rows
structure ZL (h:Heap)(z TI TO i1 i2 t1 t2:Addr)(n:Nat):Prop where
 zz:IsZip h z TI TO .none
 ti:IsPair h TI (.ref i1) (.ref i2)
 ot:∃a b,IsPair h TO a b
 p1:h.IsListIter i1 t1 n
 p2:h.IsListIter i2 t2 n
end L2
namespace F2
open PySem L2 PySem.Spec
section
variable {X:Cx}{a b:Expr}{pos:Pos}
end
end F2
namespace L2
open PySem PySem.Spec PyProof.Rows PySem.W
section
variable {prog:Program}{w:World}{A:Around}{h:Heap}{g:Array GenState}{d:Drawn}{t:Nat}{os:OsState}{R:Result->Shared->Prop}
variable {nm q:Str}{C N fI:Addr}{bs bm bmB:List Value}{hdct:Bool}{sn:List Str}{sub:List Value}{ab:Bool}{col:Option Bool}{dd:Option Addr}{k0 k1 k2 k3 k5:Option Value}{B newId initId:String}{mN:Str->Option Value}
abbrev excObj (C tp:Addr):Obj:={ cls:=.ref C,data:=.fields #[.ref tp,.none,.none,.none,.bool false,.none] }
abbrev DB (h:Heap)(C:Addr)(us:List Value):Heap:=(h.push { cls:=.type "tuple",data:=.seq us.toArray }).push (excObj C h.objs.size)
theorem Iy (F:ExcBaseFacts B newId initId bmB)(T:OwnTail h bmB bm){us:List Value}(hC:h.get? C=some (excClassObj nm q C N bs bm hdct sn sub ab col dd k0 k1 k2 k3 k5 newId))(hn:h.Ns N mN)(hni:mN "__init__" = some (.ref fI))
 (hb:Looks (model prog w) h (bindSpecial (.ref fI) (.ref (h.objs.size + 1))) (.ref fI,[.ref (h.objs.size + 1)])) (hus:us.length<=sizeLine)
 (hq:codeAny (model prog w) (A.under (.builtin "type.__call__" ⟨.ref C :: us,[]⟩)) (.call (.ref fI) ⟨.ref (h.objs.size + 1) :: us,[]⟩) (InitBack (h.objs.size + 1) R) ⟨DB h C us,g,d,t,os⟩) :
 codeAny (model prog w) A (.call (.ref C) ⟨us,[]⟩) R ⟨h,g,d,t,os⟩:=by
 have c1:=tc_lookup;have c2:=tc_bind (.ref C);have ty:(⟨h,g,d,t,os⟩:Shared).TypeIs (.ref C) "type":=⟨_,hC,rfl⟩;refine codeAny_of_tree ?_;show wpAny _ _ (callAny (.ref C) _) _ _ _
 repeat (any_goals (first
  | assumption
  | with_reducible refine wpAny_loadPart_at hC ?_
  | wp_step))
 refine ⟨rfl,codeAny_call_builtin_at (Code.quiet_builtin _ (by decide +kernel)) entry_typeCall (wpAny_check_type_call_sub hC ?_)⟩
 repeat (first
  | with_reducible refine wpAny_loadPart_at hC ?_
  | with_reducible refine wpAny_madeBy_exc hC ?_
  | wp_step)
 refine codeAny_call_builtin_code (Code.quiet_builtin _ F.quiet) (wpAny_check_new_subT F T hC (codeAny_exc_new_subT F T hC ?_ hus))
 change wpAny _ _ _ _ _ (Shared.mk (DB h C us) g d t os)
 have kp:∀b o,h.get? b=some o->(DB h C us).get? b=some o:=λb o e=>ub9 _ (ub9 _ e);have he:(DB h C us).get? (h.objs.size + 1)=some { cls:=.ref C,data:=.fields #[.ref h.objs.size,.none,.none,.none,.bool false,.none] }:=by heap_get
 have n1:(DB h C us).Ns N mN:=hn.keeps kp;have cC:(Value.ref C :: bm).contains (.ref C)=true:=by simp
 unfold isInstance
 repeat (first
  | with_reducible refine wpAny_loadPart_at he ?_
  | (with_reducible refine wpAny_isSubtype_exc (kp _ _ hC) ?_;rw [cC])
  | wp_step)
 show wpAny _ _ (typeLookup (.ref C) _) _ _ _;refine wpAny_typeLookup_tail (kp _ _ hC) n1 (T.keeps kp) F.mroIs F.init.lookup ?_;rw [hni];refine uk4 (um0 ((hb.keeps kp).at ?_));refine um0 (wpAny_call (codeAny_mono hq λr s' z=>?_))
 cases r with
 | error e=>exact z
 | ok f=>
   cases f with
   | ret v=>
     obtain ⟨rfl,z⟩:=z;exact um1 (um1 z)
   | _=>exact z.elim
end
end L2
namespace L2
open PySem PySem.Spec PyProof.Rows PySem.W PySem.Builtin PySem.Builtin.ObjectAttr
theorem QC (self:Value):refuseLoop self "__setattr__" [.type "ValueError",.type "Exception",.type "BaseException",.type "object"]=pure ():=by
 kernel_rfl
abbrev FJ (C P:Addr):List Value:=[.ref C,.ref P,.type "ValueError",.type "Exception",.type "BaseException",.type "object"]
theorem Js (self:Value)(C P:Addr):refuseLoop self "__setattr__" (FJ C P)=pure ():=by
 rw [FJ,refuseLoop_ref,refuseLoop_ref];exact QC self
section
variable {prog:Program}{w:World}{A:Around}{s:Shared}{K:PySem.W.Frag}{x C P tp:Addr}{R:Result->Shared->Prop}{name:Str}{v:Value}{tk:Tok}{cd:ClassData}
theorem U3 (X:K.In s.heap)(hx:s.heap.get? x=some (excObj C tp))(hc:clsIn K C=some cd)(hmr:cd.mro=FJ C P)(ha:findIn K (.ref C) name=some none)
 (h:wpAny (model prog w) A.in1 (storeInOwnDict (.ref x) (.ref C) (.str name tk) name v false) (λfin s'=>match fin with | .done f=>R (.ok f) s' | .again c'=>c'.quiet=true/\codeAny (model prog w) A c' R s') (λe s'=>R (.error e) s') s) :
 codeAny (model prog w) A (.call (.builtin "object.__setattr__") ⟨[.ref x,.str name tk,v],[]⟩) R s:=by
 have SF:=PySem.F.store_object;have I:InstAt s.heap x (excObj C tp) C none:=⟨hx,rfl,rfl,trivial⟩;have ob:Looks (model prog w) s.heap (isInstance (.ref x) (.type "object")) true:=I.type.andThen (looks_mroIn X (by unfold mroIn;rw [hc,uh1,hmr];rfl));refine codeAny_call_builtin SF.slot.plain SF.entry (@check_slot (model prog w) _ _ s "object.__setattr__" "object" "__setattr__" (.ref x) [.str name tk,v] [] _ SF.kind SF.split ob (SF.args (.ref x) (.str name tk) v) ?_);have mr:Looks (model prog w) s.heap (mroOf (.ref C)) (FJ C P):=by rw [<-hmr];exact (looks_clsIn X hc).andThen .now
 rw [osa_eq,refuse_eq];refine um0 (um0 (I.type.here (um0 (mr.here ?_))));rw [Js];refine um1 (um0 (I.type.here (um0 ((looks_findIn X ha).here ?_))));exact um0 (um1 h)
theorem VN {E:Value->Shared->Prop}{Q:Unit->Shared->Prop}(X:K.In s.heap)(hx:s.heap.get? x=some (excObj C tp))(hs:findIn K (.ref C) "__setattr__" = some (some (.builtin "object.__setattr__")))(hc:clsIn K C=some cd)(hmr:cd.mro=FJ C P)(hd:cd.hasDict=true)(ha:findIn K (.ref C) name=some none)
 (h:∀h',(∀b o,b≠x->s.heap.get? b=some o->h'.get? b=some o)->h'.get? x=some { excObj C tp with dict:=some s.heap.objs.size }->h'.Ns1 s.heap.objs.size (λy=>if y=name then some v else none)->Q () { s with heap:=h',toks:=s.toks + 2 }) :
 wpAny (model prog w) A (setAttr (.ref x) name v) Q E s:=by
 have I:InstAt s.heap x (excObj C tp) C none:=⟨hx,rfl,rfl,trivial⟩;refine set_plain X I hs (U3 (s:={ s with toks:=s.toks + 1 }) X hx hc hmr ha ?_);refine um0 (um1 (um0 (um0 (wpAny_loadPart (s:={ s with toks:=s.toks + 1 }) hx (um0 (Looks.here (s:={ s with toks:=s.toks + 1 }) (looks_clsIn X hc) ?_))))));rw [hd,if_neg (by decide)];show wpAny _ _ (alloc _ >>= λdx=>update x _ >>= λ_=>pure (some dx)) _ _ _;have hx1:(s.heap.push emptyDict).get? x=some (excObj C tp):=ub9 _ hx;have hne:s.heap.objs.size≠x:=uk9 (uk5 hx);refine um0 (wpAny_alloc (s:={ s with toks:=s.toks + 1 }) (um0 (wpAny_update hx1 (um1 ?_))));have hx2:((s.heap.push emptyDict).update x λo=>{ o with dict:=some s.heap.objs.size }).get? x=some { excObj C tp with dict:=some s.heap.objs.size }:=uc8 _ hx1 rfl;have hk:∀b o,b≠x->s.heap.get? b=some o->((s.heap.push emptyDict).update x λo=>{ o with dict:=some s.heap.objs.size }).get? b=some o:=λb o hb e=>(uc1 _ _ (Ne.symm hb)).trans (ub9 _ e);have hdx:((s.heap.push emptyDict).update x λo=>{ o with dict:=some s.heap.objs.size }).get? s.heap.objs.size=some emptyDict:=(uc1 _ _ (Ne.symm hne)).trans (ud4 _ rfl);have n1:((s.heap.push emptyDict).update x λo=>{ o with dict:=some s.heap.objs.size }).Ns1 s.heap.objs.size λ_=>none:=⟨_,#[],_,hdx,rfl,(λe he=>by simp at he),(by simp [UniqKeys]),λ_=>rfl⟩;refine um0 (um1 (um0 ?_));refine wpAny_nsSet1 n1 λh' n2 sb=>?_;obtain ⟨oD,esD,epD,hoD,hdD,hcD⟩:=n2.count (PySem.Within.cons name v (ns:=[]) (λy u=>absurd rfl u));refine um0 (wpAny_lookBehind hoD (by rw [hdD];exact pastItsLine_dict (uk7 hcD (by show 1<=_;decide))) ?_);exact um1 (h h' (λb o hb e=>by
  by_cases hb2:b=s.heap.objs.size
  ·subst hb2;exact absurd (uk5 e) (uj4 _)
  ·exact (sb.2 b hb2).trans (hk b o hb e)) ((sb.2 x (Ne.symm hne)).trans hx2) n2)
end
end L2
namespace L2
open PySem PySem.Spec PyProof.Rows PySem.W
variable {qx:Bool}
def XRec (qx:Bool)(h:Heap)(x C:Addr)(dx:Option Addr)(tb:Value):Prop:=∃(o:Obj) (vs:Array Value),h.get? x=some o/\o.cls = .ref C/\o.dict=dx/\o.data = .fields vs/\vs[1]?=some tb/\(qx=true->vs[2]?=some .none/\4 < vs.size)
theorem Wx {qx:Bool}{vs:Array Value}{v:Value}(h:qx=true->vs[2]?=some .none/\4 < vs.size):qx=true->(vs.setIfInBounds 1 v)[2]?=some .none/\4 < (vs.setIfInBounds 1 v).size:=λz=>by
 rw [ua1 (by decide),ub4];exact h z
theorem XRec.to {qx:Bool}{h:Heap}{x C:Addr}{dx:Option Addr}{tb:Value}(r:XRec true h x C dx tb):XRec qx h x C dx tb:=by
 obtain ⟨o,vs,h1,h2,h3,h4,h5,h6⟩:=r;exact ⟨o,vs,h1,h2,h3,h4,h5,λ_=>h6 rfl⟩
def XTb (h:Heap)(T:Addr):Prop:=∃(o:Obj) (ts:Array Value),h.get? T=some o/\o.data = .fields ts/\ts[3]?=some .none
structure XKeep (fs ch:List Addr)(h h':Heap):Prop where
 keep:∀b o,b∉ch->b∉fs->h.get? b=some o->h'.get? b=some o
 slot:∀b o,b∉ch->h.get? b=some o->∃sl,h'.get? b=some { o with slots:=sl }
section
variable {M:Model}{A:Around}{E:Value->Shared->Prop}{s:Shared}{env:Env}{outer:List Env}{base:Heap}{L x C:Addr}{dx:Option Addr}{tb:Value}{Q:Unit->Shared->Prop}
theorem Fr {o:Obj}{vs:Array Value}(hd:o.data = .fields vs)(f:Array Value->Array Value):(o.mapFields f).data = .fields (f vs)/\(o.mapFields f).cls=o.cls/\(o.mapFields f).dict=o.dict:=by
 obtain ⟨c,d,dt,sl⟩:=o
 cases hd
 exact ⟨rfl,rfl,rfl⟩
end
end L2
namespace L2
open PySem PySem.Spec PyProof.Rows PySem.W
variable {qx:Bool}
abbrev VE:List Value:=[.type "ValueError",.type "Exception",.type "BaseException",.type "object"]
structure XCl (K:PySem.W.Frag)(C:Addr)(bm:List Value):Prop where
 ex:∃cd dd k0 k1 k2 k3 k5,K.lookup C=some { cls:=.type "type",dict:=dd,data:=.cls cd,slots:=#[k0,k1,k2,k3,some (.builtin "ValueError.__new__"),k5] }/\cd.mro = .ref C :: bm/\cd.hasDel=false/\cd.hasDict=true/\nsOkIn K cd.ns=true
 tl:tailIn K VE bm=true
noncomputable def Ly (K:PySem.W.Frag)(C:Addr)(bm:List Value):Bool:=tailIn K VE bm && match K.lookup C with
 | some ⟨.type "type",_,.cls cd,sl⟩=>(match sl.toList with
   | [_,_,_,_,some (.builtin n),_]=>n == "ValueError.__new__" && cd.mro == .ref C :: bm && !cd.hasDel && cd.hasDict && nsOkIn K cd.ns
   | _=>false)
 | _=>false
variable {K:PySem.W.Frag}{C:Addr}{bm:List Value}
theorem XCl.of_in (q:Ly K C bm=true):XCl K C bm:=by
 unfold Ly at q;rw [ug5] at q;refine ⟨?_,q.1⟩;have q:=q.2
 split at q
 ·rename_i dd cd sl ho
  split at q
  ·rename_i k0 k1 k2 k3 n k5 hs;simp only [ug5,beq_iff_eq,Bool.not_eq_true'] at q;obtain ⟨⟨⟨⟨rfl,h1⟩,h2⟩,h3⟩,h4⟩:=q;have hsl:sl=#[k0,k1,k2,k3,some (.builtin "ValueError.__new__"),k5]:=by
    cases sl
    exact congrArg Array.mk hs
   exact ⟨cd,dd,k0,k1,k2,k3,k5,by rw [ho,hsl],h1,h2,h3,h4⟩
  ·cases q
 ·cases q
theorem XCl.obj {K:PySem.W.Frag}{C:Addr}{bm:List Value}{h:Heap}(c:XCl K C bm)(X:K.In h):∃nm q N bs sn sub ab col dd k0 k1 k2 k3 k5,h.get? C=some (excClassObj nm q C N bs bm true sn sub ab col dd k0 k1 k2 k3 k5 "ValueError.__new__")/\h.Ns N (h.nsMap N):=by
 obtain ⟨⟨nm,bs,mro,ns,qn,hd,sn,sub,ab,col,del⟩,dd,k0,k1,k2,k3,k5,h1,h2,h3,h4,h5⟩:=c.ex;dsimp only at h2 h3 h4 h5;subst h2 h3 h4;exact ⟨nm,qn,ns,bs,sn,sub,ab,col,dd,k0,k1,k2,k3,k5,X _ _ h1,.of_isNs (isNs_of_in X h5)⟩
variable {h:Heap}
theorem XCl.tail (c:XCl K C bm)(X:K.In h):OwnTail h VE bm:=tail_of_in X c.tl
theorem XCl.has (c:XCl K C bm)(X:K.In h):(Value.ref C :: bm).contains (.type "BaseException")=true:=by
 rw [ue6,(c.tail X).hasType (b:=true) (by decide +kernel),ul1]
section
variable {M:Model}{A:Around}{E:Value->Shared->Prop}{env:Env}{K:PySem.W.Frag}{C:Addr}{bm:List Value}{s:Shared}
theorem SQ {t:Sem Value}{Q:Flow->Shared->Prop}(c:XCl K C bm)(hh:A.handled=none)
 (h:wpAny M A t (λv s1=>∃x dx,v = .ref x/\K.In s1.heap/\XRec qx s1.heap x C dx .none/\E v s1) E s):wpAny M A (raiseStmt env (some t) none) Q E s:=by
 unfold raiseStmt;refine um0 (um2 h (λv s1 q=>?_) λ_ _ z=>z);obtain ⟨x,dx,rfl,X,⟨o,vs,hx,hc,hd,hdt,h1,_⟩,hE⟩:=q;obtain ⟨nm,q,N,bs,sn,sub,ab,col,dd,k0,k1,k2,k3,k5,hC,_⟩:=c.obj X;have hb:=c.has X;obtain ⟨hp,g,d,tk,os⟩:=s1
 repeat (first
  | (with_reducible refine wpAny_loadPart_at hx ?_;rw [hc])
  | with_reducible refine wpAny_loadPart_at hC ?_
  | (with_reducible refine wpAny_isSubtype_exc hC ?_;rw [hb])
  | with_reducible refine ul9 hx hdt h1 ?_
  | wp_step)
 exact wpAny_raiseNew_none hh hE
end
def CX1 (qx:Bool)(P:Program)(w:World):CXT:=λouter H s E e s'=>∃(x C:Addr) (dx:Option Addr) (T:Addr) (H':Hp),e = .ref x/\s'.os=s.os/\AllBare s'.gens/\Un (frs outer) [] H H' s.heap s'.heap/\HOk P w H' s'.heap/\
 H' x=some (.ext (F2.XIs qx x C dx))/\s.heap.objs.size<=x/\s.heap.objs.size<=T/\T≠x/\H' T=none/\XRec qx s'.heap x C dx (.ref T)/\XTb s'.heap T/\E (.ref x) dx H'
variable {dx:Option Addr}
theorem XRec.is {x:Addr}{tb:Value}(r:XRec qx h x C dx tb):F2.XIs qx x C dx h:=by
 obtain ⟨o,vs,h1,h2,h3,h4,_,h5⟩:=r;exact ⟨o,vs,h1,h2,h3,h4,h5⟩
theorem XIs.stay {x:Addr}{h1 h2:Heap}(r:F2.XIs qx x C dx h1)(k:∀o,h1.get? x=some o->h2.get? x=some o):F2.XIs qx x C dx h2:=by
 obtain ⟨o,vs,e,q⟩:=r;exact ⟨o,vs,k o e,q⟩
theorem G9 {P:Program}{w:World}{H:Hp}{x:Addr}(r:F2.XIs qx x C dx h):ObjOk P w H h x (.ext (F2.XIs qx x C dx)):=
 ⟨r,let ⟨o,_,e,_⟩:=r;⟨o,e⟩,λ_ _ q k=>XIs.stay q k⟩
section
variable {X:Cx}{pins:List (Addr×Obj)}{σ:St}{H H':Hp}{s s':Shared}{h':Heap}{x C T:Addr}{dx:Option Addr}{ch:List Addr}
theorem Tl (k:XKeep (frs X.stack) ch s.heap h')(hT:∀b∈ch,b=x\/b=T):Un (frs X.stack) (x :: T :: []) H H s.heap h':=by
 have nch:∀b:Addr,b∉(x :: T :: [])->b∉ch:=λb hb z=>hb (by rcases hT b z with rfl | rfl <;> simp);refine ⟨λb o e n hb hx=>k.keep b o (nch b hx) hb e,λb o e n hb hx=>k.slot b o (nch b hx) e,λb o e n _=>n,λb o e hx=>?_,λ_ _ e=>e,λ_ _ _ e=>e,λb ps e=>⟨#[],by rw [e];simp⟩⟩;obtain ⟨sl,q⟩:=k.slot b o (nch b hx) e;exact ⟨_,q⟩
theorem Inv.left (I:Inv X pins σ H s)(hx:H x=some (.ext (F2.XIs qx x C dx)))(hT:H T=none)(nx:X.s₀.heap.objs.size<=x)(nT:X.s₀.heap.objs.size<=T)(k:XKeep (frs X.stack) ch s.heap h')(hc:∀b∈ch,b=x\/b=T)(r:F2.XIs qx x C dx h')
 (oT:∀y c,X.env.cells.lookup y=some c->c≠T) (lT:T≠X.env.locals) (pT:∀p∈X.pn++pins,p.1≠T):Inv X pins σ H { s with heap:=h' }:=by
 have nfr:∀b u,H b=some u->b∉frs X.stack:=λb u e z=>by rw [I.stkFree b z] at e;cases e
 refine I.call (g':=s.gens) (t':=s.toks) (d':=s.drawn) (ch:=[x,T]) (Tl k hc) (λb u e=>?_) I.bare λb hb=>?_
 ·by_cases hb:b=x
  ·subst hb;rw [hx] at e;cases e;exact G9 r
  ·refine (I.hok b u e).stay (λc v hcc q=>k.keep c v ?_ ?_ q) (λ_ q=>q) λ_ _ q=>q
   ·intro z;rcases hcc with rfl | hcc
    ·rcases hc c z with q | q
     ·exact hb q
     ·rw [q,hT] at e;cases e
    ·rcases hc c z with q | q
     ·rw [q,hx] at hcc;cases hcc
     ·rw [q,hT] at hcc;cases hcc
   ·rcases hcc with rfl | hcc
    ·exact nfr _ _ e
    ·exact nfr _ _ hcc
 ·have q:b=x\/b=T:=by simpa using hb
  rcases q with rfl | rfl
  ·exact ⟨.inr nx,(λz=>by rw [z,I.free] at hx;cases hx),(λy c e z=>by subst z;rw [I.freeC y c e] at hx;cases hx),λp hp z=>by rw [<-z,(I.pin p hp).2.1] at hx;cases hx⟩
  ·exact ⟨.inr nT,lT,oT,pT⟩
theorem Inv.raised (I:Inv X pins σ H s){E:XK}{e:Value}(q:CX1 qx X.prog X.w X.stack H s E e s'):∃(x C:Addr) (dx:Option Addr) (T:Addr) (H':Hp),e = .ref x/\Inv X pins σ H' s'/\H' x=some (.ext (F2.XIs qx x C dx))/\s.heap.objs.size<=x/\s.heap.objs.size<=T/\T≠x/\H' T=none/\XRec qx s'.heap x C dx (.ref T)/\XTb s'.heap T/\E (.ref x) dx H':=by
 obtain ⟨x,C,dx,T,H',he,os,bare,un,hok,hx,nx,nT,ne,hT,r,tb,q⟩:=q;obtain ⟨hh,g,d,t,os'⟩:=s';obtain rfl:os'=s.os:=os;exact ⟨x,C,dx,T,H',he,I.call (h':=hh) (g':=g) (d':=d) (t':=t) (ch:=[]) un hok bare (λb z=>absurd z (by simp)),hx,nx,nT,ne,hT,r,tb,q⟩
theorem Inv.newT (I:Inv X pins σ H s)(h:s.heap.objs.size<=T):T≠X.env.locals/\(∀y c,X.env.cells.lookup y=some c->c≠T)/\∀p∈X.pn++pins,p.1≠T:=by
 have far:∀b o,s.heap.get? b=some o->b≠T:=λb o e z=>absurd (ud8 (uk5 e) h) (by rw [z];exact uj4 _);refine ⟨λz=>absurd I.lt (by rw [<-z];exact Nat.not_lt.mpr h),λy c e=>?_,λp hp=>far _ _ (I.pin p hp).1⟩;obtain ⟨v,o,ho,_⟩:=I.cell y c e;exact far c o ho
end
section
variable {P:Program}{w:World}{K:PySem.W.Frag}{mg:Str->Option Value}{base:Heap}{N:List Str}{qual:Str}{scope:Scope}{f:Addr}{cd:Value}{A:Around}{outer:List Env}{s₀:Shared}{H₀:Hp}{E:XK}
end
end L2
namespace L2
open PySem PySem.Spec PyProof.Rows PySem.W
noncomputable def exO (x C tp:Addr):HO:=.ext λh=>h.get? x=some (excObj C tp)
noncomputable def ER (x C tp dx:Addr):HO:=.ext λh=>h.get? x=some { excObj C tp with dict:=some dx }
theorem L8 {P:Program}{w:World}{H:Hp}{h:Heap}{x C tp:Addr}(e:h.get? x=some (excObj C tp)):ObjOk P w H h x (exO x C tp):=⟨e,⟨_,e⟩,λ_ _ p k=>k _ p⟩
theorem Uo {P:Program}{w:World}{H:Hp}{h:Heap}{x C tp dx:Addr}(e:h.get? x=some { excObj C tp with dict:=some dx }):ObjOk P w H h x (ER x C tp dx):=⟨e,⟨_,e⟩,λ_ _ p k=>k _ p⟩
structure XAt (K:PySem.W.Frag)(C P:Addr)(f:Str):Prop where
 cl:XCl K C (.ref P :: VE)
 set:findIn K (.ref C) "__setattr__" = some (some (.builtin "object.__setattr__"))
 no:findIn K (.ref C) f=some none
theorem XCl.cls {K:PySem.W.Frag}{C:Addr}{bm:List Value}(c:XCl K C bm):∃cd,clsIn K C=some cd/\cd.mro = .ref C :: bm/\cd.hasDict=true:=by
 obtain ⟨cd,dd,k0,k1,k2,k3,k5,h1,h2,_,h4,_⟩:=c.ex;exact ⟨cd,by unfold clsIn;rw [h1],h2,h4⟩
def sXF (K:PySem.W.Frag)(P:Addr)(ta tv:TE)(f:Str):TS:=λD σ H=>tv σ H λy H1=>ta σ H1 λx H2=>∃a C tp,x = .ref a/\H2 a=some (exO a C tp)/\XAt K C P f/\
 ∀dx,H2 dx=none->dx≠a->D.nx σ (upd (upd H2 dx (.xd [(f,y)])) a (ER a C tp dx))
theorem OI {X:Cx}{P:Addr}{o value:Expr}{ta tv:TE}{f:Str}{pos' pos:Pos}(ha:PE X o ta)(hv:PE X value tv)(hs:swapsWith value (some (.Attribute o f pos')) pos.line X.env=pure false):PS X (.Assign [.Attribute o f pos'] value pos) (sXF X.K P ta tv f):=by
 intro pins s σ H D I h;refine plainObj_wpAny_Assign_Attribute (thn (hv pins s σ H _ I h) λu s1 ⟨y,H1,I1,ry,q⟩=>thn (ha pins s1 σ H1 _ I1 q) λov s2 z9=>?_) hs;obtain ⟨x,H2,I2,rx,a,C,tp,ex,ea,c,q2⟩:=z9;subst ex;obtain rfl:ov=Value.ref a:=rx;obtain ⟨cd,c1,c2,c3⟩:=c.cl.cls;have hx:s2.heap.get? a=some (excObj C tp):=(I2.hok a _ ea).1;refine VN I2.kIn hx c.set c1 c2 c3 c.no λh' k e n=>?_;have fr:=I2.hok.fresh (ul5 s2.heap.objs.size);have ne:s2.heap.objs.size≠a:=(λz=>by rw [z,ea] at fr;cases fr)
 have nn:∀b u,H2 b=some u->b≠s2.heap.objs.size:=λb u z=>AJ z fr;have na:∀b u,s2.heap.get? b=some u->H2 b=none->b≠a:=λb u _ z w'=>by rw [w',ea] at z;cases z
 refine ⟨σ,_,I2.un (h':=h') (t':=s2.toks + 2) ⟨λb u e1 e2 _ _=>k b u (na b u e1 e2) e1,λb u e1 e2 _ _=>⟨u.slots,k b u (na b u e1 e2) e1⟩,λb u e1 e2 _=>?_,λb u e1 _=>?_,λb xs e1=>?_,λb o' u e1=>?_,λb ps e1=>⟨#[],?_⟩⟩ λb u e1=>?_,q2 s2.heap.objs.size fr ne⟩
 ·rw [Ag (na b u e1 e2),Ag (uk6 (uk5 e1))];exact e2
 ·by_cases hb:b=a
  ·subst hb;exact ⟨_,e⟩
  ·exact ⟨_,k b u hb e1⟩
 ·rw [Ag (λz=>by rw [z,ea] at e1;cases e1),Ag (nn _ _ e1)];exact e1
 ·rw [Ag (λz=>by rw [z,ea] at e1;cases e1),Ag (nn _ _ e1)];exact e1
 ·rw [Ag (λz=>by rw [z,ea] at e1;cases e1),Ag (nn _ _ e1),e1];simp
 ·by_cases hb:b=a
  ·subst hb;rw [Aj] at e1;cases e1;exact Uo e
  ·rw [Ag hb] at e1
   by_cases hb2:b=s2.heap.objs.size
   ·subst hb2;rw [Aj] at e1;cases e1
    refine ⟨_,n,λg=>?_⟩
    by_cases hg:g=f
    ·subst hg;simp only [List.lookup,uh3,if_true];exact ry
    ·have hgb:(g == f)=false:=beq_eq_false_iff_ne.mpr hg;simp only [List.lookup,hgb,if_neg hg];trivial
   ·rw [Ag hb2] at e1;refine (I2.hok b u e1).stay (λz v hz q=>k z v ?_ q) (λz q=>?_) λz xs q=>?_
    ·rcases hz with rfl | hz
     ·exact hb
     ·intro w';rw [w',ea] at hz;cases hz
    ·rw [Ag (λz=>by rw [z,ea] at q;cases q),Ag (nn _ _ q)];exact q
    ·rw [Ag (λz=>by rw [z,ea] at q;cases q),Ag (nn _ _ q)];exact q
variable {qx:Bool}
theorem GC {K:PySem.W.Frag}{h:Heap}{N:Addr}{m:Str->Option Value}{n:Str}{v:Value}(X:K.In h)(G:h.Ns N m)(e:nsIn K N n=some (some v)):m n=some v:=by
 obtain ⟨o,es,ep,ho,hd,_,hf⟩:=G;unfold nsIn at e
 split at e
 ·next c d es' n' sl q=>
  have z:=X _ _ q;rw [ho] at z
  cases z
  cases hd
  split at e
  ·next en he=>
   rw [<-hf];unfold nsFind findBy;rw [<-ue1,he];simpa using e
  ·split at e <;> cases e
 ·cases e
structure XMk (K:PySem.W.Frag)(C P f:Addr):Prop where
 cl:XCl K C (.ref P :: VE)
 init:∃cd,clsIn K C=some cd/\nsIn K cd.ns "__init__" = some (some (.ref f))
 fn:isFn K (.ref f)=true
 kp:keepIn K (.ref C)=true
def spI (K:PySem.W.Frag)(P:Addr)(a:Str):Sp:=λvs H Q _=>∃x C tp v,vs=[.ref x,v]/\H x=some (exO x C tp)/\XAt K C P a/\∀dx,H dx=none->dx≠x->Q .non (upd (upd H dx (.xd [(a,v)])) x (ER x C tp dx))
section
variable {X:Cx}{k:Nat}{f C P:Addr}{fd:FuncData}{pins:List (Addr×Obj)}{σ:St}{H:Hp}{s:Shared}{Q:Value->Shared->Prop}{us:List Value}{vs:List V}{a:Str}{ps:List Str}{v:V}{u:Value}
theorem QD (M:XMk X.K C P f)(ha:XAt X.K C P a)(F:FnOk X.prog X.w X.K X.mg X.base CX0 k f fd ps (spI X.K P a))(hr:Room (k + 1) X.A)(hb:Binds X.K fd ps [])(I:Inv X pins σ H s)(r:RelV v u)
 (h:∀s' x dx,Inv X pins σ (upd (upd H dx (.xd [(a,v)])) x (.ext (F2.XIs qx x C (some dx)))) s'->H x=none->H dx=none->dx≠x->s.heap.objs.size<=x->XRec true s'.heap x C (some dx) .none->Q (.ref x) s'):wpAny (model X.prog X.w) X.A (call (.ref C) [u]) Q X.xe s:=by
 obtain ⟨nm,q,N,bs,sn,sub,ab,col,dd,k0,k1,k2,k3,k5,hC,hN⟩:=M.cl.obj I.kIn;have hni:s.heap.nsMap N "__init__" = some (.ref f):=by
  obtain ⟨cd,c1,c2⟩:=M.init;refine GC I.kIn hN ?_;unfold clsIn at c1
  split at c1
  ·next l=>
   cases c1
   have z:=I.kIn _ _ l;rw [hC] at z
   cases z
   exact c2
  ·cases c1
 have I1:Inv X pins σ (upd H (s.heap.objs.size + 1) (exO (s.heap.objs.size + 1) C s.heap.objs.size)) { s with heap:=DB s.heap C [u] }:=by
  refine I.laid (t':=s.toks) (λb o e=>ub9 _ (ub9 _ e)) (ul7 _) (L8 ?_);show ((s.heap.push _).push _).get? _=_
  heap_get
 have hx0:=I.hok.fresh (ul7 s.heap.objs.size);have r2:Vals [V.ref (s.heap.objs.size + 1),v] [Value.ref (s.heap.objs.size + 1),u]:=.cons rfl (.cons r .nil);have hsp:spI X.K P a [V.ref (s.heap.objs.size + 1),v] (upd H (s.heap.objs.size + 1) (exO (s.heap.objs.size + 1) C s.heap.objs.size))
  (λw' H'=>w' = .non/\∃dx,H dx=none/\dx≠s.heap.objs.size + 1/\H'=upd (upd H dx (.xd [(a,v)])) (s.heap.objs.size + 1) (ER (s.heap.objs.size + 1) C s.heap.objs.size dx)) E0:=by
  refine ⟨_,C,s.heap.objs.size,v,rfl,Aj,ha,λdx h1 h2=>⟨rfl,dx,by rw [Ag h2] at h1;exact h1,h2,?_⟩⟩
  funext b
  by_cases e1:b=s.heap.objs.size + 1
  ·subst e1;rw [Aj,Aj]
  ·by_cases e2:b=dx
   ·subst e2;rw [Ag e1,Ag e1,Aj,Aj]
   ·rw [Ag e1,Ag e1,Ag e2,Ag e2,Ag e1]
 have hl:([Value.ref (s.heap.objs.size + 1),u]++[]).length=ps.length:=by
  have e:=F.len _ _ _ _ hsp;simpa using e
 obtain ⟨hh,g,d,t,os⟩:=s;refine wpAny_call (Iy ua6 (M.cl.tail I.kIn) hC hN hni ((bind_fn I.kIn _ (beq_iff_eq.mp M.fn))) (by show 1<=sizeLine;decide) ?_);refine codeAny_mono (F.run _ X.stack _ _ ⟨[Value.ref (hh.objs.size + 1),u],[]⟩ [Value.ref (hh.objs.size + 1),u] _ _ E0 (hr.make C [u] []) (I1.env0.make C [u] []) (by have:=hb _ [Value.ref (hh.objs.size + 1),u] I1.kIn hl;simpa using this) r2 hsp) λr s' hq'=>?_
 cases r with
 | error e=>exact hq'.elim
 | ok fl=>
   cases fl with
   | ret w'=>
     obtain ⟨v',H',I3,rv,rfl,dx,d1,d2,rfl⟩:=I1.after hq';refine ⟨rv,?_⟩;have hx:=(I3.hok (hh.objs.size + 1) _ Aj).1;have hx:s'.heap.get? (hh.objs.size + 1)=some { excObj C hh.objs.size with dict:=some dx }:=hx;have xr:XRec true s'.heap (hh.objs.size + 1) C (some dx) .none:=⟨_,_,hx,rfl,rfl,rfl,rfl,λ_=>⟨rfl,by show 4 < 6;decide⟩⟩;have I4:=I3.write (x:=hh.objs.size + 1) (e:=hh.objs.size + 1) (o:=.ext (F2.XIs qx (hh.objs.size + 1) C (some dx))) (h':=s'.heap) (t':=s'.toks) (by rw [Aj];trivial) (.inl rfl) (λ_ _ _ z=>z) ⟨_,hx⟩ (G9 xr.to.is);rw [Km] at I4;exact h s' (hh.objs.size + 1) dx I4 hx0 d1 d2 (ul7 _) xr
   | next=>exact False.elim hq'
   | brk=>exact False.elim hq'
   | cont=>exact False.elim hq'
end
end L2
namespace L2
open PySem PySem.Spec PyProof.Rows PySem.W
variable {qx:Bool}
section
variable {M:Model}{A:Around}{E:Value->Shared->Prop}{K:PySem.W.Frag}{s:Shared}{x C C':Addr}{bm bm':List Value}{dx:Option Addr}{tb:Value}
theorem Iz {Q:Bool->Shared->Prop}(c:XCl K C bm)(c':XCl K C' bm')(X:K.In s.heap)(hx:XRec qx s.heap x C dx tb)(h:Q ((Value.ref C :: bm).contains (.ref C')) s):wpAny M A (excMatches (.ref x) (.ref C')) Q E s:=by
 obtain ⟨nm,q,N,bs,sn,sub,ab,col,dd,k0,k1,k2,k3,k5,hC,_⟩:=c.obj X;obtain ⟨nm',q',N',bs',sn',sub',ab',col',dd',k0',k1',k2',k3',k5',hC',_⟩:=c'.obj X;have hb:=c'.has X;obtain ⟨o,vs,ho,hc,hd,hdt,h1⟩:=hx;obtain ⟨hp,g,d,tk,os⟩:=s;have ty:(⟨hp,g,d,tk,os⟩:Shared).TypeIs (.ref C') "type":=⟨_,hC',rfl⟩;have nt:=tc_notTuple
 cases hbb:(Value.ref C :: bm).contains (.ref C') <;> (
  rw [hbb] at h;unfold excMatches
  repeat (first
   | (with_reducible refine wpAny_loadPart_at ho ?_;rw [hc])
   | with_reducible refine wpAny_loadPart_at hC' ?_
   | (with_reducible refine wpAny_isSubtype_exc hC' ?_;rw [hb])
   | (with_reducible refine wpAny_isSubtype_exc hC ?_;rw [hbb])
   | wp_step)
  exact h)
end
end L2
namespace L2
open PySem PySem.Spec PyProof.Rows PySem.W
variable {qx:Bool}
def Rg (h:Heap)(T:Addr)(fl:Value):Prop:=∃(o:Obj) (ts:Array Value),h.get? T=some o/\o.data = .fields ts/\ts[3]?=some fl
section
variable {M:Model}{A:Around}{E:Value->Shared->Prop}{s:Shared}{env:Env}{outer:List Env}{base:Heap}{L x C:Addr}{dx:Option Addr}{tb:Value}{Q:Unit->Shared->Prop}
theorem Kz {hadNext:Bool}{hd:Value}(hfr:A.frames=some (env :: outer))(hl:s.heap.FunFrames base (env :: outer))(hf:env.frame=some L)(hx:XRec qx s.heap x C dx tb)
 (h:∀h' T,s.heap.objs.size<=T->T≠x->XRec qx h' x C dx (.ref T)->Rg h' T (rawInt L)->XKeep (frs (env :: outer)) [x] s.heap h'->Q () { s with heap:=h' }) :
 wpAny M A (do let fo <-frameOf env;let at' <-entryPlaceOf L hadNext;let en <-EntryCells.newEntry hd fo .none (rawInt L) .none at';setField (.ref x) 1 en) Q E s:=by
 obtain ⟨ox,vs,gx,cx,dxe,dtx,tbx,xc⟩:=hx;have v1:1 < vs.size:=(ua7.mp tbx).1;have nfr:x∉frs (env :: outer):=λz=>by
  obtain ⟨_,o2,g2,n2⟩:=hl.mem z;rw [gx] at g2;cases g2
  exact n2 vs dtx
 refine um0 (wpAny_frameOf_fun hfr hl hf λh1 so=>?_);refine um0 (wpAny_entryPlaceOf λat' ip=>?_);unfold EntryCells.newEntry newFields;refine um0 (wpAny_newObj_type ?_ (ip.sizeOk5 _ _ _ _ _));generalize hne:(Obj.mk (Value.type "traceback") none (Data.fields ([hd,Value.ref L,Value.none,rawInt L,Value.none]++if at'.isEmpty=true then List.replicate 6 Value.none else at').toArray) #[])=nob;have dn:nob.data = .fields ([hd,Value.ref L,Value.none,rawInt L,Value.none]++if at'.isEmpty=true then List.replicate 6 Value.none else at').toArray:=by rw [<-hne]
 have gx1:h1.get? x=some ox:=(so.2.1 x nfr).trans gx;have gx2:(h1.push nob).get? x=some ox:=ub9 _ gx1;have nex:h1.objs.size≠x:=uk9 (uk5 gx1);refine wpAny_setField gx2 dtx v1 ?_;obtain ⟨m1,m2,m3⟩:=Fr dtx (·.setIfInBounds 1 (Value.ref h1.objs.size));have gx3:=uc8 (Obj.mapFields (·.setIfInBounds 1 (Value.ref h1.objs.size))) gx2 (Obj.isFreed_of_fields m1);have gT2:(h1.push nob).get? h1.objs.size=some nob:=ud4 h1 (Obj.isFreed_of_fields dn);have gT3:=(uc1 (h1.push nob) (Obj.mapFields (·.setIfInBounds 1 (Value.ref h1.objs.size))) (Ne.symm nex)).trans gT2;have vx:(vs.setIfInBounds 1 (Value.ref h1.objs.size))[1]?=some (.ref h1.objs.size):=by simp [v1]
 have old:∀b o,b≠x->h1.get? b=some o->((h1.push nob).update x (Obj.mapFields (·.setIfInBounds 1 (Value.ref h1.objs.size)))).get? b=some o:=λb o hb e=>by
  rw [uc1 _ _ (Ne.symm hb)];exact ub9 _ e
 refine h _ h1.objs.size (Nat.le_of_eq so.1.symm) nex ⟨_,_,gx3,m2.trans cx,m3.trans dxe,m1,vx,Wx xc⟩ ⟨_,_,gT3,dn,?_⟩ ⟨λb o hb hbf e=>old b o (λz=>hb (by simp [z])) ((so.2.1 b hbf).trans e),λb o hb e=>?_⟩
 ·rw [List.getElem?_toArray];rfl
 ·obtain ⟨sl,e1⟩:=so.2.2 b o e;exact ⟨sl,old b _ (λz=>hb (by simp [z])) e1⟩
end
structure XOn (qx:Bool)(X:Cx)(pins:List (Addr×Obj))(H:Hp)(s:Shared)(x C:Addr)(dx:Option Addr)(T:Option Addr)(fl:Value):Prop where
 hx:H x=some (.ext (F2.XIs qx x C dx))
 nx:X.s₀.heap.objs.size<=x
 rc:XRec qx s.heap x C dx (match T with | some a=>.ref a | none=>.none)
 tb:∀a,T=some a->a≠x/\H a=none/\X.s₀.heap.objs.size<=a/\(a≠X.env.locals/\(∀y c,X.env.cells.lookup y=some c->c≠a)/\∀p∈X.pn++pins,p.1≠a)/\Rg s.heap a fl
 fo:fl = .none\/fl=rawInt X.env.locals
section
variable {M:Model}{A:Around}{Er:Value->Shared->Prop}{X:Cx}{pins:List (Addr×Obj)}{σ:St}{H:Hp}{s:Shared}{x C:Addr}{dx T:Option Addr}{fl:Value}{Q:Unit->Shared->Prop}
theorem D8 (fr:Option Addr)(I:Inv X pins σ H s){a:Addr}(o:XOn qx X pins H s x C dx (some a) fl)(hfr:fr=none\/fr=some X.env.locals)
 (k:∀h',Inv X pins σ H { s with heap:=h' }->XOn qx X pins H { s with heap:=h' } x C dx (some a) (fr.elim Value.none λf=>rawInt f)->Q () { s with heap:=h' }):wpAny M A (setFlight (.ref x) fr) Q Er s:=by
 obtain ⟨ox,vs,gx,cx,dxe,dtx,tbx,xc⟩:=id o.rc;obtain ⟨ne,hT,nT,oT,ot,ts,gT,dT,t3⟩:=o.tb a rfl;unfold setFlight;refine um0 (ul9 gx dtx tbx ?_);rw [if_pos (show (Value.ref a != Value.none)=true from rfl)];refine wpAny_setField gT dT (ua7.mp t3).1 ?_;obtain ⟨m1,m2,m3⟩:=Fr dT (·.setIfInBounds 3 (fr.elim Value.none λf=>rawInt f));have gT2:=uc8 (Obj.mapFields (·.setIfInBounds 3 (fr.elim Value.none λf=>rawInt f))) gT (Obj.isFreed_of_fields m1);have oth:∀b,b≠a->(s.heap.update a (Obj.mapFields (·.setIfInBounds 3 (fr.elim Value.none λf=>rawInt f)))).get? b=s.heap.get? b:=λb z=>uc1 _ _ (Ne.symm z);have rc':XRec qx (s.heap.update a (Obj.mapFields (·.setIfInBounds 3 (fr.elim Value.none λf=>rawInt f)))) x C dx (.ref a):=⟨ox,vs,(oth x (Ne.symm ne)).trans gx,cx,dxe,dtx,tbx,xc⟩;refine k _ (I.left o.hx hT o.nx nT (ch:=[a]) ⟨λb u hb _ e=>(oth b (by simpa using hb)).trans e,λb u hb e=>⟨u.slots,(oth b (by simpa using hb)).trans e⟩⟩ (λb hb=>.inr (by simpa using hb)) rc'.is oT.2.1 oT.1 oT.2.2) ⟨o.hx,o.nx,rc',λa' e=>?_,?_⟩
 ·cases e
  exact ⟨ne,hT,nT,oT,_,_,gT2,m1,by rw [Array.getElem?_setIfInBounds_self,if_pos (ua7.mp t3).1]⟩
 ·rcases hfr with rfl | rfl
  ·exact .inl rfl
  ·exact .inr rfl
theorem Fs (hA:A.frames=some X.stack)(I:Inv X pins σ H s)(hs:X.stack=X.env :: X.outer)(hf:X.env.frame=some X.env.locals)(o:XOn qx X pins H s x C dx T fl)
 (k:∀h' a,Inv X pins σ H { s with heap:=h' }->XOn qx X pins H { s with heap:=h' } x C dx (some a) (rawInt X.env.locals)->Q () { s with heap:=h' }):wpAny M A (noteFrame (.ref x) X.env) Q Er s:=by
 obtain ⟨ox,vs,gx,cx,dxe,dtx,tbx,xc⟩:=id o.rc;have fin:∀(s1:Shared) (hh:∃h1,s1 = { s with heap:=h1 }) (ch:List Addr) (h':Heap) (a:Addr),Inv X pins σ H s1->s1.heap.objs.size<=a->a≠x->XRec qx h' x C dx (.ref a)->Rg h' a (rawInt X.env.locals)->XKeep (frs (X.env :: X.outer)) [x] s1.heap h'->Q () { s1 with heap:=h' }:=by
  rintro s1 ⟨h1,rfl⟩ ch h' a I1 l1 l2 l3 l4 l5;obtain ⟨o1,o2,o3⟩:=I1.newT l1;have J:=I1.left o.hx (I1.hok.fresh l1) o.nx (uk7 I1.sz l1) (ch:=[x]) (hs ▸ l5) (λb hb=>.inl (by simpa using hb)) l3.is o2 o1 o3;exact k h' a J ⟨o.hx,o.nx,l3,λa' e=>by cases e;exact ⟨l2,I1.hok.fresh l1,uk7 I1.sz l1,⟨o1,o2,o3⟩,l4⟩,.inr rfl⟩
 unfold noteFrame;simp only [hf];refine um0 (ul9 gx dtx tbx ?_)
 cases T with
 | none=>
   rw [if_neg (by decide)];exact Kz (hA.trans (congrArg some hs)) (hs ▸ I.stack) hf o.rc λh' a l1 l2 l3 l4 l5=>fin s ⟨s.heap,rfl⟩ [] h' a I l1 l2 l3 l4 l5
 | some T₀=>
   obtain ⟨ne,hT,nT,oT,ot,ts,gT,dT,t3⟩:=o.tb T₀ rfl;rw [if_pos (show (Value.ref T₀ != Value.none)=true from rfl)];refine um0 (ul9 gT dT t3 ?_);rcases o.fo with rfl | rfl
   ·rw [if_neg (show ¬((Value.none == rawInt X.env.locals)=true) from by simp [rawInt])];refine um0 (wpAny_setField gT dT (ua7.mp t3).1 ?_);have oth:∀b,b≠T₀->(s.heap.update T₀ (Obj.mapFields (·.setIfInBounds 3 Value.none))).get? b=s.heap.get? b:=λb z=>uc1 _ _ (Ne.symm z);have rc':XRec qx (s.heap.update T₀ (Obj.mapFields (·.setIfInBounds 3 Value.none))) x C dx (.ref T₀):=⟨ox,vs,(oth x (Ne.symm ne)).trans gx,cx,dxe,dtx,tbx,xc⟩;have J:=I.left o.hx hT o.nx nT (ch:=[T₀]) ⟨λb u hb _ e=>(oth b (by simpa using hb)).trans e,λb u hb e=>⟨u.slots,(oth b (by simpa using hb)).trans e⟩⟩ (λb hb=>.inr (by simpa using hb)) rc'.is oT.2.1 oT.1 oT.2.2;exact Kz (s:={ s with heap:=s.heap.update T₀ (Obj.mapFields (·.setIfInBounds 3 Value.none)) }) (hA.trans (congrArg some hs)) (hs ▸ J.stack) hf rc' λh' a l1 l2 l3 l4 l5=>fin _ ⟨_,rfl⟩ [] h' a J l1 l2 l3 l4 l5
   ·rw [if_pos (show (rawInt X.env.locals == rawInt X.env.locals)=true from by first | (simp;done) | exact uh3 _)];exact um1 (k s.heap T₀ I ⟨o.hx,o.nx,o.rc,o.tb,.inr rfl⟩)
end
def XE (qx:Bool)(X:Cx)(E:St->XK):Value->Shared->Prop:=λe s=>∃pins σ H x C dx T fl,e = .ref x/\Inv X pins σ H s/\XOn qx X pins H s x C dx T fl/\E σ (.ref x) dx H
def Ce (CX:CXT)(X:Cx)(E:St->XK):Prop:=∀(pins:List (Addr×Obj)) (σ:St) (H:Hp) (s:Shared) (e:Value) (s':Shared),Inv X pins σ H s->CX X.stack H s (E σ) e s'->X.xe e s'
section
variable {M:Model}{X:Cx}{E:St->XK}
theorem XE.own (hs:X.stack=X.env :: X.outer)(hf:X.env.frame=some X.env.locals):PassesOwn M X.A X.env (XE qx X E):=by
 rintro e s ⟨pins,σ,H,x,C,dx,T,fl,rfl,I,o,q⟩;refine Fs I.ok.frames I hs hf o λh' a I' o'=>?_;obtain ⟨ox,vs,gx,cx,dxe,dtx,tbx,xc⟩:=id o'.rc;unfold cameBackBy;refine um0 (ul9 gx dtx tbx ?_);rw [if_neg (show ¬((Value.ref a == Value.none)=true) from by intro z;cases z)]
 rw [hf];exact D8 _ I' o' (.inr rfl) λh'' I'' o''=>⟨pins,σ,H,x,C,dx,some a,_,rfl,I'',o'',q⟩
theorem XE.pass:Ce (CX1 qx X.prog X.w) (X.wish (XE qx X E)) E:=by
 intro pins σ H s e s' I q;obtain ⟨x,C,dx,T,H',rfl,J,hx,nx,nT,ne,hT,r,tb,q⟩:=I.unwish.raised q;exact ⟨pins,σ,H',x,C,dx,some T,.none,rfl,J,⟨hx,uk7 I.sz nx,r,λa e=>by cases e;exact ⟨ne,hT,uk7 I.sz nT,I.unwish.newT nT,tb⟩,.inl rfl⟩,q⟩
end
section
variable {P:Program}{w:World}{K:PySem.W.Frag}{mg:Str->Option Value}{base:Heap}
abbrev cxX (qx:Bool)(P:Program)(w:World)(K:PySem.W.Frag)(mg:Str->Option Value)(base:Heap)(N:List Str)(qual:Str)(scope:Scope)(f:Addr)(cd:Value)(A:Around)(outer:List Env)(s:Shared)(H:Hp)(E:XK):Cx:=
 (Db (CX1 qx P w) P w K mg base N qual scope f cd A outer s H E).wish (XE qx (Db (CX1 qx P w) P w K mg base N qual scope f cd A outer s H E) λ_=>E)
theorem XE.leaves {N:List Str}{qual:Str}{scope:Scope}{f:Addr}{cd:Value}{A:Around}{outer:List Env}{s₀:Shared}{H₀:Hp}{E:XK}{e:Value}{s:Shared}
 (h:XE qx (Db (CX1 qx P w) P w K mg base N qual scope f cd A outer s₀ H₀ E) (λ_=>E) e s):(Db (CX1 qx P w) P w K mg base N qual scope f cd A outer s₀ H₀ E).xe e s:=by
 obtain ⟨pins,σ,H,x,C,dx,T,fl,rfl,I,o,q⟩:=h;refine um0 (Fs I.ok.frames I rfl rfl o λh' a I' o'=>?_);refine D8 none I' o' (.inl rfl) λh'' I'' o''=>?_;obtain ⟨ne,hT,nT,oT,tb⟩:=o''.tb a rfl;exact ⟨x,C,dx,a,H,rfl,I''.os,I''.bare,I''.base,I''.hok,o''.hx,o''.nx,nT,ne,hT,o''.rc,tb,q⟩
theorem Fun.okX {x qual:Str}{st:Stmt}{f:Addr}{fd:FuncData}{N ps:List Str}{k:Nat}{sp:Sp}(F:Fun K x qual st f fd)(S:FnScope N ps (Al st))(len:∀vs H Q E,sp vs H Q E->vs.length=ps.length)
 (hbody:∀(cdv:Value) (A:Around) (outer:List Env) (s:Shared) (H:Hp) (vs:List V) (Q:VK) (E:XK),Room k (A.deeper (envOfC qual (Al st) s.heap.objs.size f cdv))->sp vs H Q E->
   ∃t,PSs (cxX qx P w K mg base N qual (Al st) f cdv A outer s H E) (A8 st) t/\t { nx:=λ_ H'=>Q .non H',rt:=Q } (Ct N vs) H):FnOk P w K mg base (CX1 qx P w) (k + 1) f fd ps sp:=by
 obtain ⟨oc,od,kV,doc,pm,an,cdv,ct,osl,rfl,lk,hcd⟩:=F.ex;refine TQ lk hcd S len λA outer s H vs Q E hr hsp=>?_;obtain ⟨t,h,q⟩:=hbody cdv A outer s H vs Q E hr hsp;exact ⟨t,λpins s1 σ H1 D I hw=>um2 (h pins s1 σ H1 D (I.wish _) hw) (λ_ _ q=>q.unwish) λ_ _ z=>z.leaves,q⟩
theorem FnOk.calm {k:Nat}{f:Addr}{fd:FuncData}{ps:List Str}{sp sp':Sp}(F:FnOk P w K mg base (CX1 qx P w) k f fd ps sp)(h:∀vs H Q E,sp' vs H Q E->sp vs H Q E0):FnOk P w K mg base CX0 k f fd ps sp':=by
 refine ⟨λvs H Q E q=>F.len vs H Q E0 (h _ _ _ _ q),λA outer s H args us vs Q E hr he hb hv hs=>codeAny_mono (F.run A outer s H args us vs Q E0 hr he hb hv (h _ _ _ _ hs)) λr s' q=>?_⟩
 cases r with
 | error e=>obtain ⟨_,_,_,_,_,_,_,_,_,_,_,_,_,_,_,_,_,z⟩:=q;exact z.elim
 | ok fl=>cases fl <;> exact q
end
section
variable {X:Cx}{CX:CXT}{k:Nat}{f:Addr}{fd:FuncData}{ps:List Str}{sp:Sp}{E:St->XK}{x:Str}{p pos:Pos}{e:Expr}{es:List Expr}{t:TA}
def QQ (sp:Sp)(E:St->XK)(t:TA):TE:=λσ H Q=>t σ H λvs H1=>sp vs H1 Q (E σ)
theorem SD (F:FnOk X.prog X.w X.K X.mg X.base CX k f fd ps sp)(hr:Room k X.A)(hg:Gl X x)(hm:X.mg x=some (.ref f))(hk:PySem.W.keepIn X.K (.ref f)=true)(hb:Binds X.K fd ps [])(hx:Ce CX X E)
 (ha:PA X (e :: es) t) (hdb:(x == ("__debug__" : Str))=false:=by decide) (he:starEach (e :: es) X.env=(false,eval e X.env) :: starEach es X.env:=by rfl) (hpl:(backTo pos (starEach es X.env)).any (·.1)=false:=by rfl) :
 PE X (.Call (.Name x p) (e :: es) [] pos) (QQ sp E t):=by
 intro pins s σ H Q I h;refine wpAny_Call_Name_kw (Ch I hg hm ?_ hdb);refine ue2 (h₀:=X.base) I.ok.mod.kin hk (thn (ha pos pins s σ H _ I h) λus s1 z9=>?_) he hpl;obtain ⟨vs,H1,I1,r,q⟩:=z9;refine ⟨I1.kIn,?_⟩;have hl:(us++[]).length=ps.length:=by rw [uh8,<-r.length];exact F.len _ _ _ _ q
 refine wpAny_call (codeAny_mono (F.run X.A X.stack s1 H1 ⟨us,[]⟩ us vs Q (E σ) hr I1.env0 (by have:=hb s1 us I1.kIn hl;rwa [uh8] at this) r q) λr s' hq=>?_)
 cases r with
 | error e=>exact hx pins σ H1 s1 e s' I1 hq
 | ok fl=>
   cases fl with
   | ret u=>exact I1.after hq
   | next=>exact False.elim hq
   | brk=>exact False.elim hq
   | cont=>exact False.elim hq
end
end L2
namespace L2
open PySem PySem.Spec PyProof.Rows PySem.W
variable {qx:Bool}
def PM (qx:Bool)(X:Cx)(e:Expr)(C:Addr)(t:St->Hp->(Addr->Option Addr->Hp->Prop)->Prop):Prop:=
 ∀(pins:List (Addr×Obj)) (s:Shared) (σ:St) (H:Hp) (Q:Addr->Option Addr->Hp->Prop),Inv X pins σ H s->t σ H Q->
  wpAny (model X.prog X.w) X.A (eval e X.env) (λv s1=>∃x dx H1,v = .ref x/\Inv X pins σ H1 s1/\H1 x=some (.ext (F2.XIs qx x C dx))/\X.s₀.heap.objs.size<=x/\XRec true s1.heap x C dx .none/\Q x dx H1) X.xe s
def Fe (qx:Bool)(X:Cx)(E:St->XK):Prop:=∀(pins:List (Addr×Obj)) (σ:St) (H:Hp) (s:Shared) (x C:Addr) (dx:Option Addr),Inv X pins σ H s->XOn qx X pins H s x C dx none .none->E σ (.ref x) dx H->X.xe (.ref x) s
theorem XE.raises {X:Cx}{E:St->XK}:Fe qx (X.wish (XE qx X E)) E:=λpins σ H s x C dx I o q=>⟨pins,σ,H,x,C,dx,none,.none,rfl,I.unwish,⟨o.hx,o.nx,o.rc,o.tb,o.fo⟩,q⟩
theorem IE {X:Cx}{e:Expr}{C:Addr}{bm:List Value}{t:St->Hp->(Addr->Option Addr->Hp->Prop)->Prop}{E:St->XK}{pos:Pos}(hc:X.calm=true)(c:XCl X.K C bm)(hx:Fe qx X E)(h:PM qx X e C t)
 (ho:evalOpt (some e) X.env=some (eval e X.env):=by rfl):PS X (.Raise (some e) none pos) (λ_ σ H=>t σ H λx dx H1=>E σ (.ref x) dx H1):=by
 intro pins s σ H D I q;rw [arm_exec_Raise,ho];refine um0 (wpAny_standAt ?_);refine SQ (qx:=true) c (I.ok.hd hc) ?_;refine um0 (um2 (h pins s σ H _ I q) (λv s1 z9=>?_) λ_ _ z=>z);obtain ⟨x,dx,H1,e1,I1,hx1,nx,r,q1⟩:=z9;subst e1;refine um0 (wpAny_standAt (um1 ⟨x,dx,rfl,I1.kIn,r,hx pins σ H1 s1 x C dx I1 ⟨hx1,nx,r.to,(λa e=>by cases e),.inl rfl⟩ q1⟩))
theorem OC {K:PySem.W.Frag}{h:Heap}{N:Addr}{m:Str->Option Value}{n:Str}(X:K.In h)(G:h.Ns N m)(e:nsIn K N n=some none):m n=none:=by
 obtain ⟨o,es,ep,ho,hd,_,hf⟩:=G;unfold nsIn at e
 split at e
 ·next c d es' n' sl q=>
  have z:=X _ _ q;rw [ho] at z
  cases z
  cases hd
  split at e
  ·cases e
  ·next he=>rw [<-hf];unfold nsFind findBy;rw [<-ue1,he];rfl
 ·cases e
section
variable {prog:Program}{w:World}{A:Around}{E:Value->Shared->Prop}{h:Heap}{g:Array GenState}{d:Drawn}{t:Nat}{os:OsState}{Q:Value->Shared->Prop}
variable {nm q:Str}{C N:Addr}{bs bm bmB:List Value}{hdct:Bool}{sn:List Str}{sub:List Value}{ab:Bool}{col:Option Bool}{dd:Option Addr}{k0 k1 k2 k3 k5:Option Value}{B newId initId:String}{mN:Str->Option Value}
theorem Qe (F:ExcBaseFacts B newId initId bmB)(T:OwnTail h bmB bm){us:List Value}(hC:h.get? C=some (excClassObj nm q C N bs bm hdct sn sub ab col dd k0 k1 k2 k3 k5 newId))(hn:h.Ns N mN)(hni:mN "__init__" = none)(hus:us.length<=sizeLine)
 (hq:∀h' tp,(∀b o,h.get? b=some o->h'.get? b=some o)->h'.get? (h.objs.size + 1)=some (excObj C tp)->Q (.ref (h.objs.size + 1)) ⟨h',g,d,t,os⟩) :
 wpAny (model prog w) A (call (.ref C) us) Q E ⟨h,g,d,t,os⟩:=by
 have c1:=tc_lookup;have c2:=tc_bind (.ref C);have ty:(⟨h,g,d,t,os⟩:Shared).TypeIs (.ref C) "type":=⟨_,hC,rfl⟩;refine wpAny_call (codeAny_of_tree ?_);show wpAny _ _ (callAny (.ref C) _) _ _ _
 repeat (any_goals (first
  | assumption
  | with_reducible refine wpAny_loadPart_at hC ?_
  | wp_step))
 refine ⟨rfl,codeAny_call_builtin_at (Code.quiet_builtin _ (by decide +kernel)) entry_typeCall (wpAny_check_type_call_sub hC ?_)⟩
 repeat (first
  | with_reducible refine wpAny_loadPart_at hC ?_
  | with_reducible refine wpAny_madeBy_exc hC ?_
  | wp_step)
 refine codeAny_call_builtin_code (Code.quiet_builtin _ F.quiet) (wpAny_check_new_subT F T hC (codeAny_exc_new_subT F T hC ?_ hus))
 change wpAny _ _ _ _ _ (Shared.mk (DB h C us) g d t os)
 have kp:∀b o,h.get? b=some o->(DB h C us).get? b=some o:=λb o e=>ub9 _ (ub9 _ e);have he:(DB h C us).get? (h.objs.size + 1)=some { cls:=.ref C,data:=.fields #[.ref h.objs.size,.none,.none,.none,.bool false,.none] }:=by heap_get
 have n1:(DB h C us).Ns N mN:=hn.keeps kp;have cC:(Value.ref C :: bm).contains (.ref C)=true:=by simp
 unfold isInstance
 repeat (first
  | with_reducible refine wpAny_loadPart_at he ?_
  | (with_reducible refine wpAny_isSubtype_exc (kp _ _ hC) ?_;rw [cC])
  | wp_step)
 show wpAny _ _ (typeLookup (.ref C) _) _ _ _;refine wpAny_typeLookup_tail (kp _ _ hC) n1 (T.keeps kp) F.mroIs F.init.lookup ?_;rw [hni];refine uk4 (um0 (wpAny_of_eq (F.init.bind _) (um0 (wpAny_call (codeAny_call_builtin F.init.plain F.initEntry (wpAny_check_init_subT F (T.keeps kp) (kp _ _ hC) he rfl ?_))))))
 wp_walk
 refine hq _ ((DB h C us).objs.size) (λb o hb=>?_) ?_
 ·rw [uc1 _ _ (uk9 (Nat.lt_succ_of_lt (uk5 hb)))];exact ub9 _ (kp b o hb)
 ·rw [uc8 _ (ub9 _ he) rfl];rfl
end
section
variable {X:Cx}{k:Nat}{f C P:Addr}{fd:FuncData}{a:Str}{ps:List Str}{n:Str}{p pos:Pos}{e:Expr}{es:List Expr}
theorem XL {t:TA}(M:XMk X.K C P f)(ha:XAt X.K C P a)(F:FnOk X.prog X.w X.K X.mg X.base CX0 k f fd ps (spI X.K P a))(hr:Room (k + 1) X.A)(hb:Binds X.K fd ps [])(hg:Gl X n)(hm:X.mg n=some (.ref C))(hA:PA X [e] t)
 (hdb:(n == ("__debug__" : Str))=false:=by decide) (h1:starEach [e] X.env=[(false,eval e X.env)]:=by rfl) :
 PM qx X (.Call (.Name n p) [e] [] pos) C (λσ H Q=>t σ H λvs H1=>∃v,vs=[v]/\∀x dx,H1 x=none->H1 dx=none->dx≠x->Q x (some dx) (upd (upd H1 dx (.xd [(a,v)])) x (.ext (F2.XIs qx x C (some dx))))):=by
 intro pins s σ H Q I h;refine wpAny_Call_Name_kw (Ch I hg hm ?_ hdb);refine ue2 (h₀:=X.base) I.ok.mod.kin M.kp (thn (hA pos pins s σ H _ I h) λus s1 z9=>?_) h1 rfl;obtain ⟨vs,H1,I1,r,v,ev,q⟩:=z9;refine ⟨I1.kIn,?_⟩;subst ev
 cases r with
 | cons r0 rs=>
   cases rs
   exact QD M ha F hr hb I1 r0 λs' x dx I' hx hdx ne nx rc=>⟨x,some dx,_,rfl,I',Aj,uk7 I1.sz nx,rc,q x dx hx hdx ne⟩
theorem Vd {t:TA}{bm:List Value}{cd:ClassData}(c:XCl X.K C bm)(hk:keepIn X.K (.ref C)=true)(hcd:clsIn X.K C=some cd)(hni:nsIn X.K cd.ns "__init__" = some none)(hg:Gl X n)(hm:X.mg n=some (.ref C))(ha:PA X (e :: es) t)
 (hdb:(n == ("__debug__" : Str))=false:=by decide) (h1:starEach (e :: es) X.env=(false,eval e X.env) :: starEach es X.env:=by rfl) (hpl:(backTo pos (starEach es X.env)).any (·.1)=false:=by rfl) :
 PM qx X (.Call (.Name n p) (e :: es) [] pos) C (λσ H Q=>t σ H λvs H1=>vs.length<=1000/\∀x,H1 x=none->Q x none (upd H1 x (.ext (F2.XIs qx x C none)))):=by
 intro pins s σ H Q I h;refine wpAny_Call_Name_kw (Ch I hg hm ?_ hdb);refine ue2 (h₀:=X.base) I.ok.mod.kin hk (thn (ha pos pins s σ H _ I h) λus s1 z9=>?_) h1 hpl;obtain ⟨vs,H1,I1,r,hl,q⟩:=z9;refine ⟨I1.kIn,?_⟩;obtain ⟨nm,q',N,bs,sn,sub,ab,col,dd,k0,k1,k2,k3,k5,hC,hN⟩:=c.obj I1.kIn;have hni':s1.heap.nsMap N "__init__" = none:=by
  unfold clsIn at hcd
  split at hcd
  ·next l=>
   cases hcd
   have z:=I1.kIn _ _ l;rw [hC] at z
   cases z
   exact OC I1.kIn hN hni
  ·cases hcd
 obtain ⟨hh,g,d,tk,os⟩:=s1;refine Qe ua6 (c.tail I1.kIn) hC hN hni' (by show us.length<=sizeLine;rw [<-r.length];exact uk7 hl (by decide)) λh' tp kp ht=>?_;have xr:XRec true h' (hh.objs.size + 1) C none .none:=⟨_,_,ht,rfl,rfl,rfl,rfl,λ_=>⟨rfl,by show 4 < 6;decide⟩⟩;exact ⟨_,none,_,rfl,I1.laid (h':=h') (t':=tk) kp (ul7 _) (G9 xr.to.is),Aj,uk7 I1.sz (ul7 _),xr,q _ (I1.hok.fresh (ul7 _))⟩
end
end L2
namespace L2
open PySem PySem.Spec PyProof.Rows PySem.W
variable {qx:Bool}
abbrev Cx.mark (X:Cx)(x:Addr):Cx:={ X with A:=X.A.mark (some (.ref x)),calm:=false,xe:=λ_ _=>False }
section
variable {X:Cx}{pins:List (Addr×Obj)}{σ:St}{H:Hp}{s:Shared}{D:Ends}
theorem Inv.mark (I:Inv X pins σ H s)(x:Addr):Inv (X.mark x) pins σ H s:=
 ⟨⟨I.ok.mod,I.ok.kind,I.ok.glob,I.ok.blt,I.ok.above,I.ok.inj,I.ok.has,I.ok.cab,(λz=>by cases z),I.ok.frames,I.ok.stk,I.ok.exf,I.ok.bs,I.ok.bsz,I.ok.noex,I.ok.exfs,I.ok.funs,I.ok.frf⟩,I.os,I.bare,I.base,I.loc,I.cell,I.free,I.freeC,I.pin,I.hok,I.len⟩
theorem Inv.unmark {x:Addr}(J:X.Ok)(I:Inv (X.mark x) pins σ H s):Inv X pins σ H s:=⟨J,I.os,I.bare,I.base,I.loc,I.cell,I.free,I.freeC,I.pin,I.hok,I.len⟩
theorem Inv.repin {pn' pins':List (Addr×Obj)}{xe:Value->Shared->Prop}(I:Inv X pins σ H s)(h:∀p∈pn'++pins',p∈X.pn++pins):Inv { X with pn:=pn',xe:=xe } pins' σ H s:=
 ⟨⟨I.ok.mod,I.ok.kind,I.ok.glob,I.ok.blt,I.ok.above,I.ok.inj,I.ok.has,I.ok.cab,I.ok.hd,I.ok.frames,I.ok.stk,I.ok.exf,I.ok.bs,I.ok.bsz,I.ok.noex,I.ok.exfs,I.ok.funs,I.ok.frf⟩,I.os,I.bare,I.base,I.loc,I.cell,I.free,I.freeC,λp hp=>I.pin p (h p hp),I.hok,I.len⟩
theorem SP.unmark {x:Addr}(J:X.Ok){f:Flow}(h:SP (X.mark x) pins D f s):SP X pins D f s:=by
 cases f with
 | next=>obtain ⟨σ',H',I,q⟩:=h;exact ⟨σ',H',I.unmark J,q⟩
 | brk=>obtain ⟨σ',H',I,q⟩:=h;exact ⟨σ',H',I.unmark J,q⟩
 | cont=>obtain ⟨σ',H',I,q⟩:=h;exact ⟨σ',H',I.unmark J,q⟩
 | ret u=>obtain ⟨v,σ',H',I,r,q⟩:=h;exact ⟨v,σ',H',I.unmark J,r,q⟩
theorem GJ {M:Model}{A:Around}{E:Value->Shared->Prop}{i:Nat}{n:Str}{pos:Pos}{Q:Unit->Shared->Prop}(I:Inv X pins σ H s)(hN:X.N.Nodup)(hi:X.N[i]?=some n)(hk:X.env.scope.names.lookup n=some .local)
 (h:∀s',Inv X pins (σ.set i none) H s'->Q () s'):wpAny M A (do bindName X.env n .none;unbindBehindTheSuite X.env n pos) Q E s:=by
 refine um0 (wpAny_bindName (FB (v:=.non) I hN hi (.inl hk) rfl (λs1 I1=>?_) (.inr hk)));unfold unbindBehindTheSuite;have hiσ:i < σ.length:=by rw [I.len];exact (ua9.mp hi).1
 obtain ⟨m,hn,hl⟩:=id I1.loc;have hcls:(X.env.scope.kind == .class || (X.env.scope.kind == .module && X.env.locals != X.env.globals))=false:=by rw [I.ok.kind];rfl
 obtain ⟨u0,_,lk⟩:=hl i n .non hi (by rw [ub8 hiσ]) (.inl hk);have hv:m n=some u0:=by
  rcases lk with ⟨_,e⟩ | ⟨k,_⟩
  ·exact e
  ·have k:X.env.scope.names.lookup n=some .cell\/X.env.scope.names.lookup n=some .free:=k;rw [hk] at k;rcases k with k | k <;> cases k
 refine wpAny_onRaise (wpAny_unbindName_local hk hn hv hcls λh' u hn' hs=>?_);have cne:=I1.cne;have tracked:HOk X.prog X.w H h':=λb ob e=>by
  refine (I1.hok b ob e).stay (λc w' hc q=>(hs.2 c ?_).trans q) (λ_ q=>q) λ_ _ q=>q;rintro rfl;rcases hc with rfl | hc
  ·rw [I1.free] at e;cases e
  ·rw [I1.free] at hc;cases hc
 have far:∀b o,X.s₀.heap.get? b=some o->b≠X.env.locals:=λb o e=>uk6 (ud8 (uk5 e) I1.ok.above);refine h _ ⟨I1.ok,I1.os,I1.bare,⟨λb o e n hb hx=>?_,λb o e n hb hx=>?_,I1.base.free,λb o e hx=>?_,I1.base.tups,I1.base.frzs,I1.base.tbls⟩,⟨_,hn',λj y v' e1 e2 e3=>?_⟩,λy c e=>?_,I1.free,I1.freeC,λp hp=>?_,tracked,by simpa using I.len⟩
 ·exact (hs.2 b (far b o e)).trans (I1.base.keep b o e n hb hx)
 ·obtain ⟨sl,e1⟩:=I1.base.slot b o e n hb hx;exact ⟨sl,(hs.2 b (far b o e)).trans e1⟩
 ·obtain ⟨o',e1⟩:=I1.base.there b o e hx;exact ⟨o',(hs.2 b (far b o e)).trans e1⟩
 ·by_cases hj:j=i
  ·subst hj;rw [ub8 hiσ] at e2
   cases e2
  ·rw [ud1 (Ne.symm hj)] at e2;obtain ⟨u',r',q⟩:=hl j y v' e1 (by rw [ud1 (Ne.symm hj)];exact e2) e3;refine ⟨u',r',?_⟩;rcases q with ⟨k,e⟩ | ⟨k,c,e,z⟩
   ·refine .inl ⟨k,?_⟩;have:y≠n:=λe=>hj (GB hN e1 (e ▸ hi));simp [this,e]
   ·exact .inr ⟨k,c,e,z.sameBut hs (cne y c e)⟩
 ·obtain ⟨w',z⟩:=I1.cell y c e;exact ⟨w',z.sameBut hs (cne y c e)⟩
 ·obtain ⟨e,n,ne,nf,d⟩:=I1.pin p hp;exact ⟨(hs.2 p.1 ne).trans e,n,ne,nf,d⟩
end
def PH (qx:Bool)(X:Cx)(hs:List ExceptHandler)(th:Addr->Addr->Option Addr->TS):Prop:=∀(pins:List (Addr×Obj)) (s:Shared) (σ:St) (H:Hp) (x C:Addr) (dx:Option Addr) (T:Addr) (D:Ends),Inv X pins σ H s->XOn qx X pins H s x C dx (some T) .none->th x C dx D σ H->
 wpAny (model X.prog X.w) X.A (handleBy (.ref x) X.env hs) (SP X pins D) X.xe s
noncomputable def Ends.unset (D:Ends)(i:Nat):Ends:={ nx:=λσ H=>D.nx (σ.set i none) H,rt:=D.rt,bk:=λσ H=>D.bk (σ.set i none) H,ct:=λσ H=>D.ct (σ.set i none) H }
section
variable {X:Cx}{n v:Str}{C':Addr}{bm':List Value}{p pos:Pos}{b₀:Stmt}{suite:List Stmt}{rest:List ExceptHandler}{ts:Addr->TS}{tr:Addr->Addr->Option Addr->TS}{i:Nat}
def aC (K:PySem.W.Frag)(C':Addr)(i:Nat)(ts:Addr->TS)(tr:Addr->Addr->Option Addr->TS):Addr->Addr->Option Addr->TS:=λx C dx D σ H=>∃bm,XCl K C bm/\
 if (Value.ref C :: bm).contains (.ref C')=true then ts x (D.unset i) (σ.set i (some (.ref x))) H else tr x C dx D σ H
theorem Y4 (hg:Gl X n)(hm:X.mg n=some (.ref C'))(c':XCl X.K C' bm')(hN:X.N.Nodup)(hi:X.N[i]?=some v)(hl:X.env.scope.names.lookup v=some .local)(hb:∀x,PSs (X.mark x) (b₀ :: suite) (ts x))(hr:PH qx X rest tr)
 (hdb:(n == ("__debug__" : Str))=false:=by decide):PH qx X (.ExceptHandler (some (.Name n p)) (some v) (b₀ :: suite) pos :: rest) (aC X.K C' i ts tr):=by
 intro pins s σ H x C dx T D I o ⟨bm,c,q⟩;have Im:=I.mark x;refine wpAny_handleBy_cons (codeAny_handlers_test (Ch Im hg hm ?_ hdb)) (by intro z;cases z)
 refine Iz c c' I.kIn o.rc ?_
 cases hc:(Value.ref C :: bm).contains (.ref C') with
 | false=>
   rw [hc,if_neg (by decide)] at q;exact hr pins s σ H x C dx T D I o q
 | true=>
   rw [hc,if_pos rfl] at q;refine codeAny_handlers_suite_as ?_;refine D8 none I o (.inl rfl) λh1 I1 o1=>?_;refine FB (v:=.ref x) I1 hN hi (.inl hl) rfl (λs2 I2=>?_) (.inr hl);refine um2 (hb x pins s2 _ H _ (I2.mark x) q) (λf s3 z=>?_) λ_ _ z=>z.elim;show wpAny _ _ _ _ _ _;have J:=I.ok
   cases f with
   | next=>obtain ⟨σ',H',I',q'⟩:=z;exact GJ (I'.unmark J) hN hi hl λs4 I4=>⟨_,H',I4,q'⟩
   | brk=>obtain ⟨σ',H',I',q'⟩:=z;exact GJ (I'.unmark J) hN hi hl λs4 I4=>⟨_,H',I4,q'⟩
   | cont=>obtain ⟨σ',H',I',q'⟩:=z;exact GJ (I'.unmark J) hN hi hl λs4 I4=>⟨_,H',I4,q'⟩
   | ret u=>obtain ⟨w,σ',H',I',r,q'⟩:=z;exact GJ (I'.unmark J) hN hi hl λs4 I4=>⟨w,_,H',I4,r,q'⟩
def aD (K:PySem.W.Frag)(C':Addr)(ts:TS)(tr:Addr->Addr->Option Addr->TS):Addr->Addr->Option Addr->TS:=λx C dx D σ H=>∃bm,XCl K C bm/\
 if (Value.ref C :: bm).contains (.ref C')=true then ts D σ H else tr x C dx D σ H
theorem Y5 {ts:TS}(hg:Gl X n)(hm:X.mg n=some (.ref C'))(c':XCl X.K C' bm')(hb:∀x,PSs (X.mark x) (b₀ :: suite) ts)(hr:PH qx X rest tr)
 (hdb:(n == ("__debug__" : Str))=false:=by decide):PH qx X (.ExceptHandler (some (.Name n p)) none (b₀ :: suite) pos :: rest) (aD X.K C' ts tr):=by
 intro pins s σ H x C dx T D I o ⟨bm,c,q⟩;have Im:=I.mark x;refine wpAny_handleBy_cons (codeAny_handlers_test (Ch Im hg hm ?_ hdb)) (by intro z;cases z)
 refine Iz c c' I.kIn o.rc ?_
 cases hc:(Value.ref C :: bm).contains (.ref C') with
 | false=>
   rw [hc,if_neg (by decide)] at q;exact hr pins s σ H x C dx T D I o q
 | true=>
   rw [hc,if_pos rfl] at q;refine codeAny_handlers_suite ?_;refine D8 none I o (.inl rfl) λh1 I1 o1=>?_;exact um2 (hb x pins _ _ H _ (I1.mark x) q) (λf s3 z=>z.unmark I.ok) λ_ _ z=>z.elim
theorem XQ {body:List Stmt}{h₀:ExceptHandler}{hs:List ExceptHandler}{tb:(St->XK)->TS}{th:Addr->Addr->Option Addr->TS}(h1:X.stack=X.env :: X.outer)(h2:X.env.frame=some X.env.locals)
 (hb:∀(pn:List (Addr×Obj)) (E:St->XK),PSs { X with pn:=pn,xe:=XE qx { X with pn:=pn } E } body (tb E)) (hh:PH qx X (h₀ :: hs) th) :
 PS X (.Try body (h₀ :: hs) [] [] pos) (λD σ H=>tb (λσ' v dx H'=>∀x C,v = .ref x->H' x=some (.ext (F2.XIs qx x C dx))->(∃h,F2.XIs qx x C dx h)->th x C dx D σ' H') D σ H):=by
 intro pins s σ H D I q;refine wpAny_Try_except ?_;refine um2 (hb (X.pn++pins) _ [] s σ H D (I.repin λp hp=>by simpa using hp) q) (λf s1 z=>?_) λe s1 z=>?_
 ·have back:∀{σ':St} {H':Hp},Inv { X with pn:=X.pn++pins,xe:=XE qx { X with pn:=X.pn++pins } (λσ' v dx H'=>∀x C,v = .ref x->H' x=some (.ext (F2.XIs qx x C dx))->(∃h,F2.XIs qx x C dx h)->th x C dx D σ' H') } [] σ' H' s1->Inv X pins σ' H' s1:=λJ=>J.repin (X:={ X with pn:=X.pn++pins,xe:=_ }) (pn':=X.pn) (pins':=pins) (xe:=X.xe) λp hp=>by simpa using hp
  cases f with
  | next=>obtain ⟨σ',H',J,q'⟩:=z;exact wpAny_execs_nil ⟨σ',H',back J,q'⟩
  | brk=>obtain ⟨σ',H',J,q'⟩:=z;exact ⟨σ',H',back J,q'⟩
  | cont=>obtain ⟨σ',H',J,q'⟩:=z;exact ⟨σ',H',back J,q'⟩
  | ret u=>obtain ⟨w,σ',H',J,r,q'⟩:=z;exact ⟨w,σ',H',back J,r,q'⟩
 ·obtain ⟨pins',σ',H',x,C,dx,T,fl,rfl,J,o,q'⟩:=z;have J1:Inv X pins σ' H' s1:=J.repin (X:={ X with pn:=X.pn++pins }) (pn':=X.pn) (pins':=pins) (xe:=X.xe) λp hp=>by
   simp only [uh4] at hp ⊢;exact .inl hp
  have o1:XOn qx X pins H' s1 x C dx T fl:=⟨o.hx,o.nx,o.rc,λa e=>by
   obtain ⟨z1,z2,z3,⟨y1,y2,y3⟩,z5⟩:=o.tb a e;exact ⟨z1,z2,z3,⟨y1,y2,λp hp=>y3 p (by simp only [uh4] at hp ⊢;exact .inl hp)⟩,z5⟩,o.fo⟩
  refine Fs J1.ok.frames J1 h1 h2 o1 λh' a I' o'=>D8 none I' o' (.inl rfl) λh'' I'' o''=>?_;exact hh pins _ σ' H' x C dx a D I'' o'' (q' x C rfl o.hx ⟨_,o.rc.is⟩)
end
end L2
namespace F2
open PySem L2 PySem.Spec
variable {qx:Bool}
noncomputable def A9:D->Bool
 | .exc _ _=>true
 | _=>false
def exE (E:XK)(v:V)(H:Hp):Prop:=∀x dx,v = .ref x->E (.ref x) dx H
section
variable (K:PySem.W.Frag)
inductive RX (E:L2.St->XK)(f:M D)(σ:L2.St)(H:Hp)(Q:VK):Prop where
 | mk (Oo:Addr->Prop) (c:Cf) (t:T) (fi:FInv K Oo c t σ H) (r:D) (t':T) (e:f t=some (r,t')) (k:∀v H' c',FInv K Oo c' t' σ H'->Stp Oo c H c' H'->Rep K c' H' v r->if A9 r=true then exE (E σ) v H' else Q v H'):RX E f σ H Q
def μX (E:XK):Cf->Hp->D->(V->Hp->Prop)->Prop:=λc H r rt=>∀v,Rep K c H v r->if A9 r=true then exE E v H else rt v H
inductive RSX (E:L2.St->XK)(f:M Out)(D:Ends)(σ:L2.St)(H:Hp):Prop where
 | mk (Oo:Addr->Prop) (c:Cf) (t:T) (fi:FInv K Oo c t σ H) (o:Out) (t':T) (e:f t=some (o,t')) (k:∀σ' H' c',FInv K Oo c' t' σ' H'->Stp Oo c H c' H'->
 match (generalizing:=false) o with
 | .next=>D.nx σ' H'
 | .brk=>D.bk σ' H'
 | .cont=>D.ct σ' H'
 | .ret r=>∀v,Rep K c' H' v r->if A9 r=true then exE (E σ') v H' else D.rt v H'):RSX E f D σ H
inductive spX (f:Fn)(vs:List V)(H:Hp)(Q:VK)(E:XK):Prop where
 | mk (c:Cf) (ds:List D) (S:List Ob) (si:SInv K c S H) (rs:Reps K c H vs ds) (r:D) (S':List Ob) (e:f ds S=some (r,S')) (k:∀v H' c',SInv K c' S' H'->Stp c.O c H c' H'->(∀b,c'.O b↔c.O b)->Rep K c' H' v r->if A9 r=true then exE E v H' else Q v H'):spX f vs H Q E
end
def DJ (g:Fn):Fn:=λds S=>match g ds S with
 | some (r,S')=>if A9 r=true then none else some (r,S')
 | none=>none
variable {g:Fn}{r:D}
theorem Qo {ds:List D}{S S':List Ob}(h:DJ g ds S=some (r,S')):g ds S=some (r,S')/\A9 r=false:=by
 unfold DJ at h
 split at h
 ·next r' S1 e=>
  by_cases hx:A9 r'=true
  ·rw [if_pos hx] at h;cases h
  ·rw [if_neg hx] at h;cases h;exact ⟨e,by simpa using hx⟩
 ·cases h
variable {fa:Addr}{fd:FuncData}
section
variable {P:Program}{w:World}{K:PySem.W.Frag}{mg:Str->Option Value}{base:Heap}
theorem Jc {k:Nat}{ps:List Str}(F:FnOk P w K mg base (CX1 qx P w) k fa fd ps (spX K g)):FnOk P w K mg base CX0 k fa fd ps (spF K (DJ g)):=
 F.calm λvs H Q E z9=>by
  obtain ⟨c,ds,S,si,rs,r,S',e,kk⟩:=z9;obtain ⟨e1,e2⟩:=Qo e;exact ⟨c,ds,S,si,rs,r,S',e1,λv H' c' a1 a2 a3 a4=>by rw [if_neg (by rw [e2];decide)];exact kk v H' c' a1 a2 a3 a4⟩
theorem Nq {x qual:Str}{st:Stmt}{N ps:List Str}{k n m:Nat}{g:M Out}(e1:ps.length=n)(e2:N.length=m)(F:Fun K x qual st fa fd)(S:FnScope N ps (Al st))
 (hb:∀(cdv:Value) (A:Around) (outer:List Env) (s:Shared) (H:Hp) (E:XK),Room k (A.deeper (PyProof.Rows.envOfC qual (Al st) s.heap.objs.size fa cdv))->
   Ce (CX1 qx P w) (cxX qx P w K mg base N qual (Al st) fa cdv A outer s H E) (λ_=>E)->Fe qx (cxX qx P w K mg base N qual (Al st) fa cdv A outer s H E) (λ_=>E)->
   PassesOwn (model P w) (cxX qx P w K mg base N qual (Al st) fa cdv A outer s H E).A (cxX qx P w K mg base N qual (Al st) fa cdv A outer s H E).env (cxX qx P w K mg base N qual (Al st) fa cdv A outer s H E).xe->
   PSs (cxX qx P w K mg base N qual (Al st) fa cdv A outer s H E) (A8 st) (RSg K (μX K E) g)):FnOk P w K mg base (CX1 qx P w) (k + 1) fa fd ps (spX K (fnOf n m g)):=by
 subst e1 e2;have hlen:∀{ds:List D} {S:List Ob} {z:D×List Ob},fnOf ps.length N.length g ds S=some z->ds.length=ps.length:=λ{ds S z} h=>by
  unfold fnOf at h
  split at h
  ·next h1=>exact h1
  ·cases h
 refine F.okX S (λvs H Q E h=>?_) (λcdv A outer s H vs Q E hr h=>?_)
 ·obtain ⟨c,ds,S,si,rs,r,S',e,_⟩:=h;rw [rs.length];exact hlen e
 obtain ⟨c,ds,S0,si,rs,r,S',e,kk⟩:=h;refine ⟨RSg K (μX K E) g,hb cdv A outer s H E hr XE.pass XE.raises (XE.own rfl rfl),?_⟩;have hl:=hlen e;unfold fnOf at e;rw [if_pos hl] at e
 cases eg:g ⟨env0 N.length ds,S0⟩ with
 | none=>rw [eg] at e;cases e
 | some p=>
   obtain ⟨o,t⟩:=p;rw [eg] at e;refine ⟨c.O,c,_,Gp si rs,o,t,eg,λσ' H' c' f' s'=>?_⟩;obtain ⟨si',ext'⟩:=f'.leave;have st':Stp c.O c H ⟨c'.ι,c.O⟩ H':=⟨s'.ext.trans ext',s'.oo⟩
   cases o with
   | next=>cases e;exact kk .non H' _ si' st' (λ_=>Iff.rfl) .non
   | ret d=>cases e;exact λv rv=>kk v H' _ si' st' (λ_=>Iff.rfl) (rv.mono ext')
   | brk=>cases e
   | cont=>cases e
theorem NO {ps:List Str}{k:Nat}{f:Fn}(e:f=g)(h:FnOk P w K mg base (CX1 qx P w) k fa fd ps (spX K g)):FnOk P w K mg base (CX1 qx P w) k fa fd ps (spX K f):=by rw [e];exact h
end
variable {f:M D}
section
variable {X:Cx}{e a b:Expr}{es:List Expr}{pos:Pos}{E:L2.St->XK}{st:Stmt}
theorem GI {E:XK}{f:M Out}(h:PS X st (RSX X.K (λ_=>E) f)):PS X st (RSg X.K (μX X.K E) f):=Bb h λD σ H z9=>by
 obtain ⟨Oo,c,t,fi,o,t',eq,k⟩:=z9;refine ⟨Oo,c,t,fi,o,t',eq,λσ' H' c' f' s'=>?_⟩;have q:=k σ' H' c' f' s'
 cases o <;> exact q
theorem Nz {k:Nat}{ps:List Str}{f:M (List D)}{x:Str}{p:Pos}(F:FnOk X.prog X.w X.K X.mg X.base (CX1 qx X.prog X.w) k fa fd ps (spX X.K g))(hr:Room k X.A)(hg:Gl X x)(hm:X.mg x=some (.ref fa))(hk:PySem.W.keepIn X.K (.ref fa)=true)(hb:Binds X.K fd ps [])
 (hx:Ce (CX1 qx X.prog X.w) X E) (ha:PA X (e :: es) (RA X.K f)) (hdb:(x == ("__debug__" : Str))=false:=by decide) (h1:AZ e=false:=by rfl) (h2:A6 es=true:=by rfl) :
 PE X (.Call (.Name x p) (e :: es) [] pos) (RX X.K E (Ak g f)):=
 AI (SD F hr hg hm hk hb hx ha hdb (AR h1) (AS h2).1) λσ H Q z9=>by
  obtain ⟨Oo,c,t,fi,r,t',eq,kk⟩:=z9;obtain ⟨ds,t1,e1,eq⟩:=Ae eq;obtain ⟨S',e2,rfl⟩:=FH eq;refine ⟨Oo,c,t,fi,ds,t1,e1,λvs H1 c1 f1 s1 rvs=>?_⟩;refine ⟨c1,ds,t1.S,f1.s,rvs,r,S',e2,λv H' c' si st ho rv=>?_⟩;obtain ⟨f2,s2⟩:=f1.after si st ho;exact kk v H' c' f2 (s1.trans s2) rv
def nxD (f:M D):M D:=bnd f λd=>if A9 d=true then fail else ret d
theorem Ms {t t':T}(h:nxD f t=some (r,t')):f t=some (r,t')/\A9 r=false:=by
 obtain ⟨d,t1,e1,h⟩:=Ae h
 by_cases hx:A9 d=true
 ·rw [if_pos hx] at h;cases h
 ·rw [if_neg hx] at h;cases h;exact ⟨e1,by simpa using hx⟩
theorem P0 {A B:Prop}(h:A9 r=false)(q:if A9 r=true then A else B):B:=by rw [if_neg (by rw [h];decide)] at q;exact q
def JM (g:M D)(h:D->M D):M D:=bnd g λy=>if A9 y=true then ret y else nxD (h y)
theorem RX.bind {K:PySem.W.Frag}{g:M D}{h:D->M D}{σ:L2.St}{H:Hp}{Q:VK}{Oo:Addr->Prop}{c:Cf}{t t':T}(fi:FInv K Oo c t σ H)(eq:JM g h t=some (r,t'))
 (k:∀v H' c',FInv K Oo c' t' σ H'->Stp Oo c H c' H'->Rep K c' H' v r->if A9 r=true then exE (E σ) v H' else Q v H') {R:V->Hp->Prop}
 (s:∀y dy t1 H1 c1,FInv K Oo c1 t1 σ H1->Stp Oo c H c1 H1->Rep K c1 H1 y dy->h dy t1=some (r,t')->(∀v H' c',FInv K Oo c' t' σ H'->Stp Oo c1 H1 c' H'->Rep K c' H' v r->Q v H')->R y H1):RX K E g σ H R:=by
 obtain ⟨dy,t1,e1,eq⟩:=Ae eq;refine ⟨Oo,c,t,fi,dy,t1,e1,λy H1 c1 f1 s1 ry=>?_⟩
 by_cases hx:A9 dy=true
 ·rw [if_pos hx] at eq ⊢
  cases eq
  have:=k y H1 c1 f1 s1 ry;rw [if_pos hx] at this;exact this
 ·rw [if_neg hx] at eq ⊢;obtain ⟨e2,e3⟩:=Ms eq;exact s y dy t1 H1 c1 f1 s1 ry e2 λv H' c' f' s' rv=>P0 e3 (k v H' c' f' (s1.trans s') rv)
def HI (f g:M D)(h:D->D->M D):M D:=bnd f λx=>JM g λy=>h x y
theorem RX.two {K:PySem.W.Frag}{g:M D}{h:D->D->M D}{R:R2}(s:Bh K R h){σ:L2.St}{H:Hp}{Q:VK}(q:RX K E (HI f g h) σ H Q):tOp R (RE K f) (RX K E g) σ H Q:=by
 obtain ⟨Oo,c,t,fi,r,t',eq,k⟩:=q;obtain ⟨dx,t1,e1,eq⟩:=Ae eq;refine ⟨Oo,c,t,fi,dx,t1,e1,λx H1 c1 f1 s1 rx=>?_⟩;exact RX.bind f1 eq (λv H' c' f' s' rv=>k v H' c' f' (s1.trans s') rv) λy dy t2 H2 c2 f2 s2 ry e2 kk=>s f2 (rx.mono s2.ext) ry e2 kk
theorem YS {op:Operator}{R:R2}{g:M D}{h:D->D->M D}(ho:OpR X (binaryOp op) R)(s:Bh X.K R h)(ha:PE X a (RE X.K f))(hb:PE X b (RX X.K E g)):PE X (.BinOp a op b pos) (RX X.K E (HI f g h)):=
 AI (OE ho ha hb) λ_ _ _ q=>RX.two s q
def bU (f g:M D)(h:D->D->M D):M D:=JM f λx=>bnd g λy=>h x y
def bM (g:Fn)(f:M D):M D:=JM f λd t=>match g [d] t.S with
 | some (r,S')=>some (r,{ t with S:=S' })
 | none=>none
theorem Nw (h:PE X e (RX X.K E f)):PS X (.Return (some e) pos) (RSX X.K E (Ap f)):=
 Bb (Hq h) λD σ H z9=>by
  obtain ⟨Oo,c,t,fi,o,t',eq,k⟩:=z9;obtain ⟨d,t1,e1,eq⟩:=Ae eq
  cases eq
  exact ⟨Oo,c,t,fi,d,_,e1,λv H1 c1 f1 s1 rv=>k σ H1 c1 f1 s1 v rv⟩
def Cd (i:Nat)(f:M D):M Out:=bnd f λd=>if A9 d=true then ret (.ret d) else bnd (AF i d) λ_=>ret .next
theorem Nx {i:Nat}{x:Str}{pos':Pos}(hN:X.N.Nodup)(hi:X.N[i]?=some x)(hx:Loc X.env.scope x)(he:PE X e (RX X.K E f))(hs:swapsWith e (some (.Name x pos')) pos.line X.env=pure false:=by rfl)(hf:X.fn x=true\/X.env.scope.names.lookup x=some .local:=by walk_at "h") :
 PS X (.Assign [.Name x pos'] e pos) (RSX X.K E (Cd i f)):=Bb (MC hN hi hx he hs hf) λD σ H z9=>by
 obtain ⟨Oo,c,t,fi,o,t',eq,k⟩:=z9;obtain ⟨d,t1,e1,eq⟩:=Ae eq;refine ⟨Oo,c,t,fi,d,t1,e1,λv H1 c1 f1 s1 rv=>?_⟩
 by_cases hx:A9 d=true
 ·rw [if_pos hx] at eq ⊢
  cases eq
  have:=k σ H1 c1 f1 s1 v rv;rw [if_pos hx] at this;exact this
 ·rw [if_neg hx] at eq ⊢
  cases eq
  exact k _ H1 c1 (f1.set rv) s1
def Lm (f:M D):M Out:=bnd f λd=>if A9 d=true then ret (.ret d) else ret .next
theorem RP (h:PE X e (RX X.K E f))(hs:swapsWith e none pos.line X.env=pure false:=by rfl):PS X (.Expr e pos) (RSX X.K E (Lm f)):=
 Bb (HV h hs) λD σ H z9=>by
  obtain ⟨Oo,c,t,fi,o,t',eq,k⟩:=z9;obtain ⟨d,t1,e1,eq⟩:=Ae eq;refine ⟨Oo,c,t,fi,d,t1,e1,λv H1 c1 f1 s1 rv=>?_⟩
  by_cases hx:A9 d=true
  ·rw [if_pos hx] at eq ⊢
   cases eq
   have:=k σ H1 c1 f1 s1 v rv;rw [if_pos hx] at this;exact this
  ·rw [if_neg hx] at eq ⊢
   cases eq
   exact k σ H1 c1 f1 s1
def bZ (f:M D)(g:D->M Unit):M Out:=bnd f λd=>if A9 d=true then ret (.ret d) else bnd (g d) λ_=>ret .next
theorem RU {f:M Out}(h:PS X st (RSX X.K E f)):PSs X [st] (RSX X.K E f):=F7 h
end
end F2
namespace L2
open PySem PySem.Spec PyProof.Rows PySem.W PySem.Builtin PySem.Builtin.ObjectAttr
structure XGet (K:PySem.W.Frag)(C:Addr):Prop where
 ga:findIn K (.ref C) "__getattribute__" = some (some (.builtin "BaseException.__getattribute__"))
 gt:findIn K (.ref C) "__getattr__" = some none
 mb:mroIn K C (.type "BaseException")=some true
 mo:mroIn K C (.type "object")=some true
 hd:hasDictIn K C=true
section
variable {prog:Program}{w:World}{A:Around}{E:Value->Shared->Prop}{s:Shared}{K:PySem.W.Frag}{x C:Addr}{ox:Obj}{od:Option Obj}{name:Str}{tk:Tok}{Q:Value->Shared->Prop}{R:Result->Shared->Prop}
theorem KG {fill expr:Bool}(X:K.In s.heap)(I:InstAt s.heap x ox C od)(g:XGet K C)
 (h:codeAny (model prog w) A (.call (.builtin "BaseException.__getattribute__") ⟨[.ref x,.str name tk],[]⟩) (λr s'=>match r with | .ok (.ret v)=>wpAny (model prog w) A (handedOut v) Q E s' | _=>False) s) :
 wpAny (model prog w) A (getAttrBy (.ref x) (.str name tk) fill expr) Q E s:=by
 have L0:=I.type (M:=model prog w);have L1:=looks_findIn (M:=model prog w) X g.ga;have L2:=looks_findIn (M:=model prog w) X g.gt;have ne:(onTheHeap (Value.ref C) && Value.builtin "BaseException.__getattribute__" == Value.builtin "object.__getattribute__")=false:=by
  rw [show (Value.builtin "BaseException.__getattribute__" == Value.builtin "object.__getattribute__")=false from by decide +kernel];rfl
 unfold getAttrBy;refine uk4 (um0 (L0.here (um0 (L1.here ?_))));show wpAny _ _ (if (onTheHeap (Value.ref C) && Value.builtin "BaseException.__getattribute__" == Value.builtin "object.__getattribute__")=true then _ else _) _ _ _;rw [if_neg (by rw [ne];decide)];unfold getAttrByItsOwn hookBefore;rw [if_pos (show onTheHeap (Value.ref C)=true from rfl)];refine um0 (L2.here (um0 (wpAny_attempt (uk4 ?_))));unfold callGetattribute;rw [if_neg (show ¬((expr && onTheHeap (Value.builtin "BaseException.__getattribute__"))=true) from by cases expr <;> decide)];unfold boundAndCalled;refine um0 (wpAny_of_eq (PySem.F.excAttr_ValueError.ga.bind _) (wpAny_call (codeAny_mono h λr s' z=>?_)))
 cases r with
 | error e=>exact z.elim
 | ok f=>cases f <;> first | exact z | exact z.elim
theorem Mi (X:K.In s.heap)(I:InstAt s.heap x ox C od)(g:XGet K C)
 (h:wpAny (model prog w) A.in1 («object.__getattribute__» ⟨[.ref x,.str name tk],[]⟩) (λfin s'=>match fin with | .done f=>R (.ok f) s' | .again c'=>c'.quiet=true/\codeAny (model prog w) A c' R s') (λe s'=>R (.error e) s') s) :
 codeAny (model prog w) A (.call (.builtin "BaseException.__getattribute__") ⟨[.ref x,.str name tk],[]⟩) R s:=by
 have ob:Looks (model prog w) s.heap (isInstance (.ref x) (.type "BaseException")) true:=I.type.andThen (looks_mroIn X g.mb);refine codeAny_call_builtin PySem.F.excAttr_ValueError.ga.plain PySem.F.entry_bexc_ga (@check_slot (model prog w) _ _ s "BaseException.__getattribute__" "BaseException" "__getattribute__" (.ref x) [.str name tk] [] _ (by decide +kernel) (by decide +kernel) ob (PySem.F.args_bexc_ga (.ref x) (.str name tk)) h)
theorem RV {v:Value}(X:K.In s.heap)(I:InstAt s.heap x ox C od)(g:XGet K C)(hf:findObj K C od name=some (.value v))(h:R (.ok (.ret v)) s) :
 codeAny (model prog w) A (.call (.builtin "BaseException.__getattribute__") ⟨[.ref x,.str name tk],[]⟩) R s:=by
 refine Mi X I g ?_;have L0:=I.type (M:=model prog w);have L1:=looks_find (M:=model prog w) X I hf;refine um0 (um1 (um0 (um1 (um0 (L0.here (um0 (L1.here ?_)))))));exact um1 h
theorem UG {gg a:Value}(X:K.In s.heap)(I:InstAt s.heap x ox C od)(g:XGet K C)(hf:findObj K C od name=some (.bind gg a))(h:codeAny (model prog w) A.in1 (.call gg ⟨[a,.ref x,.ref C],[]⟩) (λr s'=>match r with | .ok (.ret v)=>R (.ok (.ret v)) s' | .ok _=>False | .error e=>R (.error e) s') s) :
 codeAny (model prog w) A (.call (.builtin "BaseException.__getattribute__") ⟨[.ref x,.str name tk],[]⟩) R s:=by
 refine Mi X I g ?_;have L0:=I.type (M:=model prog w);have L1:=looks_find (M:=model prog w) X I hf;refine um0 (um1 (um0 (um1 (um0 (L0.here (um0 (L1.here ?_)))))));show wpAny _ _ (bindTo gg a (.ref x) (.ref C)) _ _ _;unfold bindTo;refine um0 (uk4 (wpAny_call (codeAny_mono h λr s' z=>?_)))
 cases r with
 | error e=>exact z
 | ok f=>cases f <;> first | exact um1 z | exact z.elim
end
end L2
namespace L2
open PySem PySem.Spec PyProof.Rows PySem.W
theorem Ul (K:PySem.W.Frag):specialIn K (.builtin "object.__class__") "__get__" = some (some (.builtin "getset_descriptor.__get__")):=by kernel_rfl
theorem Pi (K:PySem.W.Frag):takesIn K (.builtin "object.__class__")=some true:=by kernel_rfl
theorem Mb {K:PySem.W.Frag}{C:Addr}{od:Option Obj}(hc:(clsIn K C).isSome=true)(ha:findIn K (.ref C) "__class__" = some (some (.builtin "object.__class__"))):findObj K C od "__class__" = some (.bind (.builtin "getset_descriptor.__get__") (.builtin "object.__class__")):=by
 obtain ⟨cd,hc⟩:=Option.isSome_iff_exists.mp hc;unfold findObj;rw [hc,uh1,ha,uh1];simp [Ul,Pi]
def TF (x C:Addr)(h:Heap):Prop:=∃ox od,InstAt h x ox C od
theorem Sb {K:PySem.W.Frag}{x C:Addr}(g:XGet K C)(ha:findIn K (.ref C) "__class__" = some (some (.builtin "object.__class__"))):KitX K (.ref x) (.ref C) (TF x C) where
 ty:=λ_ _ _ ⟨_,_,I⟩=>I.type
 it:=λ_ _ X _=>by
  obtain ⟨cd,hc,_⟩:=any_some g.hd;unfold clsIn at hc
  split at hc
  ·next ho=>
   intro A' Q' E' s' k q;unfold isType loadHead;exact um0 (wpAny_loadPart (k _ _ (X _ _ ho)) (um1 q))
  ·cases hc
 ne:=λh tp dd its n sl X htp=>by
  obtain ⟨cd,hc,_⟩:=any_some g.hd;refine uf5.mpr λq=>?_;have e:C=tp:=Value.ref.inj (beq_iff_eq.mp q);subst e;unfold clsIn at hc
  split at hc
  ·next ho=>
   have z:=(X _ _ ho).symm.trans htp
   cases z
  ·cases hc
 ca:=λ{prog w A E Q s} X z9 k=>by
  obtain ⟨ox,od,I⟩:=z9;obtain ⟨cd,hc,_⟩:=any_some g.hd;unfold getAttr? getAttrBy?;refine um0 (wpAny_mkText (um0 (wpAny_attempt ?_)));refine KG (s:={ s with toks:=s.toks + 1 }) X I g (UG X I g (Mb (by rw [hc];rfl) ha) (class_get (s:={ s with toks:=s.toks + 1 }) X I g.mo ?_));exact handed_on rfl (um1 k)
end L2
namespace F2
open PySem L2 PySem.Spec PySem.W
variable {qx:Bool}
abbrev Bc:List Str:=["NoValue", "Short", "Broken", "NoTalk", "NoName", "NoText", "NoRow"]
structure XM (K:PySem.W.Frag)(mg:Str->Option Value)(P:Addr)(ca:Str->Addr):Prop where
 pm:mg "ParleyError" = some (.ref P)
 pc:XCl K P VE
 ns:∀n∈Bc,nsIn K mainGlobals n=some (some (.ref (ca n)))
 ms:∀n∈Bc,mg n=some (.ref (ca n))
 cl:∀n∈Bc,XCl K (ca n) (.ref P :: VE)
 inj:∀n∈Bc,∀m∈Bc,ca n=ca m->n=m
 np:∀n∈Bc,ca n≠P
 kp:∀n∈Bc,keepIn K (.ref (ca n))=true
 gt:∀n∈Bc,XGet K (ca n)
 gc:∀n∈Bc,findIn K (.ref (ca n)) "__class__" = some (some (.builtin "object.__class__"))
 na:∀n∈Bc,findIn K (.ref (ca n)) "at" = some none
 nd:∀n∈Bc,findIn K (.ref (ca n)) "side" = some none
noncomputable def Ds (n m:Str):Bool:=m == "ParleyError" || m == "ValueError" || n == m
theorem Ec {a b:Addr}{r:List Value}:(Value.ref a :: r).contains (.ref b)=(a == b || r.contains (.ref b)):=by
 rw [ue6]
 congr 1
 by_cases h:a=b
 ·subst h;simp
 ·rw [beq_eq_false_iff_ne.mpr h,beq_eq_false_iff_ne.mpr (λz:Value.ref b=Value.ref a=>h (Value.ref.inj z).symm)]
theorem Wj {b:Addr}:VE.contains (.ref b)=false:=rfl
section
variable {K:PySem.W.Frag}{mg:Str->Option Value}{P:Addr}{ca:Str->Addr}
theorem XM.subP (x:XM K mg P ca){n:Str}(hn:n∈Bc):(Value.ref (ca n) :: .ref P :: VE).contains (.ref P)=Ds n "ParleyError":=by
 rw [Ec,Ec,uh3,Bool.true_or,ul1];rfl
theorem XM.subE (x:XM K mg P ca){n m:Str}(hn:n∈Bc)(hm:m∈Bc):(Value.ref (ca n) :: .ref P :: VE).contains (.ref (ca m))=Ds n m:=by
 rw [Ec,Ec,Wj,beq_eq_false_iff_ne.mpr (Ne.symm (x.np m hm)),Bool.or_false,Bool.or_false];have h1:(m == ("ParleyError" : Str))=false/\(m == ("ValueError" : Str))=false:=by
  simp only [Bc,uj5,uh0,or_false] at hm;rcases hm with rfl | rfl | rfl | rfl | rfl | rfl | rfl <;> exact ⟨by decide,by decide⟩
 unfold Ds;rw [h1.1,h1.2,Bool.false_or,Bool.false_or]
 by_cases h:n=m
 ·subst h;rw [uh3,uh3]
 ·rw [beq_eq_false_iff_ne.mpr h,beq_eq_false_iff_ne.mpr λz=>h (x.inj n hn m hm z)]
theorem XM.of (x:XM K mg P ca){n:Str}{C:Addr}(hn:n∈Bc)(h:nsIn K mainGlobals n=some (some (.ref C))):C=ca n:=by
 rw [x.ns n hn] at h;injection h with h;injection h with h;injection h with h
 exact h.symm
end
theorem V7 {q1 q2:Bool}{x C C':Addr}{dx dx':Option Addr}(h:XIs q1 x C dx=XIs q2 x C' dx')(e:∃h,XIs q1 x C dx h):C=C'/\dx=dx':=by
 obtain ⟨hh,o,vs,e1,e2,e3,e4⟩:=e;have q:XIs q2 x C' dx' hh:=by rw [<-h];exact ⟨o,vs,e1,e2,e3,e4⟩
 obtain ⟨o',vs',q1,q2,q3,q4⟩:=q;rw [e1] at q1;cases q1
 rw [e2] at q2;cases q2
 exact ⟨rfl,e3.symm.trans q3⟩
section
variable {X:Cx}{e:Expr}{es:List Expr}{pos p pos2:Pos}{E:L2.St->XK}{P:Addr}{ca:Str->Addr}
def XN1 (prog:Program)(w:World)(K:PySem.W.Frag)(mg:Str->Option Value)(base:Heap)(C P:Addr):Prop:=
 ∃(f:Addr) (fd:FuncData) (ps:List Str),XMk K C P f/\XAt K C P "at"/\Binds K fd ps []/\FnOk prog w K mg base CX0 1 f fd ps (spI K P "at")
def Hr (n:Str)(f:M (List D)):M Out:=bnd f λds=>match ds with
 | [d]=>ret (.ret (.exc n [d]))
 | _=>fail
theorem PK {f:M (List D)}(x:XM X.K X.mg P ca)(xn:XN1 X.prog X.w X.K X.mg X.base (ca "NoTalk") P)(hr:L2.Room 2 X.A)(hc:X.calm=true)(hx:Fe qx X E)(hg:Gl X "NoTalk")(ha:PA X [e] (RA X.K f))
 (h1:AZ e=false:=by rfl):PS X (.Raise (some (.Call (.Name "NoTalk" p) [e] [] pos)) none pos2) (RSX X.K E (Hr "NoTalk" f)):=by
 obtain ⟨fa,fd,ps,M,A,B,F⟩:=xn;have hn:("NoTalk" : Str)∈Bc:=by decide
 refine Bb (IE hc M.cl hx (XL M A F hr B hg (x.ms _ hn) ha (by decide) (AR h1))) λD σ H z9=>?_;obtain ⟨Oo,c,t,fi,o,t',eq,k⟩:=z9;obtain ⟨ds,t1,e1,eq⟩:=Ae eq;refine ⟨Oo,c,t,fi,ds,t1,e1,λvs H1 c1 f1 s1 rvs=>?_⟩
 match ds,rvs,eq with
 | [],_,eq=>cases eq
 | _ :: _ :: _,_,eq=>cases eq
 | [d],.cons (v:=v0) rv .nil,eq=>
   cases eq
   refine ⟨_,rfl,λy dx hy hdx ne=>?_⟩;have f2:=f1.laid (o:=.xd [("at",v0)]) hdx;have hy2:upd H1 dx (.xd [("at",v0)]) y=none:=by rw [Ag (Ne.symm ne)];exact hy
   have f3:=f2.laid (o:=.ext (XIs qx y (ca "NoTalk") (some dx))) hy2;have s3:=s1.trans ((f1.stp_laid (o:=.xd [("at",v0)]) hdx).trans (f2.stp_laid (o:=.ext (XIs qx y (ca "NoTalk") (some dx))) hy2));refine k σ _ c1 f3 s3 (.ref y) (.exc (x.ns _ hn) Aj (f2.s.free hy2) ?_ (.cons (rv.mono ((f1.stp_laid hdx).ext.trans (f2.stp_laid hy2).ext)) .nil)) y (some dx) rfl;exact ⟨by rw [Ag ne,Aj];rfl,f1.s.free hdx⟩
def XN0 (K:PySem.W.Frag)(C:Addr):Prop:=∃cd,clsIn K C=some cd/\nsIn K cd.ns "__init__" = some none
def Fy (n:Str)(f:M (List D)):M Out:=bnd f λds=>if ds.length<=1000 then ret (.ret (.exc n [])) else fail
theorem KH {n:Str}{f:M (List D)}(x:XM X.K X.mg P ca)(hn:n∈Bc)(hf:Iv n=[])(xn:XN0 X.K (ca n))(hc:X.calm=true)(hx:Fe qx X E)(hg:Gl X n)(ha:PA X (e :: es) (RA X.K f))
 (hdb:(n == ("__debug__" : Str))=false:=by decide) (h1:AZ e=false:=by rfl) (h2:A6 es=true:=by rfl):PS X (.Raise (some (.Call (.Name n p) (e :: es) [] pos)) none pos2) (RSX X.K E (Fy n f)):=by
 obtain ⟨cd,hcd,hni⟩:=xn;refine Bb (IE hc (x.cl n hn) hx (Vd (x.cl n hn) (x.kp n hn) hcd hni hg (x.ms _ hn) ha hdb (AR h1) (AS h2).1)) λD σ H z9=>?_;obtain ⟨Oo,c,t,fi,o,t',eq,k⟩:=z9;obtain ⟨ds,t1,e1,eq⟩:=Ae eq;refine ⟨Oo,c,t,fi,ds,t1,e1,λvs H1 c1 f1 s1 rvs=>?_⟩
 split at eq
 ·next hl=>
  cases eq
  refine ⟨by rw [rvs.length];exact hl,λy hy=>?_⟩;have f3:=f1.laid (o:=.ext (XIs qx y (ca n) none)) hy;exact k σ _ c1 f3 (s1.trans (f1.stp_laid hy)) (.ref y) (.exc (x.ns _ hn) Aj (f1.s.free hy) (vs:=[]) rfl .nil) y none rfl
 ·cases eq
end
section
variable {X:Cx}{pos p:Pos}{P:Addr}{ca:Str->Addr}{μ:Cf->Hp->D->(V->Hp->Prop)->Prop}
inductive RH (K:PySem.W.Frag)(ca:Str->Addr)(μ:Cf->Hp->D->(V->Hp->Prop)->Prop)(h:D->M Out)(x C:Addr)(dx:Option Addr)(E:Ends)(σ:L2.St)(H:Hp):Prop where
 | mk (Oo:Addr->Prop) (c:Cf) (t:T) (n:Str) (ds:List D) (fi:FInv K Oo c t σ H) (hn:n∈Bc) (hC:C=ca n) (rp:Rep K c H (.ref x) (.exc n ds)) (o:Out) (t':T) (e:h (.exc n ds) t=some (o,t')) (k:∀σ' H' c',FInv K Oo c' t' σ' H'->Stp Oo c H c' H'->
   match (generalizing:=false) o with
   | .next=>E.nx σ' H'
   | .brk=>E.bk σ' H'
   | .cont=>E.ct σ' H'
   | .ret r=>μ c' H' r E.rt):RH K ca μ h x C dx E σ H
noncomputable def unE (i:Nat)(t:T):T:={ t with env:=t.env.set i none }
theorem FInv.unset {K:PySem.W.Frag}{Oo:Addr->Prop}{c:Cf}{t:T}{σ:L2.St}{H:Hp}(f:FInv K Oo c t σ H)(i:Nat):FInv K Oo c (unE i t) (σ.set i none) H:=by
 have neq:∀{j:Nat} {x:Sl},(t.env.set i none)[j]?=some (some x)->j≠i/\t.env[j]?=some (some x):=λ{j x} q=>by
  by_cases h:j=i
  ·subst h;rw [uf6] at q
   split at q
   ·split at q
    ·injection q with q;cases q
    ·cases q
   ·next h1=>exact absurd rfl h1
  ·rw [ud1 (Ne.symm h)] at q;exact ⟨h,q⟩
 refine ⟨f.s,by simp [unE,f.len],f.sub,λj e q=>?_,λj ds q=>?_,λj k ds es a q1 q2 q3 q4=>?_⟩
 ·obtain ⟨h,q⟩:=neq q;obtain ⟨u,h1,h2⟩:=f.val j e q;exact ⟨u,by rw [ud1 (Ne.symm h)];exact h1,h2⟩
 ·obtain ⟨h,q⟩:=neq q;obtain ⟨a,vs,h1,h2⟩:=f.own j ds q;exact ⟨a,vs,by rw [ud1 (Ne.symm h)];exact h1,h2⟩
 ·obtain ⟨h,q1⟩:=neq q1;obtain ⟨h',q2⟩:=neq q2;rw [ud1 (Ne.symm h)] at q3;rw [ud1 (Ne.symm h')] at q4;exact f.inj j k ds es a q1 q2 q3 q4
def hAs (n':Str)(i:Nat)(s:M Out)(r:D->M Out):D->M Out:=λe t=>match e with
 | .exc n ds=>if Ds n n'=true then (match s { t with env:=t.env.set i (some (.val (.exc n ds))) } with
   | some (o,t2)=>some (o,unE i t2)
   | none=>none) else r (.exc n ds) t
 | _=>none
def hNo (n':Str)(s:M Out)(r:D->M Out):D->M Out:=λe t=>match e with
 | .exc n ds=>if Ds n n'=true then s t else r (.exc n ds) t
 | _=>none
noncomputable def Ml:D->M Out:=λ_ _=>none
theorem WO:PH qx X [] (RH X.K ca μ Ml):=by
 rintro _ _ _ _ _ _ _ _ _ _ _ ⟨_,_,_,_,_,_,_,_,_,_,_,e,_⟩
 cases e
theorem YL {n' v:Str}{C':Addr}{bm':List Value}{i:Nat}{b₀:Stmt}{suite:List Stmt}{rest:List ExceptHandler}{s:M Out}{r:D->M Out}(x:XM X.K X.mg P ca)(hg:Gl X n')(hm:X.mg n'=some (.ref C'))(c':XCl X.K C' bm')(hs:∀n∈Bc,(Value.ref (ca n) :: .ref P :: VE).contains (.ref C')=Ds n n')
 (hN:X.N.Nodup) (hi:X.N[i]?=some v) (hl:X.env.scope.names.lookup v=some .local) (hb:∀x,PSs (X.mark x) (b₀ :: suite) (RSg X.K μ s)) (hr:PH qx X rest (RH X.K ca μ r)) (hdb:(n' == ("__debug__" : Str))=false:=by decide) :
 PH qx X (.ExceptHandler (some (.Name n' p)) (some v) (b₀ :: suite) pos :: rest) (RH X.K ca μ (hAs n' i s r)):=by
 intro pins s0 σ H y C dx T D I o q;refine Y4 hg hm c' hN hi hl hb hr hdb pins s0 σ H y C dx T D I o ?_;obtain ⟨Oo,c,t,n,ds,fi,hn,rfl,rv,o1,t',eq,k⟩:=q;refine ⟨_,x.cl n hn,?_⟩;rw [hs n hn];unfold hAs at eq;dsimp only at eq
 by_cases hb':Ds n n'=true
 ·rw [if_pos hb'] at eq ⊢
  cases e1:s { t with env:=t.env.set i (some (.val (.exc n ds))) } with
  | none=>rw [e1] at eq;cases eq
  | some z=>
    obtain ⟨o2,t2⟩:=z;rw [e1] at eq
    cases eq
    refine ⟨Oo,c,_,fi.set rv,o1,t2,e1,λσ' H' c2 f2 s2=>?_⟩;have:=k _ H' c2 (f2.unset i) s2
    cases o1 <;> exact this
 ·rw [if_neg hb'] at eq ⊢;exact ⟨Oo,c,t,n,ds,fi,hn,rfl,rv,o1,t',eq,k⟩
theorem TN {n':Str}{C':Addr}{bm':List Value}{b₀:Stmt}{suite:List Stmt}{rest:List ExceptHandler}{s:M Out}{r:D->M Out}(x:XM X.K X.mg P ca)(hg:Gl X n')(hm:X.mg n'=some (.ref C'))(c':XCl X.K C' bm')(hs:∀n∈Bc,(Value.ref (ca n) :: .ref P :: VE).contains (.ref C')=Ds n n')
 (hb:∀x,PSs (X.mark x) (b₀ :: suite) (RSg X.K μ s)) (hr:PH qx X rest (RH X.K ca μ r)) (hdb:(n' == ("__debug__" : Str))=false:=by decide) :
 PH qx X (.ExceptHandler (some (.Name n' p)) none (b₀ :: suite) pos :: rest) (RH X.K ca μ (hNo n' s r)):=by
 intro pins s0 σ H y C dx T D I o q;refine Y5 hg hm c' hb hr hdb pins s0 σ H y C dx T D I o ?_;obtain ⟨Oo,c,t,n,ds,fi,hn,rfl,rv,o1,t',eq,k⟩:=q;refine ⟨_,x.cl n hn,?_⟩;rw [hs n hn];unfold hNo at eq;dsimp only at eq
 by_cases hb':Ds n n'=true
 ·rw [if_pos hb'] at eq ⊢;exact ⟨Oo,c,t,fi,o1,t',eq,λσ' H' c2 f2 s2=>by
   have:=k _ H' c2 f2 s2
   cases o1 <;> exact this⟩
 ·rw [if_neg hb'] at eq ⊢;exact ⟨Oo,c,t,n,ds,fi,hn,rfl,rv,o1,t',eq,k⟩
noncomputable def D3 (b:M Out)(h:D->M Out):M Out:=λt=>match b t with
 | some (.ret (.exc n ds),t1)=>if n∈Bc then h (.exc n ds) t1 else none
 | z=>z
theorem PQ {body:List Stmt}{h₀:ExceptHandler}{hs:List ExceptHandler}{b:M Out}{h:D->M Out}(x:XM X.K X.mg P ca)(hμ:∀c H r rt,A9 r=false->(∀v,Rep X.K c H v r->rt v H)=μ c H r rt)(h1:X.stack=X.env :: X.outer)(h2:X.env.frame=some X.env.locals)
 (hb:∀(pn:List (Addr×Obj)) (E:L2.St->XK),Ce (CX1 qx X.prog X.w) { X with pn:=pn,xe:=XE qx { X with pn:=pn } E } E->PSs { X with pn:=pn,xe:=XE qx { X with pn:=pn } E } body (RSX X.K E b)) (hh:PH qx X (h₀ :: hs) (RH X.K ca μ h)):PS X (.Try body (h₀ :: hs) [] [] pos) (RSg X.K μ (D3 b h)):=
 Bb (XQ h1 h2 (λpn E=>hb pn E (XE.pass (X:={ X with pn:=pn }))) hh) λD σ H z9=>by
  obtain ⟨Oo,c,t,fi,o,t',eq,k⟩:=z9;unfold D3 at eq
  cases e1:b t with
  | none=>rw [e1] at eq;cases eq
  | some z=>
    obtain ⟨o1,t1⟩:=z;rw [e1] at eq;refine ⟨Oo,c,t,fi,o1,t1,e1,λσ1 H1 c1 f1 s1=>?_⟩
    cases o1 with
    | next=>cases eq;exact k σ1 H1 c1 f1 s1
    | brk=>cases eq;exact k σ1 H1 c1 f1 s1
    | cont=>cases eq;exact k σ1 H1 c1 f1 s1
    | ret r=>
      intro v rv
      cases hx:A9 r with
      | false=>
        rw [if_neg (by decide)];have eq':some (Out.ret r,t1)=some (o,t'):=by cases r <;> first | exact eq | cases hx
        cases eq'
        have q:=k σ1 H1 c1 f1 s1;have q:μ c1 H1 r D.rt:=q;rw [<-hμ _ _ _ _ hx] at q;exact q v rv
      | true=>
        rw [if_pos rfl];intro y dx hv y' C hy' hC hex
        cases rv with
        | @exc q0 x0 C0 dx0 n vs ds g hx0 hA fl rs=>
          cases hv
          cases hy'
          dsimp only at eq
          split at eq
          ·next hn=>
           rw [hx0] at hC;injection hC with hC;injection hC with hC
           obtain ⟨e2,e3⟩:=V7 hC.symm hex;have:=x.of hn g;exact ⟨Oo,c1,t1,n,ds,f1,hn,e2.trans this,.exc g hx0 hA fl rs,o,t',eq,λσ' H' c' f' s'=>k σ' H' c' f' (s1.trans s')⟩
          ·cases eq
        | _=>cases hx
end
end F2
namespace F2
open PySem L2 PySem.Spec PySem.W
variable {qx:Bool}
def Cb (n:Str):D->M D
 | .exc m _=>if m∈Bc then ret (.bl (Ds m n)) else fail
 | .non=>ret (.bl false)
 | .bl _=>ret (.bl false)
 | .int _=>ret (.bl false)
 | .str _=>ret (.bl false)
 | .lst _=>ret (.bl false)
 | .tup _=>ret (.bl false)
 | .dic=>ret (.bl false)
 | _=>fail
def ON (K:PySem.W.Frag)(c:Value):List V->Hp->VK->Prop:=λxs H Q=>∃x y t b,xs=[x,y]/\(∀u,RelV y u->u=c)/\
 (TyOf K H x t\/∃q0 a C dx,x = .ref a/\t = .ref C/\H a=some (.ext (XIs q0 a C dx))/\(∀d,dx=some d->∃fs,H d=some (.xd fs))/\XGet K C/\findIn K (.ref C) "__class__" = some (some (.builtin "object.__class__")))/\kitOne K t c=some b/\Q (.bl b) H
variable {C:Addr}
theorem ZW {X:Cx}{pins:List (Addr×Obj)}{σ:L2.St}{H:Hp}{s:Shared}{a:Addr}{dx:Option Addr}(I:Inv X pins σ H s)(h:H a=some (.ext (XIs qx a C dx)))(hd:∀d,dx=some d->∃fs,H d=some (.xd fs)):TF a C s.heap:=by
 obtain ⟨o,vs,e1,e2,e3,e4,_⟩:=(I.hok a _ h).1;have nc:notCls o=true:=by unfold notCls;rw [e4]
 cases dx with
 | none=>exact ⟨o,none,e1,e2,nc,by rw [e3];trivial⟩
 | some d=>
   obtain ⟨fs,hf⟩:=hd d rfl;obtain ⟨mA,n,_⟩:=(show ObjOk X.prog X.w H s.heap d (.xd fs) from I.hok d _ hf);obtain ⟨od,ho,_⟩:=FO n;exact ⟨o,some od,e1,e2,nc,by rw [e3];exact ho⟩
theorem Kw {X:Cx}{c:Value}:DO X (.builtin "isinstance") (ON X.K c):=by
 intro pins s σ H xs us Q I r h;obtain ⟨x,y,t,b,rfl,hy,ty,e,q⟩:=h;obtain ⟨u,w',rfl,rx,rt⟩:=T6 r
 cases hy _ rt
 rcases ty with ty | ⟨q0,a,C,dx,rfl,rfl,ha,hd,g,gc⟩
 ·exact KM I rx ty e λtk=>⟨.bl b,H,I.tok tk,rfl,q⟩
 ·cases (show u=Value.ref a from rx)
  exact kia_one (Sb g gc) I.kIn (ZW I ha hd) e (λz=>nomatch z) λtk=>⟨.bl b,H,I.tok tk,rfl,q⟩
variable {K:PySem.W.Frag}
theorem Xf {d:D}{T:String}{C':Addr}{bm':List Value}(h:tyD d=some T)(c':XCl K C' bm'):kitOne K (.type T) (.ref C')=some false:=by
 obtain ⟨cd,dd,k0,k1,k2,k3,k5,h1,h2,h3,h4,h5⟩:=c'.ex;have e1:clsIn K C'=some cd:=by unfold clsIn;rw [h1]
 have e2:typeIn K (.ref C')=some (.type "type"):=by
  show (K.lookup C').map _=_;rw [h1];rfl
 have z:((clsIn K C').isSome && typeIn K (.ref C') == some (.type "type"))=true:=by rw [e1,e2,Option.isSome_some,uj9];decide
 have hT:T = "NoneType"\/T = "bool"\/T = "int"\/T = "str"\/T = "list"\/T = "tuple"\/T = "dict":=by
  cases d <;> simp [tyD] at h <;> simp [<-h]
 unfold kitOne kitCls;rw [if_neg (by intro q;cases beq_iff_eq.mp q)]
 dsimp only;rw [if_pos z];rcases hT with rfl | rfl | rfl | rfl | rfl | rfl | rfl <;> rfl
theorem UP {d:D}{T:String}(h:tyD d=some T):kitOne K (.type T) (.type "ValueError")=some false:=by
 have hT:T = "NoneType"\/T = "bool"\/T = "int"\/T = "str"\/T = "list"\/T = "tuple"\/T = "dict":=by
  cases d <;> simp [tyD] at h <;> simp [<-h]
 rcases hT with rfl | rfl | rfl | rfl | rfl | rfl | rfl <;> rfl
theorem QO {bm:List Value}(c:XCl K C bm)(v:Value):subIn K (.ref C) v=some ((Value.ref C :: bm).contains v):=by
 obtain ⟨cd,h1,h2,_⟩:=c.cls;show mroIn K C v=_;unfold mroIn;rw [h1,uh1,h2];rfl
theorem UO {C':Addr}{bm bm':List Value}(c:XCl K C bm)(c':XCl K C' bm'):kitOne K (.ref C) (.ref C')=some ((Value.ref C :: bm).contains (.ref C')):=by
 obtain ⟨cd,dd,k0,k1,k2,k3,k5,h1,h2,h3,h4,h5⟩:=c'.ex;have e1:clsIn K C'=some cd:=by unfold clsIn;rw [h1]
 have e2:typeIn K (.ref C')=some (.type "type"):=by
  show (K.lookup C').map _=_;rw [h1];rfl
 have z:((clsIn K C').isSome && typeIn K (.ref C') == some (.type "type"))=true:=by rw [e1,e2,Option.isSome_some,uj9];decide
 unfold kitOne kitCls
 by_cases h:C=C'
 ·subst h;rw [if_pos (by simp)];simp
 ·rw [if_neg (λq=>h (Value.ref.inj (beq_iff_eq.mp q)))];dsimp only;rw [if_pos z];exact QO c _
theorem YW {P:Addr}(c:XCl K C (.ref P :: VE)):kitOne K (.ref C) (.type "ValueError")=some true:=by
 unfold kitOne kitCls;rw [if_neg (by intro q;cases beq_iff_eq.mp q)]
 dsimp only;rw [if_pos (by decide +kernel),QO c];rw [ue6,ue6,show VE.contains (.type "ValueError")=true from by decide +kernel,ul1,ul1]
section
variable {X:Cx}{P:Addr}{ca:Str->Addr}{a:Expr}{f:M D}{p pos q:Pos}
theorem NA {n:Str}{c:Value}{y:V}(x:XM X.K X.mg P ca)(hy:∀u,RelV y u->u=c)(k1:∀d T,tyD d=some T->kitOne X.K (.type T) c=some false)(k2:∀m∈Bc,kitOne X.K (.ref (ca m)) c=some (Ds m n)){σ:L2.St}{H:Hp}{Q:VK}(h:RE X.K (bnd f (Cb n)) σ H Q) :
 tCB (ON X.K c) (OX (RE X.K f) (OX (tC y) Tf)) σ H Q:=by
 obtain ⟨Oo,c0,t,fi,r,t',eq,k⟩:=h;obtain ⟨d,t1,e1,eq⟩:=Ae eq;refine ⟨Oo,c0,t,fi,d,t1,e1,λv H1 c1 f1 s1 rv=>?_⟩;show ON X.K c [v,y] H1 Q
 cases rv with
 | @exc q0 x0 C0 dx0 m vs ds g hx0 hA fl rs=>
   unfold Cb at eq;dsimp only at eq
   split at eq
   ·next hm=>
    cases eq
    have hc:=x.of hm g;subst hc;refine ⟨_,_,_,_,rfl,hy,.inr ⟨_,x0,ca m,dx0,rfl,rfl,hx0,λd hd=>?_,x.gt m hm,x.gc m hm⟩,k2 m hm,k _ H1 c1 f1 s1 (.bl _)⟩;subst hd;exact ⟨_,fl.1⟩
   ·cases eq
 | non=>cases eq;exact ⟨_,_,_,_,rfl,hy,.inl .non,k1 .non _ rfl,k _ H1 c1 f1 s1 (.bl _)⟩
 | bl b=>cases eq;exact ⟨_,_,_,_,rfl,hy,.inl (.bl _),k1 (.bl b) _ rfl,k _ H1 c1 f1 s1 (.bl _)⟩
 | int i=>cases eq;exact ⟨_,_,_,_,rfl,hy,.inl (.int _),k1 (.int i) _ rfl,k _ H1 c1 f1 s1 (.bl _)⟩
 | str i=>cases eq;exact ⟨_,_,_,_,rfl,hy,.inl (.str _),k1 (.str i) _ rfl,k _ H1 c1 f1 s1 (.bl _)⟩
 | lst h1 h2 h3=>cases eq;exact ⟨_,_,_,_,rfl,hy,.inl (.lst h1),k1 (.lst []) _ rfl,k _ H1 c1 f1 s1 (.bl _)⟩
 | tup h1 h2 h3=>cases eq;exact ⟨_,_,_,_,rfl,hy,.inl (.tup h1),k1 (.tup []) _ rfl,k _ H1 c1 f1 s1 (.bl _)⟩
 | dic h1 h2=>cases eq;exact ⟨_,_,_,_,rfl,hy,.inl (.dK h1),k1 .dic _ rfl,k _ H1 c1 f1 s1 (.bl _)⟩
 | _=>cases eq
theorem Es {n:Str}(x:XM X.K X.mg P ca)(hn:n∈Bc)(hg:Gl X "isinstance")(hm:X.mg "isinstance" = none)(hv:bootBuiltins "isinstance" = some (.builtin "isinstance"))(hgn:Gl X n)(ha:PE X a (RE X.K f))(hdb:(n == ("__debug__" : Str))=false:=by decide)(h1:AZ a=false:=by rfl) :
 PE X (.Call (.Name "isinstance" p) [a,.Name n q] [] pos) (RE X.K (bnd f (Cb n))):=
 AI (ID Kw hg hm hv (F6 ha (F6 (Ke hgn (x.ms n hn) (v:=.ref (ca n)) rfl hdb) My (AR (e:=.Name n q) rfl)) (AR h1)) (by decide) (by decide) (AR h1) (AS (es:=[.Name n q]) rfl).1)
  λσ H Q h=>NA (n:=n) (c:=.ref (ca n)) (y:=.ref (ca n)) x (λu r=>r) (λd T e=>Xf e (x.cl n hn)) (λm hm=>by rw [UO (x.cl m hm) (x.cl n hn),x.subE hm hn]) h
theorem Ur (x:XM X.K X.mg P ca)(hg:Gl X "isinstance")(hm:X.mg "isinstance" = none)(hv:bootBuiltins "isinstance" = some (.builtin "isinstance"))(hgn:Gl X "ValueError")(hmn:X.mg "ValueError" = none)(hvn:bootBuiltins "ValueError" = some (.type "ValueError"))(ha:PE X a (RE X.K f))(h1:AZ a=false:=by rfl) :
 PE X (.Call (.Name "isinstance" p) [a,.Name "ValueError" q] [] pos) (RE X.K (bnd f (Cb "ValueError"))):=
 AI (ID Kw hg hm hv (F6 ha (F6 (NH hgn hmn hvn (v:=.ty "ValueError") rfl (by decide) (by decide)) My (AR (e:=.Name "ValueError" q) rfl)) (AR h1)) (by decide) (by decide) (AR h1) (AS (es:=[.Name "ValueError" q]) rfl).1)
  λσ H Q h=>NA (n:="ValueError") (c:=.type "ValueError") (y:=.ty "ValueError") x (λu r=>r) (λd T e=>UP e) (λm hm=>by rw [YW (x.cl m hm)];rfl) h
def JL (nm:Str):D->M D
 | .exc n ds=>if n∈Bc then (match ((Iv n).zip ds).lookup nm with
   | some d=>ret d
   | none=>fail) else fail
 | _=>fail
theorem Ih {K:PySem.W.Frag}{c:Cf}{H:Hp}{nm:Str}{d:D}:∀{ns:List Str} {vs:List V} {ds:List D},Reps K c H vs ds->(ns.zip ds).lookup nm=some d->∃v,(ns.zip vs).lookup nm=some v/\Rep K c H v d
 | [],_,_,_,e=>by cases e
 | _ :: _,_,_,.nil,e=>by cases e
 | n :: ns,_,_,.cons (v:=v0) (d:=d0) r rs,e=>by
   by_cases h:nm=n
   ·subst h;simp only [List.zip_cons_cons,List.lookup,uh3,uf7] at e ⊢;subst e;exact ⟨v0,rfl,r⟩
   ·have hb:(nm == n)=false:=beq_eq_false_iff_ne.mpr h;simp only [List.zip_cons_cons,List.lookup,hb] at e ⊢;exact Ih rs e
theorem K8:bootBuiltins "ValueError" = some (.type "ValueError"):=by decide +kernel
theorem WE {nm:Str}(x:XM X.K X.mg P ca)(hno:∀n∈Bc,findIn X.K (.ref (ca n)) nm=some none)(ha:PE X a (RE X.K f))(hb:attributeBase a nm X.env (eval a X.env)=eval a X.env):PE X (.Attribute a nm pos) (RE X.K (bnd f (JL nm))):=by
 intro pins s σ H Q I h;obtain ⟨Oo,c0,t,fi,r,t',eq,k⟩:=h;obtain ⟨d,t1,e1,eq⟩:=Ae eq;refine Nh hb (thn (ha pins s σ H (λv H1=>∃c1,FInv X.K Oo c1 t1 σ H1/\Stp Oo c0 H c1 H1/\Rep X.K c1 H1 v d) I ⟨Oo,c0,t,fi,d,t1,e1,λv H1 c1 f1 s1 rv=>⟨c1,f1,s1,rv⟩⟩) λu s1 z9=>?_);obtain ⟨v,H1,I1,rx,c1,f1,st1,rv⟩:=z9
 cases rv with
 | @exc q0 x0 C0 dx0 m vs ds g hx0 hA fl rs=>
   cases (show u=Value.ref x0 from rx)
   unfold JL at eq;dsimp only at eq
   split at eq
   ·next hm=>
    have hc:=x.of hm g;subst hc
    cases el:((Iv m).zip ds).lookup nm with
    | none=>rw [el] at eq;cases eq
    | some d'=>
      rw [el] at eq
      cases eq
      obtain ⟨v',l1,r1⟩:=Ih rs el
      cases dx0 with
      | none=>
        have fl:vs=[]:=fl;subst fl;simp at l1
      | some dd=>
        have hdd:H1 dd=some (.xd ((Iv m).zip vs)):=fl.1;obtain ⟨o,vs0,q1,q2,q3,q4,_⟩:=(I1.hok x0 _ hx0).1;have nc:notCls o=true:=by unfold notCls;rw [q4]
        obtain ⟨mA,nA,rA⟩:=(show ObjOk X.prog X.w H1 s1.heap dd (.xd ((Iv m).zip vs)) from I1.hok dd _ hdd);obtain ⟨od,ho,hl⟩:=FO nA;obtain ⟨u',hu,ru⟩:=RelO.some_of (v:=v') (o:=mA nm) (by rw [<-l1];exact rA nm);have IA:InstAt s1.heap x0 o (ca m) (some od):=⟨q1,q2,nc,by rw [q3];exact ho⟩;unfold getAttr;refine um0 (wpAny_mkText ?_);refine KG (s:={ s1 with toks:=s1.toks + 1 }) I1.kIn IA (x.gt m hm) (RV I1.kIn IA (x.gt m hm) (findObj_own (x.gt m hm).hd (hno m hm) rfl (by rw [hl,hu])) ?_);exact handed_on (KI ru) ⟨v',H1,I1.tok _,ru,k v' H1 c1 f1 st1 r1⟩
   ·cases eq
 | _=>cases eq
end
end F2
namespace F2
open PySem L2 PySem.Spec PySem.W
variable {qx:Bool}
def O9 (K:PySem.W.Frag)(P c:Addr):Bool:=Ly K c (.ref P :: VE) && keepIn K (.ref c) && findIn K (.ref c) "__getattribute__" == some (some (.builtin "BaseException.__getattribute__")) && findIn K (.ref c) "__getattr__" == some none && mroIn K c (.type "BaseException") == some true
 && mroIn K c (.type "object") == some true && hasDictIn K c && findIn K (.ref c) "__class__" == some (some (.builtin "object.__class__")) && findIn K (.ref c) "at" == some none && findIn K (.ref c) "side" == some none
structure XOne (K:PySem.W.Frag)(P c:Addr):Prop where
 cl:XCl K c (.ref P :: VE)
 kp:keepIn K (.ref c)=true
 gt:XGet K c
 gc:findIn K (.ref c) "__class__" = some (some (.builtin "object.__class__"))
 na:findIn K (.ref c) "at" = some none
 nd:findIn K (.ref c) "side" = some none
variable {K:PySem.W.Frag}{P:Addr}
theorem EF {c:Addr}(h:O9 K P c=true):XOne K P c:=by
 unfold O9 at h;simp only [ug5,beq_iff_eq] at h;obtain ⟨⟨⟨⟨⟨⟨⟨⟨⟨h1,h2⟩,h3⟩,h4⟩,h5⟩,h6⟩,h7⟩,h8⟩,h9⟩,h10⟩:=h;exact ⟨.of_in h1,h2,⟨h3,h4,h5,h6,h7⟩,h8,h9,h10⟩
noncomputable def FS (c1 c2 c3 c4 c5 c6 c7:Addr):Str->Addr:=λn=>if n = "NoValue" then c1 else if n = "Short" then c2 else if n = "Broken" then c3 else if n = "NoTalk" then c4 else if n = "NoName" then c5 else if n = "NoText" then c6 else c7
theorem Cu {Q:Str->Prop}(h1:Q "NoValue")(h2:Q "Short")(h3:Q "Broken")(h4:Q "NoTalk")(h5:Q "NoName")(h6:Q "NoText")(h7:Q "NoRow"):∀n∈Bc,Q n:=by
 intro n hn;simp only [Bc,uj5,uh0,or_false] at hn;rcases hn with rfl | rfl | rfl | rfl | rfl | rfl | rfl <;> assumption
def O8 (K:PySem.W.Frag)(P:Addr)(cs:List Addr):Bool:=Ly K P VE && cs.all (O9 K P)
theorem ZX {h:Heap}{mg:Str->Option Value}{c1 c2 c3 c4 c5 c6 c7:Addr}(X:K.In h)(G:h.Ns mainGlobals mg)(p:nsIn K mainGlobals "ParleyError" = some (some (.ref P)))(a1:nsIn K mainGlobals "NoValue" = some (some (.ref c1)))(a2:nsIn K mainGlobals "Short" = some (some (.ref c2)))
 (a3:nsIn K mainGlobals "Broken" = some (some (.ref c3))) (a4:nsIn K mainGlobals "NoTalk" = some (some (.ref c4))) (a5:nsIn K mainGlobals "NoName" = some (some (.ref c5))) (a6:nsIn K mainGlobals "NoText" = some (some (.ref c6))) (a7:nsIn K mainGlobals "NoRow" = some (some (.ref c7)))
 (q:O8 K P [c1,c2,c3,c4,c5,c6,c7]=true) (nd:[P,c1,c2,c3,c4,c5,c6,c7].Nodup):XM K mg P (FS c1 c2 c3 c4 c5 c6 c7):=by
 unfold O8 at q;simp only [uj7,List.all_nil,uk0,ug5] at q;obtain ⟨q0,q1,q2,q3,q4,q5,q6,q7⟩:=q;have o1:=EF q1;have o2:=EF q2;have o3:=EF q3;have o4:=EF q4;have o5:=EF q5;have o6:=EF q6;have o7:=EF q7;have inj:∀n∈Bc,∀m∈Bc,FS c1 c2 c3 c4 c5 c6 c7 n=FS c1 c2 c3 c4 c5 c6 c7 m->n=m:=by
  simp only [uh9,uj5,uh0,or_false,not_or,List.nodup_nil,and_true] at nd;obtain ⟨⟨n1,n2,n3,n4,n5,n6,n7⟩,⟨m12,m13,m14,m15,m16,m17⟩,⟨m23,m24,m25,m26,m27⟩,⟨m34,m35,m36,m37⟩,⟨m45,m46,m47⟩,⟨m56,m57⟩,m67,_⟩:=nd;have h1:FS c1 c2 c3 c4 c5 c6 c7 "NoValue" = c1:=rfl;have h2:FS c1 c2 c3 c4 c5 c6 c7 "Short" = c2:=rfl;have h3:FS c1 c2 c3 c4 c5 c6 c7 "Broken" = c3:=rfl;have h4:FS c1 c2 c3 c4 c5 c6 c7 "NoTalk" = c4:=rfl;have h5:FS c1 c2 c3 c4 c5 c6 c7 "NoName" = c5:=rfl;have h6:FS c1 c2 c3 c4 c5 c6 c7 "NoText" = c6:=rfl;have h7:FS c1 c2 c3 c4 c5 c6 c7 "NoRow" = c7:=rfl;refine Cu ?_ ?_ ?_ ?_ ?_ ?_ ?_ <;> refine Cu ?_ ?_ ?_ ?_ ?_ ?_ ?_ <;> intro e <;> first | rfl | (exfalso;rw [h1] at e) | (exfalso;rw [h2] at e) | (exfalso;rw [h3] at e) | (exfalso;rw [h4] at e) | (exfalso;rw [h5] at e) | (exfalso;rw [h6] at e) | (exfalso;rw [h7] at e)
  all_goals (first | rw [h1] at e | rw [h2] at e | rw [h3] at e | rw [h4] at e | rw [h5] at e | rw [h6] at e | rw [h7] at e)
  all_goals (first | contradiction | (have e:=e.symm;contradiction))
 refine ⟨mg_of X G p,.of_in q0,Cu a1 a2 a3 a4 a5 a6 a7,Cu (mg_of X G a1) (mg_of X G a2) (mg_of X G a3) (mg_of X G a4) (mg_of X G a5) (mg_of X G a6) (mg_of X G a7),Cu o1.cl o2.cl o3.cl o4.cl o5.cl o6.cl o7.cl,inj,?_,
  Cu o1.kp o2.kp o3.kp o4.kp o5.kp o6.kp o7.kp,Cu o1.gt o2.gt o3.gt o4.gt o5.gt o6.gt o7.gt,Cu o1.gc o2.gc o3.gc o4.gc o5.gc o6.gc o7.gc,Cu o1.na o2.na o3.na o4.na o5.na o6.na o7.na,Cu o1.nd o2.nd o3.nd o4.nd o5.nd o6.nd o7.nd⟩
 simp only [uh9,uj5,uh0,or_false,not_or] at nd;obtain ⟨⟨n1,n2,n3,n4,n5,n6,n7⟩,_⟩:=nd;exact Cu (Ne.symm n1) (Ne.symm n2) (Ne.symm n3) (Ne.symm n4) (Ne.symm n5) (Ne.symm n6) (Ne.symm n7)
noncomputable def AO (s:Stmt)(k:Nat):Stmt:=match s with
 | .ClassDef _ _ _ body _ _ _ _ _ _ _=>body.getD k (.Pass ⟨0,0,0,0⟩)
 | _=>.Pass ⟨0,0,0,0⟩
noncomputable def F0 (K:PySem.W.Frag)(C f:Addr):Bool:=match clsIn K C with
 | some cd=>nsIn K cd.ns "__init__" == some (some (.ref f))
 | none=>false
def XF1 (K:PySem.W.Frag)(C P:Addr)(qual:Str)(st:Stmt):Prop:=∃(f:Addr) (fd:FuncData),XMk K C P f/\XAt K C P "at"/\Binds K fd ["self", "at"] []/\Fun K "__init__" qual st f fd
variable {C:Addr}
theorem YC {f:Addr}{qual:Str}{st:Stmt}{od an:Option Addr}{sl:Array (Option Value)}{oc kV dc pm cd ct:Value}(o:XOne K P C)(i:F0 K C f=true)(hf:isFn K (.ref f)=true)(hs:findIn K (.ref C) "__setattr__" = some (some (.builtin "object.__setattr__")))
 (l:K.lookup f=some ⟨oc,od,.func (PySem.W.fnOf "__init__" qual (Cv st) (A8 st) (Al st) .none kV dc pm an cd ct),sl⟩) (c:codeIn K cd qual=true) (k:keepIn K (.ref f)=true)
 (hb:∀(kV doc pm:Value) (an:Option Addr) (cdv ct:Value) (us:List Value),us.length=2->bindArgs (PySem.W.fnOf "__init__" qual (Cv st) (A8 st) (Al st) .none kV doc pm an cdv ct) ⟨us,[]⟩=pure ((["self", "at"]:List Str).zip us)):XF1 K C P qual st:=by
 refine ⟨f,_,⟨o.cl,?_,hf,o.kp⟩,⟨o.cl,hs,o.na⟩,(EL (st:=st) l c k).binds (ps:=["self", "at"]) hb,EL (st:=st) l c k⟩;unfold F0 at i
 split at i
 ·next cd' e=>exact ⟨cd',e,beq_iff_eq.mp i⟩
 ·cases i
theorem R7 {prog:Program}{w:World}{mg:Str->Option Value}{base:Heap}{qual:Str}{st:Stmt}{p1 p2 p3 p4:Pos}(hbd:A8 st=[.Assign [.Attribute (.Name "self" p1) "at" p2] (.Name "at" p3) p4])(S:FnScope ["self", "at"] ["self", "at"] (Al st))
 (s1:(Al st).names.lookup ("self" : Str)=some NameKind.local) (s2:(Al st).names.lookup ("at" : Str)=some NameKind.local) (x:XF1 K C P qual st):XN1 prog w K mg base C P:=by
 obtain ⟨f,fd,M,A,B,F⟩:=x;refine ⟨f,fd,_,M,A,B,F.ok (k:=0) S (λvs H Q E h=>?_) λcdv A' outer s H vs Q E hr h=>?_⟩
 ·obtain ⟨y,C',tp,v,rfl,_⟩:=h;rfl
 ·rw [hbd];refine ⟨_,F7 (OI (P:=P) (Cm (i:=0) rfl (.inl s1) (by decide) (by decide)) (Cm (i:=1) rfl (.inl s2) (by decide) (by decide)) rfl),?_⟩;obtain ⟨y,C',tp,v,rfl,hy,ha,k⟩:=h;exact ⟨v,rfl,.ref y,rfl,y,C',tp,rfl,hy,ha,λdx h1 h2=>k dx h1 h2⟩
noncomputable def Jp (K:PySem.W.Frag)(C:Addr):Bool:=match clsIn K C with
 | some cd=>nsIn K cd.ns "__init__" == some none
 | none=>false
theorem Q6 (h:Jp K C=true):XN0 K C:=by
 unfold Jp at h
 split at h
 ·next cd e=>exact ⟨cd,e,beq_iff_eq.mp h⟩
 ·cases h
end F2
namespace F2
open PySem L2 PySem.Spec PySem.W
inductive Kd where
 | pl | fr | ex | er
abbrev okK (k:Kd)(P:Program)(w:World)(K:PySem.W.Frag)(mg:Str->Option Value)(base:Heap)(n:Nat)(fa:Addr)(fd:FuncData)(ps:List Str)(f:Fn):Prop:=match k with
 | .pl=>FnOk P w K mg base CX0 n fa fd ps (spF K f)
 | .fr=>FnOk P w K mg base CX0 n fa fd ps (spFF K f)
 | .ex=>FnOk P w K mg base (CX1 true P w) n fa fd ps (spX K f)
 | .er=>FnOk P w K mg base (CX1 false P w) n fa fd ps (spX K f)
section
variable {X:Cx}{e a b:Expr}{pos:Pos}{f g:M D}
theorem Nv {E:XK}(h:PE X e (RE X.K f)):PS X (.Return (some e) pos) (RSg X.K (μX X.K E) (Ap (nxD f))):=
 Bb (Hq h) λD σ H z9=>by
  obtain ⟨Oo,c,t,fi,o,t',eq,k⟩:=z9;obtain ⟨d,t1,e1,eq⟩:=Ae eq
  cases eq
  obtain ⟨e2,e3⟩:=Ms e1;exact ⟨Oo,c,t,fi,d,_,e2,λv H1 c1 f1 s1 rv=>P0 e3 (k σ H1 c1 f1 s1 v rv)⟩
end
theorem Xi {K:PySem.W.Frag}:∀(c:Cf) (H:Hp) (r:D) (rt:V->Hp->Prop),A9 r=false->(∀v,Rep K c H v r->rt v H)=μR K c H r rt:=λ_ _ _ _ _=>rfl
theorem Xj {K:PySem.W.Frag}{E:XK}:∀(c:Cf) (H:Hp) (r:D) (rt:V->Hp->Prop),A9 r=false->(∀v,Rep K c H v r->rt v H)=μX K E c H r rt:=λc H r rt h=>by
 unfold μX;rw [h];rfl
variable {qx:Bool}
section
variable {X:Cx}{P:Addr}{ca:Str->Addr}{a:Expr}{es:List Expr}{f:M D}{p pos q:Pos}{i:Nat}{ns:List Str}
end
end F2
namespace F2
open PySem L2 PySem.Spec SeqAt
end F2
namespace L2
open PySem PySem.Spec PyProof.Rows PySem.W PySem.Builtin PySem.Builtin.ObjectAttr
variable {qx:Bool}
section
variable {prog:Program}{w:World}{A:Around}{s:Shared}{K:PySem.W.Frag}{x C P dx:Addr}{ox:Obj}{od:Option Obj}{R:Result->Shared->Prop}{name:Str}{v:Value}{tk:Tok}{cd:ClassData}
theorem Sz (X:K.In s.heap)(I:InstAt s.heap x ox C od)(hc:clsIn K C=some cd)(hmr:cd.mro=FJ C P)(ha:findIn K (.ref C) name=some none)
 (h:wpAny (model prog w) A.in1 (storeInOwnDict (.ref x) (.ref C) (.str name tk) name v false) (λfin s'=>match fin with | .done f=>R (.ok f) s' | .again c'=>c'.quiet=true/\codeAny (model prog w) A c' R s') (λe s'=>R (.error e) s') s) :
 codeAny (model prog w) A (.call (.builtin "object.__setattr__") ⟨[.ref x,.str name tk,v],[]⟩) R s:=by
 have SF:=PySem.F.store_object;have ob:Looks (model prog w) s.heap (isInstance (.ref x) (.type "object")) true:=I.type.andThen (looks_mroIn X (by unfold mroIn;rw [hc,uh1,hmr];rfl));refine codeAny_call_builtin SF.slot.plain SF.entry (@check_slot (model prog w) _ _ s "object.__setattr__" "object" "__setattr__" (.ref x) [.str name tk,v] [] _ SF.kind SF.split ob (SF.args (.ref x) (.str name tk) v) ?_);have mr:Looks (model prog w) s.heap (mroOf (.ref C)) (FJ C P):=by rw [<-hmr];exact (looks_clsIn X hc).andThen .now
 rw [osa_eq,refuse_eq];refine um0 (um0 (I.type.here (um0 (mr.here ?_))));rw [Js];refine um1 (um0 (I.type.here (um0 ((looks_findIn X ha).here ?_))));exact um0 (um1 h)
theorem S8 {E:Value->Shared->Prop}{Q:Unit->Shared->Prop}{m:Str->Option Value}{a:Str}{oD:Obj}(X:K.In s.heap)(hx:s.heap.get? x=some ox)(hcl:ox.cls = .ref C)(hno:notCls ox=true)(hod:ox.dict=some dx)(hdx:s.heap.get? dx=some oD)(n1:s.heap.Ns1 dx m)(hm:PySem.Within m [a])(hs:findIn K (.ref C) "__setattr__" = some (some (.builtin "object.__setattr__")))(hc:clsIn K C=some cd)(hmr:cd.mro=FJ C P)(hd:cd.hasDict=true)(ha:findIn K (.ref C) name=some none)
 (h:∀h',(∀b o,b≠dx->s.heap.get? b=some o->h'.get? b=some o)->h'.Ns1 dx (λy=>if y=name then some v else m y)->Q () { s with heap:=h',toks:=s.toks + 2 }) :
 wpAny (model prog w) A (setAttr (.ref x) name v) Q E s:=by
 have I:InstAt s.heap x ox C (some oD):=⟨hx,hcl,hno,by rw [hod];exact hdx⟩;refine set_plain X I hs (Sz (s:={ s with toks:=s.toks + 1 }) X I hc hmr ha ?_);refine um0 (um1 (um0 (um0 (wpAny_loadPart (s:={ s with toks:=s.toks + 1 }) hx ?_))));rw [hod,hcl];refine um0 (Looks.here (s:={ s with toks:=s.toks + 1 }) (looks_clsIn X hc) ?_);rw [hd,if_neg (by decide)];refine um1 ?_;refine um0 (um1 (um0 ?_));refine wpAny_nsSet1 n1 λh' n2 sb=>?_;obtain ⟨oD,esD,epD,hoD,hdD,hcD⟩:=n2.count (PySem.Within.cons name v hm);refine um0 (wpAny_lookBehind hoD (by rw [hdD];exact pastItsLine_dict (uk7 hcD (by show 2<=_;decide))) ?_);exact um1 (h h' (λb o hb e=>(sb.2 b hb).trans e) n2)
end
def ay (K:PySem.W.Frag)(P:Addr)(ta tv:TE)(f1 f:Str):TS:=λD σ H=>tv σ H λy H1=>ta σ H1 λx H2=>∃a C tp dx y1,x = .ref a/\H2 a=some (ER a C tp dx)/\H2 dx=some (.xd [(f1,y1)])/\dx≠a/\XAt K C P f/\D.nx σ (upd H2 dx (.xd [(f1,y1),(f,y)]))
theorem Qy {X:Cx}{P:Addr}{o value:Expr}{ta tv:TE}{f1 f:Str}{pos' pos:Pos}(hf:f1≠f)(ha:PE X o ta)(hv:PE X value tv)(hs:swapsWith value (some (.Attribute o f pos')) pos.line X.env=pure false):PS X (.Assign [.Attribute o f pos'] value pos) (ay X.K P ta tv f1 f):=by
 intro pins s σ H D I h;refine plainObj_wpAny_Assign_Attribute (thn (hv pins s σ H _ I h) λu s1 ⟨y,H1,I1,ry,q⟩=>thn (ha pins s1 σ H1 _ I1 q) λov s2 z9=>?_) hs;obtain ⟨x,H2,I2,rx,a,C,tp,dx,y1,ex,ea,ed,ne,c,q2⟩:=z9;subst ex;obtain rfl:ov=Value.ref a:=rx;obtain ⟨cd,c1,c2,c3⟩:=c.cl.cls;have hx:s2.heap.get? a=some { excObj C tp with dict:=some dx }:=(I2.hok a _ ea).1;obtain ⟨m,n1,rm⟩:=(show ObjOk X.prog X.w H2 s2.heap dx (.xd [(f1,y1)]) from I2.hok dx _ ed);obtain ⟨oD,ho,_⟩:=FO n1;have hw:PySem.Within m [f1]:=λg hg=>by
  by_cases e:g=f1
  ·simp [e]
  ·exfalso;have z:=rm g;have hgb:(g == f1)=false:=beq_eq_false_iff_ne.mpr e;simp only [List.lookup,hgb] at z
   cases hm:m g with
   | none=>exact hg hm
   | some u=>rw [hm] at z;exact z
 refine S8 I2.kIn hx rfl rfl rfl ho n1 hw c.set c1 c2 c3 c.no λh' k n=>?_;have na:∀b u,s2.heap.get? b=some u->H2 b=none->b≠dx:=λb u _ z w'=>by rw [w',ed] at z;cases z
 refine ⟨σ,_,I2.un (h':=h') (t':=s2.toks + 2) ⟨λb u e1 e2 _ _=>k b u (na b u e1 e2) e1,λb u e1 e2 _ _=>⟨u.slots,k b u (na b u e1 e2) e1⟩,λb u e1 e2 _=>?_,λb u e1 _=>?_,λb xs e1=>?_,λb o' u e1=>?_,λb ps e1=>⟨#[],?_⟩⟩ λb u e1=>?_,q2⟩
 ·rw [Ag (na b u e1 e2)];exact e2
 ·by_cases hb:b=dx
  ·subst hb;obtain ⟨od',es,ep,e,_⟩:=n;exact ⟨_,e⟩
  ·exact ⟨_,k b u hb e1⟩
 ·rw [Ag (λz=>by rw [z,ed] at e1;cases e1)];exact e1
 ·rw [Ag (λz=>by rw [z,ed] at e1;cases e1)];exact e1
 ·rw [Ag (λz=>by rw [z,ed] at e1;cases e1),e1];simp
 ·by_cases hb:b=dx
  ·subst hb;rw [Aj] at e1;cases e1
   refine ⟨_,n,λg=>?_⟩
   by_cases hg:g=f
   ·subst hg;have hgb:(g == f1)=false:=beq_eq_false_iff_ne.mpr (Ne.symm hf);simp only [List.lookup,hgb,uh3,if_true];exact ry
   ·have hgb:(g == f)=false:=beq_eq_false_iff_ne.mpr hg;have z:=rm g
    by_cases hg1:g=f1
    ·subst hg1;simp only [List.lookup,uh3] at z;simp only [List.lookup,uh3,if_neg hg];exact z
    ·have hgb1:(g == f1)=false:=beq_eq_false_iff_ne.mpr hg1;simp only [List.lookup,hgb1] at z;simp only [List.lookup,hgb,hgb1,if_neg hg];exact z
  ·rw [Ag hb] at e1;refine (I2.hok b u e1).stay (λz v hz q=>k z v ?_ q) (λz q=>?_) λz xs q=>?_
   ·rcases hz with rfl | hz
    ·exact hb
    ·intro w';rw [w',ed] at hz;cases hz
   ·rw [Ag (λz=>by rw [z,ed] at q;cases q)];exact q
   ·rw [Ag (λz=>by rw [z,ed] at q;cases q)];exact q
def Hs (K:PySem.W.Frag)(P:Addr)(a b:Str):Sp:=λvs H Q _=>∃x C tp v u,vs=[.ref x,v,u]/\H x=some (exO x C tp)/\XAt K C P a/\XAt K C P b/\∀dx,H dx=none->dx≠x->Q .non (upd (upd H dx (.xd [(a,v),(b,u)])) x (ER x C tp dx))
section
variable {X:Cx}{k:Nat}{f C P:Addr}{fd:FuncData}{pins:List (Addr×Obj)}{σ:St}{H:Hp}{s:Shared}{Q:Value->Shared->Prop}{us:List Value}{vs:List V}{a b:Str}{ps:List Str}{v v2:V}{u u2:Value}
theorem OR (M:XMk X.K C P f)(ha:XAt X.K C P a)(hab:XAt X.K C P b)(F:FnOk X.prog X.w X.K X.mg X.base CX0 k f fd ps (Hs X.K P a b))(hr:Room (k + 1) X.A)(hb:Binds X.K fd ps [])(I:Inv X pins σ H s)(r:RelV v u)(rr:RelV v2 u2)
 (h:∀s' x dx,Inv X pins σ (upd (upd H dx (.xd [(a,v),(b,v2)])) x (.ext (F2.XIs qx x C (some dx)))) s'->H x=none->H dx=none->dx≠x->s.heap.objs.size<=x->XRec true s'.heap x C (some dx) .none->Q (.ref x) s'):wpAny (model X.prog X.w) X.A (call (.ref C) [u,u2]) Q X.xe s:=by
 obtain ⟨nm,q,N,bs,sn,sub,ab,col,dd,k0,k1,k2,k3,k5,hC,hN⟩:=M.cl.obj I.kIn;have hni:s.heap.nsMap N "__init__" = some (.ref f):=by
  obtain ⟨cd,c1,c2⟩:=M.init;refine GC I.kIn hN ?_;unfold clsIn at c1
  split at c1
  ·next l=>
   cases c1
   have z:=I.kIn _ _ l;rw [hC] at z
   cases z
   exact c2
  ·cases c1
 have I1:Inv X pins σ (upd H (s.heap.objs.size + 1) (exO (s.heap.objs.size + 1) C s.heap.objs.size)) { s with heap:=DB s.heap C [u,u2] }:=by
  refine I.laid (t':=s.toks) (λb o e=>ub9 _ (ub9 _ e)) (ul7 _) (L8 ?_);show ((s.heap.push _).push _).get? _=_
  heap_get
 have hx0:=I.hok.fresh (ul7 s.heap.objs.size);have r2:Vals [V.ref (s.heap.objs.size + 1),v,v2] [Value.ref (s.heap.objs.size + 1),u,u2]:=.cons rfl (.cons r (.cons rr .nil));have hsp:Hs X.K P a b [V.ref (s.heap.objs.size + 1),v,v2] (upd H (s.heap.objs.size + 1) (exO (s.heap.objs.size + 1) C s.heap.objs.size))
  (λw' H'=>w' = .non/\∃dx,H dx=none/\dx≠s.heap.objs.size + 1/\H'=upd (upd H dx (.xd [(a,v),(b,v2)])) (s.heap.objs.size + 1) (ER (s.heap.objs.size + 1) C s.heap.objs.size dx)) E0:=by
  refine ⟨_,C,s.heap.objs.size,v,v2,rfl,Aj,ha,hab,λdx h1 h2=>⟨rfl,dx,by rw [Ag h2] at h1;exact h1,h2,?_⟩⟩
  funext b
  by_cases e1:b=s.heap.objs.size + 1
  ·subst e1;rw [Aj,Aj]
  ·by_cases e2:b=dx
   ·subst e2;rw [Ag e1,Ag e1,Aj,Aj]
   ·rw [Ag e1,Ag e1,Ag e2,Ag e2,Ag e1]
 have hl:([Value.ref (s.heap.objs.size + 1),u,u2]++[]).length=ps.length:=by
  have e:=F.len _ _ _ _ hsp;simpa using e
 obtain ⟨hh,g,d,t,os⟩:=s;refine wpAny_call (Iy ua6 (M.cl.tail I.kIn) hC hN hni ((bind_fn I.kIn _ (beq_iff_eq.mp M.fn))) (by show 2<=sizeLine;decide) ?_);refine codeAny_mono (F.run _ X.stack _ _ ⟨[Value.ref (hh.objs.size + 1),u,u2],[]⟩ [Value.ref (hh.objs.size + 1),u,u2] _ _ E0 (hr.make C [u,u2] []) (I1.env0.make C [u,u2] []) (by have:=hb _ [Value.ref (hh.objs.size + 1),u,u2] I1.kIn hl;simpa using this) r2 hsp) λr s' hq'=>?_
 cases r with
 | error e=>exact hq'.elim
 | ok fl=>
   cases fl with
   | ret w'=>
     obtain ⟨v',H',I3,rv,rfl,dx,d1,d2,rfl⟩:=I1.after hq';refine ⟨rv,?_⟩;have hx:=(I3.hok (hh.objs.size + 1) _ Aj).1;have hx:s'.heap.get? (hh.objs.size + 1)=some { excObj C hh.objs.size with dict:=some dx }:=hx;have xr:XRec true s'.heap (hh.objs.size + 1) C (some dx) .none:=⟨_,_,hx,rfl,rfl,rfl,rfl,λ_=>⟨rfl,by show 4 < 6;decide⟩⟩;have I4:=I3.write (x:=hh.objs.size + 1) (e:=hh.objs.size + 1) (o:=.ext (F2.XIs qx (hh.objs.size + 1) C (some dx))) (h':=s'.heap) (t':=s'.toks) (by rw [Aj];trivial) (.inl rfl) (λ_ _ _ z=>z) ⟨_,hx⟩ (G9 xr.to.is);rw [Km] at I4;exact h s' (hh.objs.size + 1) dx I4 hx0 d1 d2 (ul7 _) xr
   | next=>exact False.elim hq'
   | brk=>exact False.elim hq'
   | cont=>exact False.elim hq'
end
section
variable {X:Cx}{k:Nat}{f C P:Addr}{fd:FuncData}{a b:Str}{ps:List Str}{n:Str}{p pos:Pos}{e e':Expr}
theorem XN {t:TA}(M:XMk X.K C P f)(ha:XAt X.K C P a)(hab:XAt X.K C P b)(F:FnOk X.prog X.w X.K X.mg X.base CX0 k f fd ps (Hs X.K P a b))(hr:Room (k + 1) X.A)(hb:Binds X.K fd ps [])(hg:Gl X n)(hm:X.mg n=some (.ref C))(hA:PA X [e,e'] t)
 (hdb:(n == ("__debug__" : Str))=false:=by decide) (h1:starEach [e,e'] X.env=(false,eval e X.env) :: starEach [e'] X.env:=by rfl) (hpl:(backTo pos (starEach [e'] X.env)).any (·.1)=false:=by rfl) :
 PM qx X (.Call (.Name n p) [e,e'] [] pos) C (λσ H Q=>t σ H λvs H1=>∃v u,vs=[v,u]/\∀x dx,H1 x=none->H1 dx=none->dx≠x->Q x (some dx) (upd (upd H1 dx (.xd [(a,v),(b,u)])) x (.ext (F2.XIs qx x C (some dx))))):=by
 intro pins s σ H Q I h;refine wpAny_Call_Name_kw (Ch I hg hm ?_ hdb);refine ue2 (h₀:=X.base) I.ok.mod.kin M.kp (thn (hA pos pins s σ H _ I h) λus s1 z9=>?_) h1 hpl;obtain ⟨vs,H1,I1,r,v,u,ev,q⟩:=z9;refine ⟨I1.kIn,?_⟩;subst ev
 cases r with
 | cons r0 rs=>
   cases rs with
   | cons r1 rs=>
     cases rs
     exact OR M ha hab F hr hb I1 r0 r1 λs' x dx I' hx hdx ne nx rc=>⟨x,some dx,_,rfl,I',Aj,uk7 I1.sz nx,rc,q x dx hx hdx ne⟩
end
end L2
namespace F2
open PySem L2 PySem.Spec PySem.W
variable {qx:Bool}
section
variable {X:Cx}{e e':Expr}{pos p pos2:Pos}{E:L2.St->XK}{P:Addr}{ca:Str->Addr}
def XN2 (prog:Program)(w:World)(K:PySem.W.Frag)(mg:Str->Option Value)(base:Heap)(C P:Addr):Prop:=
 ∃(f:Addr) (fd:FuncData) (ps:List Str),XMk K C P f/\XAt K C P "at"/\XAt K C P "side"/\Binds K fd ps []/\FnOk prog w K mg base CX0 1 f fd ps (Hs K P "at" "side")
def Do (n:Str)(f:M (List D)):M Out:=bnd f λds=>match ds with
 | [d,d']=>ret (.ret (.exc n [d,d']))
 | _=>fail
theorem PJ {f:M (List D)}(x:XM X.K X.mg P ca)(xn:XN2 X.prog X.w X.K X.mg X.base (ca "Broken") P)(hr:L2.Room 2 X.A)(hc:X.calm=true)(hx:Fe qx X E)(hg:Gl X "Broken")(ha:PA X [e,e'] (RA X.K f))
 (h1:AZ e=false:=by rfl) (h2:A6 [e']=true:=by rfl):PS X (.Raise (some (.Call (.Name "Broken" p) [e,e'] [] pos)) none pos2) (RSX X.K E (Do "Broken" f)):=by
 obtain ⟨fa,fd,ps,M,A,A2,B,F⟩:=xn;have hn:("Broken" : Str)∈Bc:=by decide
 refine Bb (IE hc M.cl hx (XN M A A2 F hr B hg (x.ms _ hn) ha (by decide) (AR h1) (AS h2).1)) λD σ H z9=>?_;obtain ⟨Oo,c,t,fi,o,t',eq,k⟩:=z9;obtain ⟨ds,t1,e1,eq⟩:=Ae eq;refine ⟨Oo,c,t,fi,ds,t1,e1,λvs H1 c1 f1 s1 rvs=>?_⟩;rcases ds with _ | ⟨d,_ | ⟨d',_ | ⟨_,_⟩⟩⟩
 ·cases eq
 ·cases eq
 ·cases rvs with
  | @cons v0 _ _ _ rv r=>
  cases r with
  | @cons v1 _ _ _ rv1 r=>
  cases r
  cases eq
  refine ⟨_,_,rfl,λy dx hy hdx ne=>?_⟩;have f2:=f1.laid (o:=.xd [("at",v0),("side",v1)]) hdx;have hy2:upd H1 dx (.xd [("at",v0),("side",v1)]) y=none:=by rw [Ag (Ne.symm ne)];exact hy
  have f3:=f2.laid (o:=.ext (XIs qx y (ca "Broken") (some dx))) hy2;have ex:=(f1.stp_laid (o:=.xd [("at",v0),("side",v1)]) hdx).ext.trans (f2.stp_laid (o:=.ext (XIs qx y (ca "Broken") (some dx))) hy2).ext;have s3:=s1.trans ((f1.stp_laid (o:=.xd [("at",v0),("side",v1)]) hdx).trans (f2.stp_laid (o:=.ext (XIs qx y (ca "Broken") (some dx))) hy2));refine k σ _ c1 f3 s3 (.ref y) (.exc (x.ns _ hn) Aj (f2.s.free hy2) ?_ (.cons (rv.mono ex) (.cons (rv1.mono ex) .nil))) y (some dx) rfl;exact ⟨by rw [Ag ne,Aj];rfl,f1.s.free hdx⟩
 ·cases eq
end
def XF2 (K:PySem.W.Frag)(C P:Addr)(qual:Str)(st:Stmt):Prop:=∃(f:Addr) (fd:FuncData),XMk K C P f/\XAt K C P "at"/\XAt K C P "side"/\Binds K fd ["self", "at", "side"] []/\Fun K "__init__" qual st f fd
theorem YD {K:PySem.W.Frag}{C P f:Addr}{qual:Str}{st:Stmt}{od an:Option Addr}{sl:Array (Option Value)}{oc kV dc pm cd ct:Value}(o:XOne K P C)(i:F0 K C f=true)(hf:isFn K (.ref f)=true)(hs:findIn K (.ref C) "__setattr__" = some (some (.builtin "object.__setattr__")))
 (l:K.lookup f=some ⟨oc,od,.func (PySem.W.fnOf "__init__" qual (Cv st) (A8 st) (Al st) .none kV dc pm an cd ct),sl⟩) (c:codeIn K cd qual=true) (k:keepIn K (.ref f)=true)
 (hb:∀(kV doc pm:Value) (an:Option Addr) (cdv ct:Value) (us:List Value),us.length=3->bindArgs (PySem.W.fnOf "__init__" qual (Cv st) (A8 st) (Al st) .none kV doc pm an cdv ct) ⟨us,[]⟩=pure ((["self", "at", "side"]:List Str).zip us)):XF2 K C P qual st:=by
 refine ⟨f,_,⟨o.cl,?_,hf,o.kp⟩,⟨o.cl,hs,o.na⟩,⟨o.cl,hs,o.nd⟩,(EL (st:=st) l c k).binds (ps:=["self", "at", "side"]) hb,EL (st:=st) l c k⟩;unfold F0 at i
 split at i
 ·next cd' e=>exact ⟨cd',e,beq_iff_eq.mp i⟩
 ·cases i
theorem R8 {prog:Program}{w:World}{K:PySem.W.Frag}{mg:Str->Option Value}{base:Heap}{C P:Addr}{qual:Str}{st:Stmt}{p1 p2 p3 p4 p5 p6 p7 p8:Pos}(hbd:A8 st=[.Assign [.Attribute (.Name "self" p1) "at" p2] (.Name "at" p3) p4,.Assign [.Attribute (.Name "self" p5) "side" p6] (.Name "side" p7) p8])(S:FnScope ["self", "at", "side"] ["self", "at", "side"] (Al st))
 (s1:(Al st).names.lookup ("self" : Str)=some NameKind.local) (s2:(Al st).names.lookup ("at" : Str)=some NameKind.local) (s3:(Al st).names.lookup ("side" : Str)=some NameKind.local) (x:XF2 K C P qual st):XN2 prog w K mg base C P:=by
 obtain ⟨f,fd,M,A,A2,B,F⟩:=x;refine ⟨f,fd,_,M,A,A2,B,F.ok (k:=0) S (λvs H Q E h=>?_) λcdv A' outer s H vs Q E hr h=>?_⟩
 ·obtain ⟨y,C',tp,v,u,rfl,_⟩:=h;rfl
 ·rw [hbd];refine ⟨_,IF (OI (P:=P) (Cm (i:=0) rfl (.inl s1) (by decide) (by decide)) (Cm (i:=1) rfl (.inl s2) (by decide) (by decide)) rfl) (F7 (Qy (P:=P) (f1:="at") (by decide) (Cm (i:=0) rfl (.inl s1) (by decide) (by decide)) (Cm (i:=2) rfl (.inl s3) (by decide) (by decide)) rfl)),?_⟩;obtain ⟨y,C',tp,v,u,rfl,hy,ha,ha2,k⟩:=h;refine ⟨v,rfl,.ref y,rfl,y,C',tp,rfl,hy,ha,λdx h1 h2=>⟨u,rfl,.ref y,rfl,y,C',tp,dx,v,rfl,Aj,by rw [Ag h2,Aj],h2,ha2,?_⟩⟩;have z:=k dx h1 h2;have e:upd (upd (upd H dx (.xd [("at",v)])) y (ER y C' tp dx)) dx (.xd [("at",v),("side",u)])=upd (upd H dx (.xd [("at",v),("side",u)])) y (ER y C' tp dx):=by
   funext b
   by_cases e1:b=dx
   ·subst e1;rw [Aj,Ag h2,Aj]
   ·by_cases e2:b=y
    ·subst e2;rw [Ag e1,Aj,Aj]
    ·rw [Ag e1,Ag e2,Ag e1,Ag e2,Ag e1]
  rw [e];exact z
end F2
namespace L2
open PySem PySem.Spec PyProof.Rows PySem.W
end L2
namespace F2
open PySem L2 PySem.Spec
section
variable {X:Cx}{a b:Expr}{pos:Pos}
end
end F2
namespace L2
open PySem PySem.Spec PyProof.Rows PySem.W
theorem Ld:entryFor table "proto.unchain" = some Builtin.«proto.unchain»:=entryFor_of_tree (by kernel_rfl)
section
variable {prog:Program}{w:World}{A:Around}{E:Value->Shared->Prop}{env:Env}{K:PySem.W.Frag}{C:Addr}{bm:List Value}{s:Shared}
theorem O0 {x y:Addr}{ox:Obj}{vx:Array Value}{Q:Value->Shared->Prop}(gx:s.heap.get? x=some ox)(dx:ox.data = .fields vx)(x2:vx[2]?=some .none)(h:Q .none s) :
 wpAny (model prog w) A (runValue (.builtin "proto.unchain" ⟨[.ref y,.ref x,.ref x,.bool false],[]⟩)) Q E s:=by
 refine runValue_entry Ld ?_;unfold Builtin.«proto.unchain»;refine um0 (ul9 gx dx x2 ?_);rw [if_pos (by decide)];refine um0 (um1 (um1 ⟨_,rfl,h⟩))
theorem SR {t c0:Sem Value}{x:Addr}{Q:Flow->Shared->Prop}(c:XCl K C bm)(hh:A.handled=some (.ref x))
 (hc0:∀(s:Shared) (Q:Value->Shared->Prop) (E:Value->Shared->Prop),Q Value.none s->wpAny (model prog w) A c0 Q E s)
 (h:wpAny (model prog w) A t (λv s1=>∃y dy ox vx,v = .ref y/\y≠x/\K.In s1.heap/\XRec true s1.heap y C dy .none/\s1.heap.get? x=some ox/\ox.data = .fields vx/\vx[2]?=some .none/\
   ∀h',XRec false h' y C dy .none->(∀b,b≠y->h'.get? b=s1.heap.get? b)->E v { s1 with heap:=h' }) E s):wpAny (model prog w) A (raiseStmt env (some t) (some c0)) Q E s:=by
 unfold raiseStmt;refine um0 (um2 h (λv s1 q=>?_) λ_ _ z=>z);obtain ⟨y,dy,ox,vx,rfl,ne,X,⟨o,vs,hx,hc,hd,hdt,h1,h2⟩,gx,dx,x2,hE⟩:=q;obtain ⟨h2,h4⟩:=h2 rfl;obtain ⟨nm,q,N,bs,sn,sub,ab,col,dd,k0,k1,k2,k3,k5,hC,_⟩:=c.obj X;have hb:=c.has X;obtain ⟨hp,g,d,tk,os⟩:=s1;refine um0 (uk4 (hc0 _ _ _ (um0 (um1 ?_))))
 repeat (first
  | (with_reducible refine wpAny_loadPart_at hx ?_;rw [hc])
  | with_reducible refine wpAny_loadPart_at hC ?_
  | (with_reducible refine wpAny_isSubtype_exc hC ?_;rw [hb])
  | with_reducible refine ul9 hx hdt h1 ?_
  | wp_step)
 have nC:C≠y:=by
  rintro rfl;rw [hC] at hx
  cases hx
  cases hdt
 rw [hdt];show wpAny _ _ (if 3 < vs.size then _ else _) _ _ _;rw [if_pos (Nat.lt_of_succ_lt h4)];refine wpAny_update hx ?_;obtain ⟨m1,m2,m3⟩:=Fr hdt (·.setIfInBounds 3 Value.none);have hx1:=uc8 (Obj.mapFields (·.setIfInBounds 3 Value.none)) hx (Obj.isFreed_of_fields m1);refine um0 (wpAny_setField hx1 m1 (by rw [ub4];exact h4) ?_);obtain ⟨n1,n2,n3⟩:=Fr m1 (·.setIfInBounds 4 (Value.bool true));have hx2:=uc8 (Obj.mapFields (·.setIfInBounds 4 (Value.bool true))) hx1 (Obj.isFreed_of_fields n1);have oth:∀b,b≠y->((hp.update y (Obj.mapFields (·.setIfInBounds 3 Value.none))).update y (Obj.mapFields (·.setIfInBounds 4 (Value.bool true)))).get? b=hp.get? b:=λb z=>by
  rw [uc1 _ _ (Ne.symm z),uc1 _ _ (Ne.symm z)]
 have hC2:=(oth C nC).trans hC;have gx2:=(oth x (Ne.symm ne)).trans gx;have hc2:=n2.trans (m2.trans hc);have hd2:=n3.trans (m3.trans hd);have t1:((vs.setIfInBounds 3 Value.none).setIfInBounds 4 (Value.bool true))[1]?=some .none:=by
  rw [ua1 (by decide),ua1 (by decide)];exact h1
 have t4:2 < ((vs.setIfInBounds 3 Value.none).setIfInBounds 4 (Value.bool true)).size:=by
  rw [ub4,ub4];lia
 show wpAny (model prog w) A _ Q E ⟨(hp.update y (Obj.mapFields (·.setIfInBounds 3 Value.none))).update y (Obj.mapFields (·.setIfInBounds 4 (Value.bool true))),g,d,tk,os⟩;generalize (hp.update y (Obj.mapFields (·.setIfInBounds 3 Value.none))).update y (Obj.mapFields (·.setIfInBounds 4 (Value.bool true)))=h3 at hx2 oth hC2 gx2;generalize ((o.mapFields (·.setIfInBounds 3 Value.none)).mapFields (·.setIfInBounds 4 (Value.bool true)))=o2 at hx2 hc2 hd2 n1;generalize ((vs.setIfInBounds 3 Value.none).setIfInBounds 4 (Value.bool true))=vs2 at n1 t1 t4;clear hx1 m1 m2 m3 n2 n3
 repeat (first
  | (with_reducible refine wpAny_loadPart_at hx2 ?_;rw [hc2])
  | with_reducible refine wpAny_loadPart_at hC2 ?_
  | (with_reducible refine wpAny_isSubtype_exc hC2 ?_;rw [hb])
  | with_reducible refine ul9 hx2 n1 t1 ?_
  | wp_step)
 unfold raiseNew;refine um0 (wpAny_handled ?_);rw [hh];dsimp only;rw [if_pos (by simpa using Ne.symm ne)];refine um0 (uk4 (O0 gx2 dx x2 (um0 ?_)));obtain ⟨z1,z2,z3⟩:=Fr n1 (·.setIfInBounds 2 (Value.ref x));refine wpAny_setField hx2 n1 t4 ?_;have hx3:=uc8 (Obj.mapFields (·.setIfInBounds 2 (Value.ref x))) hx2 (Obj.isFreed_of_fields z1);refine wpAny_throw (hE _ ⟨_,_,hx3,z2.trans hc2,z3.trans hd2,z1,?_,λz=>by cases z⟩ λb hb'=>?_)
 ·rw [ua1 (by decide)];exact t1
 ·rw [uc1 _ _ (Ne.symm hb')];exact oth b hb'
end
section
variable {X:Cx}{pins:List (Addr×Obj)}{σ:St}{H:Hp}{s s':Shared}{qx:Bool}{x C:Addr}{dx T:Option Addr}{fl:Value}
theorem XOn.keep (I:Inv X pins σ H s)(o:XOn qx X pins H s x C dx T fl)(k:∀b,b≠X.env.locals->(∀z c,X.env.cells.lookup z=some c->c≠b)->s'.heap.get? b=s.heap.get? b):XOn qx X pins H s' x C dx T fl:=by
 obtain ⟨ox,vs,gx,cx,dxe,dtx,tbx,xc⟩:=id o.rc;have nl:x≠X.env.locals:=λz=>by have:=o.hx;rw [z,I.free] at this;cases this
 have nc:∀z c,X.env.cells.lookup z=some c->c≠x:=λz c e w=>by
  have:=o.hx;rw [<-w,I.freeC z c e] at this
  cases this
 refine ⟨o.hx,o.nx,⟨ox,vs,(k x nl nc).trans gx,cx,dxe,dtx,tbx,xc⟩,λa e=>?_,o.fo⟩;obtain ⟨z1,z2,z3,⟨y1,y2,y3⟩,ot,ts,gT,dT,t3⟩:=o.tb a e;exact ⟨z1,z2,z3,⟨y1,y2,y3⟩,ot,ts,(k a y1 y2).trans gT,dT,t3⟩
theorem QZ {M:Model}{A:Around}{E:Value->Shared->Prop}{i:Nat}{n:Str}{pos:Pos}{Q:Unit->Shared->Prop}(I:Inv X pins σ H s)(hN:X.N.Nodup)(hi:X.N[i]?=some n)(hk:X.env.scope.names.lookup n=some .local)
 (h:∀s',Inv X pins (σ.set i none) H s'->(∀b,b≠X.env.locals->(∀z c,X.env.cells.lookup z=some c->c≠b)->s'.heap.get? b=s.heap.get? b)->Q () s'):wpAny M A (do bindName X.env n .none;unbindBehindTheSuite X.env n pos) Q E s:=by
 refine um0 (wpAny_bindName (KZ (v:=.non) I hN hi (.inl hk) rfl (λs1 I1 sb1=>?_) (.inr hk)));obtain ⟨a1,sb1,ha1⟩:=sb1;unfold unbindBehindTheSuite;have hiσ:i < σ.length:=by rw [I.len];exact (ua9.mp hi).1
 obtain ⟨m,hn,hl⟩:=id I1.loc;have hcls:(X.env.scope.kind == .class || (X.env.scope.kind == .module && X.env.locals != X.env.globals))=false:=by rw [I.ok.kind];rfl
 obtain ⟨u0,_,lk⟩:=hl i n .non hi (by rw [ub8 hiσ]) (.inl hk);have hv:m n=some u0:=by
  rcases lk with ⟨_,e⟩ | ⟨k,_⟩
  ·exact e
  ·have k:X.env.scope.names.lookup n=some .cell\/X.env.scope.names.lookup n=some .free:=k;rw [hk] at k;rcases k with k | k <;> cases k
 refine wpAny_onRaise (wpAny_unbindName_local hk hn hv hcls λh' u hn' hs=>?_);have cne:=I1.cne;have tracked:HOk X.prog X.w H h':=λb ob e=>by
  refine (I1.hok b ob e).stay (λc w' hc q=>(hs.2 c ?_).trans q) (λ_ q=>q) λ_ _ q=>q;rintro rfl;rcases hc with rfl | hc
  ·rw [I1.free] at e;cases e
  ·rw [I1.free] at hc;cases hc
 have far:∀b o,X.s₀.heap.get? b=some o->b≠X.env.locals:=λb o e=>uk6 (ud8 (uk5 e) I1.ok.above);refine h _ ⟨I1.ok,I1.os,I1.bare,⟨λb o e n hb hx=>?_,λb o e n hb hx=>?_,I1.base.free,λb o e hx=>?_,I1.base.tups,I1.base.frzs,I1.base.tbls⟩,⟨_,hn',λj y v' e1 e2 e3=>?_⟩,λy c e=>?_,I1.free,I1.freeC,λp hp=>?_,tracked,by simpa using I.len⟩ λb hb hc=>?_
 ·exact (hs.2 b (far b o e)).trans (I1.base.keep b o e n hb hx)
 ·obtain ⟨sl,e1⟩:=I1.base.slot b o e n hb hx;exact ⟨sl,(hs.2 b (far b o e)).trans e1⟩
 ·obtain ⟨o',e1⟩:=I1.base.there b o e hx;exact ⟨o',(hs.2 b (far b o e)).trans e1⟩
 ·by_cases hj:j=i
  ·subst hj;rw [ub8 hiσ] at e2
   cases e2
  ·rw [ud1 (Ne.symm hj)] at e2;obtain ⟨u',r',q⟩:=hl j y v' e1 (by rw [ud1 (Ne.symm hj)];exact e2) e3;refine ⟨u',r',?_⟩;rcases q with ⟨k,e⟩ | ⟨k,c,e,z⟩
   ·refine .inl ⟨k,?_⟩;have:y≠n:=λe=>hj (GB hN e1 (e ▸ hi));simp [this,e]
   ·exact .inr ⟨k,c,e,z.sameBut hs (cne y c e)⟩
 ·obtain ⟨w',z⟩:=I1.cell y c e;exact ⟨w',z.sameBut hs (cne y c e)⟩
 ·obtain ⟨e,n,ne,nf,d⟩:=I1.pin p hp;exact ⟨(hs.2 p.1 ne).trans e,n,ne,nf,d⟩
 ·rw [hs.2 b hb];refine sb1.2 b ?_;rintro rfl;rcases ha1 with z | z
  ·exact hb z
  ·exact hc _ _ z rfl
end
def HB (X:Cx)(E:St->XK):Prop:=∀(pins:List (Addr×Obj)) (σ:St) (H:Hp) (s:Shared) (x C:Addr) (dx T:Option Addr) (fl:Value),Inv X pins σ H s->XOn false X pins H s x C dx T fl->E σ (.ref x) dx H->X.xe (.ref x) s
theorem XE.raisesT {X:Cx}{E:St->XK}:HB (X.wish (XE false X E)) E:=λpins σ H s x C dx T fl I o q=>⟨pins,σ,H,x,C,dx,T,fl,rfl,I.unwish,⟨o.hx,o.nx,o.rc,o.tb,o.fo⟩,q⟩
section
variable {X:Cx}{n v:Str}{C' C2:Addr}{bm' bm2:List Value}{p pos p2:Pos}{e cN:Expr}{rest:List ExceptHandler}{t:St->Hp->(Addr->Option Addr->Hp->Prop)->Prop}{tr:Addr->Addr->Option Addr->TS}{i:Nat}{E:St->XK}
def aE (K:PySem.W.Frag)(C':Addr)(i:Nat)(t:St->Hp->(Addr->Option Addr->Hp->Prop)->Prop)(E:St->XK)(tr:Addr->Addr->Option Addr->TS):Addr->Addr->Option Addr->TS:=λx C dx D σ H=>∃bm,XCl K C bm/\
 if (Value.ref C :: bm).contains (.ref C')=true then t (σ.set i (some (.ref x))) H (λy dy H1=>y≠x/\H1 x=some (.ext (F2.XIs true x C dx))/\E ((σ.set i (some (.ref x))).set i none) (.ref y) dy H1) else tr x C dx D σ H
theorem Y6 (h1:X.stack=X.env :: X.outer)(h2:X.env.frame=some X.env.locals)(hg:Gl X n)(hm:X.mg n=some (.ref C'))(c':XCl X.K C' bm')(hN:X.N.Nodup)(hi:X.N[i]?=some v)(hl:X.env.scope.names.lookup v=some .local)
 (c2:XCl X.K C2 bm2) (hp:∀x,PM false (X.mark x) e C2 t) (hx:HB X E)
 (hz:∀(A:Around) (s:Shared) (Q:Value->Shared->Prop) (E:Value->Shared->Prop),Q Value.none s->wpAny (model X.prog X.w) A (eval cN X.env) Q E s)
 (hr:PH true X rest tr) (hdb:(n == ("__debug__" : Str))=false:=by decide):PH true X (.ExceptHandler (some (.Name n p)) (some v) [.Raise (some e) (some cN) p2] pos :: rest) (aE X.K C' i t E tr):=by
 intro pins s σ H x C dx T D I o ⟨bm,c,q⟩;have Im:=I.mark x;refine wpAny_handleBy_cons (codeAny_handlers_test (Ch Im hg hm ?_ hdb)) (by intro z;cases z)
 refine Iz c c' I.kIn o.rc ?_
 cases hc:(Value.ref C :: bm).contains (.ref C') with
 | false=>
   rw [hc,if_neg (by decide)] at q;exact hr pins s σ H x C dx T D I o q
 | true=>
   rw [hc,if_pos rfl] at q;refine codeAny_handlers_suite_as ?_;refine D8 none I o (.inl rfl) λh1' I1 o1=>?_;refine FB (v:=.ref x) I1 hN hi (.inl hl) rfl (λs2 I2=>?_) (.inr hl);refine wpAny_execs_cons ?_;rw [arm_exec_Raise];refine um0 (wpAny_standAt ?_);refine SR (x:=x) c2 rfl (λs Q E h=>um0 (hz _ _ _ _ (um0 (wpAny_standAt (um1 h))))) ?_;refine um0 (um2 (hp x pins s2 _ H _ (I2.mark x) q) (λw' s3 z9=>?_) λ_ _ z=>z.elim);obtain ⟨y,dy,H1,e1,I3,hy,ny,r,ne,hxx,q1⟩:=z9;subst e1;have J3:=I3.unmark I.ok;obtain ⟨ox,vx,gx,_,_,dtx,xc⟩:=(I3.hok x _ hxx).1;refine um0 (wpAny_standAt (um1 ⟨y,dy,ox,vx,rfl,ne,I3.kIn,r,gx,dtx,(xc rfl).1,λh' r' kp=>?_⟩));obtain ⟨o1',o2',o3'⟩:=J3.newT (ul5 _);have J4:=J3.left hy (J3.hok.fresh (ul5 _)) ny (uk7 J3.sz (ul5 _)) (ch:=[y]) (h':=h') ⟨λb u hb _ e=>(kp b (by simpa using hb)).trans e,λb u hb e=>⟨u.slots,(kp b (by simpa using hb)).trans e⟩⟩ (λb hb=>.inl (by simpa using hb)) r'.is o2' o1' o3';have o4:XOn false X pins H1 { s3 with heap:=h' } y C2 dy none .none:=⟨hy,ny,r',(λa e=>by cases e),.inl rfl⟩;refine Fs I3.ok.frames J4 h1 h2 o4 λh5 a J5 o5=>?_;refine QZ J5 hN hi hl λs6 J6 k6=>?_;have o6:=o5.keep J5 k6;obtain ⟨oy,vy,gy,_,_,dty,tby,_⟩:=id o6.rc;unfold PySem.passOn;refine um0 (ul9 gy dty tby ?_);rw [if_neg (show ¬((Value.ref a == Value.none)=true) from by intro z;cases z)]
   rw [h2];refine um0 (D8 (some X.env.locals) J6 o6 (.inr rfl) λh7 J7 o7=>wpAny_throw ?_);refine Fs I3.ok.frames J7 h1 h2 o7 λh8 a8 J8 o8=>?_;obtain ⟨oz,vz,gz,_,_,dtz,tbz,_⟩:=id o8.rc;show cameBackBy _ _ _ _ _ _;unfold cameBackBy;refine um0 (ul9 gz dtz tbz ?_);rw [if_neg (show ¬((Value.ref a8 == Value.none)=true) from by intro z;cases z)]
   rw [h2];exact D8 (some X.env.locals) J8 o8 (.inr rfl) λh9 J9 o9=>hx pins _ H1 _ y C2 dy _ _ J9 o9 q1
end
structure FnOkH (P:Program)(w:World)(K:PySem.W.Frag)(mg:Str->Option Value)(base:Heap)(CX:CXT)(k:Nat)(f:Addr)(fd:FuncData)(ps:List Str)(sp:Sp):Prop where
 len:∀vs H Q E,sp vs H Q E->vs.length=ps.length
 run:∀(z:Addr) (A:Around) (outer:List Env) (s:Shared) (H:Hp) (args:Args) (us:List Value) (vs:List V) (Q:VK) (E:XK),Room k A->Env0 P w K mg base A outer s H->BindsTo s fd args (ps.zip us)->Vals vs us->sp vs H Q E->
  codeAny (model P w) (A.mark (some (.ref z))) (.call (.ref f) args) (CR CX outer P w H s Q E) s
theorem WR {CX:CXT}{P:Program}{w:World}{K:PySem.W.Frag}{mg:Str->Option Value}{base:Heap}{k:Nat}{f:Addr}{name qual:Str}{params:Arguments}{body:List Stmt}{scope:Scope}{dV kV doc pm cdv ct oc:Value}{an od:Option Addr}
 {osl:Array (Option Value)} {N ps:List Str} {sp:Sp} (lk:K.lookup f=some ⟨oc,od,.func (PySem.W.fnOf name qual params body scope dV kV doc pm an cdv ct),osl⟩) (hcd:PySem.W.codeIn K cdv qual=true) (S:FnScope N ps scope)
 (len:∀vs H Q E,sp vs H Q E->vs.length=ps.length)
 (hbody:∀(z:Addr) (A:Around) (outer:List Env) (s:Shared) (H:Hp) (vs:List V) (Q:VK) (E:XK),Room k (A.deeper (envOfC qual scope s.heap.objs.size f cdv))->sp vs H Q E->
   ∃t,PSs ((Db CX P w K mg base N qual scope f cdv A outer s H E).mark z) body t/\t { nx:=λ_ H'=>Q .non H',rt:=Q } (Ct N vs) H) :
 FnOkH P w K mg base CX (k + 1) f (PySem.W.fnOf name qual params body scope dV kV doc pm an cdv ct) ps sp:=by
 refine ⟨len,λz A outer s H args us vs Q E hr e0 hb r hsp=>?_⟩;have hl:=len _ _ _ _ hsp;have KX:K.In s.heap:=e0.mod.kin.keeps λb o e=>(e0.bs b o e).1;have lim:s.heap.NoLimit:=e0.mod.nolimit.keeps λb o e=>(e0.bs b o e).1;have hkind:∀y∈ps.zip us,scope.names.lookup y.1=some .local\/(scope.names.lookup y.1=some .cell/\((cellsFrom (s.heap.objs.size + 1) scope.names []).lookup y.1).isSome=true):=λz9 hy=>by
  obtain ⟨n,v⟩:=z9;rcases S.par n (ui0 hy).1 with q | q
  ·exact .inl q
  ·exact .inr ⟨q,uc0 _ _ _ (.inl q)⟩
 refine codeAny_call_function (A:=A.mark (some (.ref z))) hr.depth (KX _ _ lk) rfl S.co S.gen rfl (PySem.W.codeRec_of KX hcd) (hb _ _ _ _ ?_);refine wpAny_newFunctionEnv_cells S.kind hkind λenv he s1 x=>?_;subst he;refine ⟨lim.keeps x.toInCall.keep,codeAny_func ?_⟩;obtain ⟨t,ht,hq⟩:=hbody z A outer s H vs Q E (hr.deeper _) hsp;have I:Inv (Db CX P w K mg base N qual scope f cdv A outer s H E) [] (Ct N vs) H s1:=KK S hr.hd e0 hl r x;refine um2 (ht [] s1 (Ct N vs) H _ (I.mark z) hq) (λfl s' hs=>?_) λe s' hs=>hs.elim;have fin:∀{σ':St} {H':Hp} {v:V} {u:Value},Inv ((Db CX P w K mg base N qual scope f cdv A outer s H E).mark z) [] σ' H' s'->RelV v u->Q v H'->CE outer P w H s Q u s':=
  λ{σ' H' v u} J rv q=>⟨v,H',J.os,J.bare,J.base,J.hok,rv,q⟩
 cases fl with
 | ret u=>
   obtain ⟨v,σ',H',J,rv,q⟩:=hs;exact fin J rv q
 | next=>
   obtain ⟨σ',H',J,q⟩:=hs;exact fin (v:=V.non) (u:=Value.none) J rfl q
 | brk=>
   obtain ⟨_,_,_,q⟩:=hs;exact False.elim q
 | cont=>
   obtain ⟨_,_,_,q⟩:=hs;exact False.elim q
theorem Fun.okH {P:Program}{w:World}{K:PySem.W.Frag}{mg:Str->Option Value}{base:Heap}{x qual:Str}{st:Stmt}{f:Addr}{fd:FuncData}{N ps:List Str}{k:Nat}{sp:Sp}(F:Fun K x qual st f fd)(S:FnScope N ps (Al st))(len:∀vs H Q E,sp vs H Q E->vs.length=ps.length)
 (hbody:∀(cdv:Value) (z:Addr) (A:Around) (outer:List Env) (s:Shared) (H:Hp) (vs:List V) (Q:VK) (E:XK),Room k (A.deeper (envOfC qual (Al st) s.heap.objs.size f cdv))->sp vs H Q E->
   ∃t,PSs ((Db CX0 P w K mg base N qual (Al st) f cdv A outer s H E).mark z) (A8 st) t/\t { nx:=λ_ H'=>Q .non H',rt:=Q } (Ct N vs) H):FnOkH P w K mg base CX0 (k + 1) f fd ps sp:=by
 obtain ⟨oc,od,kV,doc,pm,an,cdv,ct,osl,rfl,lk,hcd⟩:=F.ex;exact WR lk hcd S len λz A outer s H vs Q E hr hsp=>hbody cdv z A outer s H vs Q E hr hsp
section
variable {qx:Bool}{X:Cx}{k:Nat}{f C P:Addr}{fd:FuncData}{pins:List (Addr×Obj)}{σ:St}{H:Hp}{s:Shared}{Q:Value->Shared->Prop}{us:List Value}{vs:List V}{a b:Str}{ps:List Str}{v v2:V}{u u2:Value}{n:Str}{p pos:Pos}{e e':Expr}
theorem Nb {z:Addr}(M:XMk X.K C P f)(ha:XAt X.K C P a)(hab:XAt X.K C P b)(F:FnOkH X.prog X.w X.K X.mg X.base CX0 k f fd ps (Hs X.K P a b))(hr:Room (k + 1) X.A)(hb:Binds X.K fd ps [])(I:Inv (X.mark z) pins σ H s)(r:RelV v u)(rr:RelV v2 u2)
 (h:∀s' x dx,Inv (X.mark z) pins σ (upd (upd H dx (.xd [(a,v),(b,v2)])) x (.ext (F2.XIs qx x C (some dx)))) s'->H x=none->H dx=none->dx≠x->s.heap.objs.size<=x->XRec true s'.heap x C (some dx) .none->Q (.ref x) s'):wpAny (model X.prog X.w) (X.mark z).A (call (.ref C) [u,u2]) Q (X.mark z).xe s:=by
 obtain ⟨nm,q,N,bs,sn,sub,ab,col,dd,k0,k1,k2,k3,k5,hC,hN⟩:=M.cl.obj I.kIn;have hni:s.heap.nsMap N "__init__" = some (.ref f):=by
  obtain ⟨cd,c1,c2⟩:=M.init;refine GC I.kIn hN ?_;unfold clsIn at c1
  split at c1
  ·next l=>
   cases c1
   have z:=I.kIn _ _ l;rw [hC] at z
   cases z
   exact c2
  ·cases c1
 have I1:Inv (X.mark z) pins σ (upd H (s.heap.objs.size + 1) (exO (s.heap.objs.size + 1) C s.heap.objs.size)) { s with heap:=DB s.heap C [u,u2] }:=by
  refine I.laid (t':=s.toks) (λb o e=>ub9 _ (ub9 _ e)) (ul7 _) (L8 ?_);show ((s.heap.push _).push _).get? _=_
  heap_get
 have hx0:=I.hok.fresh (ul7 s.heap.objs.size);have r2:Vals [V.ref (s.heap.objs.size + 1),v,v2] [Value.ref (s.heap.objs.size + 1),u,u2]:=.cons rfl (.cons r (.cons rr .nil));have hsp:Hs X.K P a b [V.ref (s.heap.objs.size + 1),v,v2] (upd H (s.heap.objs.size + 1) (exO (s.heap.objs.size + 1) C s.heap.objs.size))
  (λw' H'=>w' = .non/\∃dx,H dx=none/\dx≠s.heap.objs.size + 1/\H'=upd (upd H dx (.xd [(a,v),(b,v2)])) (s.heap.objs.size + 1) (ER (s.heap.objs.size + 1) C s.heap.objs.size dx)) E0:=by
  refine ⟨_,C,s.heap.objs.size,v,v2,rfl,Aj,ha,hab,λdx h1 h2=>⟨rfl,dx,by rw [Ag h2] at h1;exact h1,h2,?_⟩⟩
  funext b
  by_cases e1:b=s.heap.objs.size + 1
  ·subst e1;rw [Aj,Aj]
  ·by_cases e2:b=dx
   ·subst e2;rw [Ag e1,Ag e1,Aj,Aj]
   ·rw [Ag e1,Ag e1,Ag e2,Ag e2,Ag e1]
 have hl:([Value.ref (s.heap.objs.size + 1),u,u2]++[]).length=ps.length:=by
  have e:=F.len _ _ _ _ hsp;simpa using e
 obtain ⟨hh,g,d,t,os⟩:=s;refine wpAny_call (Iy ua6 (M.cl.tail I.kIn) hC hN hni ((bind_fn I.kIn _ (beq_iff_eq.mp M.fn))) (by show 2<=sizeLine;decide) ?_);refine codeAny_mono (F.run z _ X.stack _ _ ⟨[Value.ref (hh.objs.size + 1),u,u2],[]⟩ [Value.ref (hh.objs.size + 1),u,u2] _ _ E0 (hr.make C [u,u2] []) (Env0.make (A:=X.A) ⟨I1.env0.frames,I1.env0.mod,I1.env0.bs,I1.env0.bsz,I1.env0.funs,I1.env0.frf,I1.env0.hok,I1.env0.bare⟩ C [u,u2] []) (by have:=hb _ [Value.ref (hh.objs.size + 1),u,u2] I1.kIn hl;simpa using this) r2 hsp) λr s' hq'=>?_
 cases r with
 | error e=>exact hq'.elim
 | ok fl=>
   cases fl with
   | ret w'=>
     obtain ⟨v',H',I3,rv,rfl,dx,d1,d2,rfl⟩:=I1.after hq';refine ⟨rv,?_⟩;have hx:=(I3.hok (hh.objs.size + 1) _ Aj).1;have hx:s'.heap.get? (hh.objs.size + 1)=some { excObj C hh.objs.size with dict:=some dx }:=hx;have xr:XRec true s'.heap (hh.objs.size + 1) C (some dx) .none:=⟨_,_,hx,rfl,rfl,rfl,rfl,λ_=>⟨rfl,by show 4 < 6;decide⟩⟩;have I4:=I3.write (x:=hh.objs.size + 1) (e:=hh.objs.size + 1) (o:=.ext (F2.XIs qx (hh.objs.size + 1) C (some dx))) (h':=s'.heap) (t':=s'.toks) (by rw [Aj];trivial) (.inl rfl) (λ_ _ _ z=>z) ⟨_,hx⟩ (G9 xr.to.is);rw [Km] at I4;exact h s' (hh.objs.size + 1) dx I4 hx0 d1 d2 (ul7 _) xr
   | next=>exact False.elim hq'
   | brk=>exact False.elim hq'
   | cont=>exact False.elim hq'
theorem Ve {z:Addr}{t:TA}(M:XMk X.K C P f)(ha:XAt X.K C P a)(hab:XAt X.K C P b)(F:FnOkH X.prog X.w X.K X.mg X.base CX0 k f fd ps (Hs X.K P a b))(hr:Room (k + 1) X.A)(hb:Binds X.K fd ps [])(hg:Gl (X.mark z) n)(hm:X.mg n=some (.ref C))(hA:PA (X.mark z) [e,e'] t)
 (hdb:(n == ("__debug__" : Str))=false:=by decide) (h1:starEach [e,e'] X.env=(false,eval e X.env) :: starEach [e'] X.env:=by rfl) (hpl:(backTo pos (starEach [e'] X.env)).any (·.1)=false:=by rfl) :
 PM qx (X.mark z) (.Call (.Name n p) [e,e'] [] pos) C (λσ H Q=>t σ H λvs H1=>∃v u,vs=[v,u]/\∀x dx,H1 x=none->H1 dx=none->dx≠x->Q x (some dx) (upd (upd H1 dx (.xd [(a,v),(b,u)])) x (.ext (F2.XIs qx x C (some dx))))):=by
 intro pins s σ H Q I h;refine wpAny_Call_Name_kw (Ch I hg hm ?_ hdb);refine ue2 (h₀:=X.base) I.ok.mod.kin M.kp (thn (hA pos pins s σ H _ I h) λus s1 z9=>?_) h1 hpl;obtain ⟨vs,H1,I1,r,v,u,ev,q⟩:=z9;refine ⟨I1.kIn,?_⟩;subst ev
 cases r with
 | cons r0 rs=>
   cases rs with
   | cons r1 rs=>
     cases rs
     exact Nb (X:=X) (z:=z) M ha hab F hr hb I1 r0 r1 λs' x dx I' hx hdx ne nx rc=>⟨x,some dx,_,rfl,I',Aj,uk7 I1.sz nx,rc,q x dx hx hdx ne⟩
end
end L2
namespace F2
open PySem L2 PySem.Spec PySem.W
section
variable {X:Cx}{pos p p2 p3 p4:Pos}{P:Addr}{ca:Str->Addr}{E:XK}{e e' cN:Expr}
def Rf (prog:Program)(w:World)(K:PySem.W.Frag)(mg:Str->Option Value)(base:Heap)(C P:Addr):Prop:=
 ∃(f:Addr) (fd:FuncData) (ps:List Str),XMk K C P f/\XAt K C P "at"/\XAt K C P "side"/\Binds K fd ps []/\FnOkH prog w K mg base CX0 1 f fd ps (Hs K P "at" "side")
theorem YM {n' v:Str}{C':Addr}{bm':List Value}{i:Nat}{rest:List ExceptHandler}{f:M (List D)}{r:D->M Out}(x:XM X.K X.mg P ca)(xn:Rf X.prog X.w X.K X.mg X.base (ca "Broken") P)(h1:X.stack=X.env :: X.outer)(h2:X.env.frame=some X.env.locals)(hr:L2.Room 2 X.A)
 (hg:Gl X n') (hm:X.mg n'=some (.ref C')) (c':XCl X.K C' bm') (hs:∀n∈Bc,(Value.ref (ca n) :: .ref P :: VE).contains (.ref C')=Ds n n')
 (hN:X.N.Nodup) (hi:X.N[i]?=some v) (hl:X.env.scope.names.lookup v=some .local) (hx:HB X (λ_=>E)) (hgB:Gl X "Broken") (ha:∀x,PA (X.mark x) [e,e'] (RA X.K f))
 (hz:∀(A:Around) (s:Shared) (Q:Value->Shared->Prop) (E:Value->Shared->Prop),Q Value.none s->wpAny (model X.prog X.w) A (eval cN X.env) Q E s)
 (hrest:PH true X rest (RH X.K ca (μX X.K E) r)) (hdb:(n' == ("__debug__" : Str))=false:=by decide) (hs1:AZ e=false:=by rfl) (hs2:A6 [e']=true:=by rfl) :
 PH true X (.ExceptHandler (some (.Name n' p)) (some v) [.Raise (some (.Call (.Name "Broken" p3) [e,e'] [] p4)) (some cN) p2] pos :: rest) (RH X.K ca (μX X.K E) (hAs n' i (Do "Broken" f) r)):=by
 obtain ⟨fa,fd,ps,M,A,A2,B,F⟩:=xn;have hnB:("Broken" : Str)∈Bc:=by decide
 intro pins s0 σ H y C dx T D I o q;refine Y6 h1 h2 hg hm c' hN hi hl M.cl (λz=>Ve M A A2 F hr B hgB (x.ms _ hnB) (ha z) (by decide) (AR hs1) (AS hs2).1) hx hz hrest hdb pins s0 σ H y C dx T D I o ?_;obtain ⟨Oo,c,t,n,ds,fi,hn,rfl,rv,o1,t',eq,k⟩:=q;refine ⟨_,x.cl n hn,?_⟩;rw [hs n hn];unfold hAs at eq;dsimp only at eq
 by_cases hb':Ds n n'=true
 ·rw [if_pos hb'] at eq ⊢
  cases e1:Do "Broken" f { t with env:=t.env.set i (some (.val (.exc n ds))) } with
  | none=>rw [e1] at eq;cases eq
  | some z=>
    obtain ⟨o2,t2⟩:=z;rw [e1] at eq
    cases eq
    obtain ⟨es,t1,e2,e1⟩:=Ae e1;have hny:¬c.A y:=by cases rv with | exc _ _ hA _ _=>exact hA
    refine ⟨Oo,c,_,fi.set rv,es,t1,e2,λvs H1 c1 f1 s1 rvs=>?_⟩;rcases es with _ | ⟨d,_ | ⟨d',_ | ⟨_,_⟩⟩⟩
    ·cases e1
    ·cases e1
    ·cases rvs with
     | @cons v0 _ _ _ r0 rs=>
     cases rs with
     | @cons v1 _ _ _ r1 rs=>
     cases rs
     cases e1
     refine ⟨_,_,rfl,λu du hu hdu ne=>?_⟩;have hy1:H1 y=some (.ext (XIs true y (ca n) dx)):=s1.ext.keep _ _ o.hx hny;have nyu:y≠u:=λz=>by rw [z,hu] at hy1;cases hy1
     have nyd:y≠du:=λz=>by rw [z,hdu] at hy1;cases hy1
     have f2:=f1.laid (o:=.xd [("at",v0),("side",v1)]) hdu;have hu2:upd H1 du (.xd [("at",v0),("side",v1)]) u=none:=by rw [Ag (Ne.symm ne)];exact hu
     have f3:=f2.laid (o:=.ext (XIs false u (ca "Broken") (some du))) hu2;have ex:=(f1.stp_laid (o:=.xd [("at",v0),("side",v1)]) hdu).ext.trans (f2.stp_laid (o:=.ext (XIs false u (ca "Broken") (some du))) hu2).ext;have s3:=s1.trans ((f1.stp_laid (o:=.xd [("at",v0),("side",v1)]) hdu).trans (f2.stp_laid (o:=.ext (XIs false u (ca "Broken") (some du))) hu2));refine ⟨Ne.symm nyu,by rw [Ag nyu,Ag nyd];exact hy1,?_⟩;refine k _ _ c1 (f3.unset i) s3 (.ref u) (.exc (x.ns _ hnB) Aj (f2.s.free hu2) ?_ (.cons (r0.mono ex) (.cons (r1.mono ex) .nil))) u (some du) rfl;exact ⟨by rw [Ag ne,Aj];rfl,f1.s.free hdu⟩
    ·cases e1
 ·rw [if_neg hb'] at eq ⊢;exact ⟨Oo,c,t,n,ds,fi,hn,rfl,rv,o1,t',eq,k⟩
end
theorem P3 {prog:Program}{w:World}{K:PySem.W.Frag}{mg:Str->Option Value}{base:Heap}{C P:Addr}{qual:Str}{st:Stmt}{p1 p2 p3 p4 p5 p6 p7 p8:Pos}(hbd:A8 st=[.Assign [.Attribute (.Name "self" p1) "at" p2] (.Name "at" p3) p4,.Assign [.Attribute (.Name "self" p5) "side" p6] (.Name "side" p7) p8])(S:FnScope ["self", "at", "side"] ["self", "at", "side"] (Al st))
 (s1:(Al st).names.lookup ("self" : Str)=some NameKind.local) (s2:(Al st).names.lookup ("at" : Str)=some NameKind.local) (s3:(Al st).names.lookup ("side" : Str)=some NameKind.local) (x:XF2 K C P qual st):Rf prog w K mg base C P:=by
 obtain ⟨f,fd,M,A,A2,B,F⟩:=x;refine ⟨f,fd,_,M,A,A2,B,F.okH (k:=0) S (λvs H Q E h=>?_) λcdv z A' outer s H vs Q E hr h=>?_⟩
 ·obtain ⟨y,C',tp,v,u,rfl,_⟩:=h;rfl
 ·rw [hbd];refine ⟨_,IF (OI (P:=P) (Cm (i:=0) rfl (.inl s1) (by decide) (by decide)) (Cm (i:=1) rfl (.inl s2) (by decide) (by decide)) rfl) (F7 (Qy (P:=P) (f1:="at") (by decide) (Cm (i:=0) rfl (.inl s1) (by decide) (by decide)) (Cm (i:=2) rfl (.inl s3) (by decide) (by decide)) rfl)),?_⟩;obtain ⟨y,C',tp,v,u,rfl,hy,ha,ha2,k⟩:=h;refine ⟨v,rfl,.ref y,rfl,y,C',tp,rfl,hy,ha,λdx h1 h2=>⟨u,rfl,.ref y,rfl,y,C',tp,dx,v,rfl,Aj,by rw [Ag h2,Aj],h2,ha2,?_⟩⟩;have z:=k dx h1 h2;have e:upd (upd (upd H dx (.xd [("at",v)])) y (ER y C' tp dx)) dx (.xd [("at",v),("side",u)])=upd (upd H dx (.xd [("at",v),("side",u)])) y (ER y C' tp dx):=by
   funext b
   by_cases e1:b=dx
   ·subst e1;rw [Aj,Ag h2,Aj]
   ·by_cases e2:b=y
    ·subst e2;rw [Ag e1,Aj,Aj]
    ·rw [Ag e1,Ag e2,Ag e1,Ag e2,Ag e1]
  rw [e];exact z
end F2
namespace L2
open PySem PySem.Spec PyProof.Rows
section
variable {prog:Program}{w:World}{A:Around}{E:Value->Shared->Prop}{s:Shared}
variable {I:Addr}{fp wr:List Addr}{G:Array GenState->Array GenState->Prop}{n:Nat}{P:Nat->Value->Prop}{St:Nat->Shared->Prop}
def bI (prog:Program)(w:World)(h:Heap)(no:List Addr)(k:Key)(x v:Value):Prop:=∃(p:Addr) (o:Obj) (kv:Value) (q:Nat),v = .ref p/\p∉no/\h.get? p=some o/\o.cls = .type "tuple"/\o.data = .seq #[kv,x] q/\(B2 prog w).is k kv=true
end
section
variable {X:Cx}
end
end L2
namespace F2
open PySem L2 PySem.Spec PyProof.Rows
section
variable {X:Cx}{pos:Pos}{e:Expr}
end
end F2
namespace L2
open PySem PySem.Spec PyProof.Rows
def XW (neg:Bool):R2:=λx y H Q=>∃a kvs k,x = .str k/\y = .ref a/\H a=some (.dK kvs)/\Q (.bl (if neg then !(DL kvs (Sum.inr k:Key)).isSome else (DL kvs (Sum.inr k:Key)).isSome)) H
section
variable {X:Cx}
theorem Xp (hu:X.A.units + 64 < cLine):OpR X (compareOp .In) (XW false):=by
 intro pins s σ H x y v u Q I rx ry h;obtain ⟨a,kvs,k,rfl,rfl,e,q⟩:=h
 cases ry
 exact ac (by lia) I (DGet.k (k:=(Sum.inr k:Key)) e) rx λs' I'=>⟨.bl _,H,I',rfl,q⟩
theorem Od:DO X (.type "dict") (λxs H Q=>∃(p:Addr) (kvs:List (Key×V)),xs=[.ref p]/\H p=some (.dK kvs)/\∀l,H l=none->Q (.ref l) (upd H l (.dK kvs))):=by
 intro pins s σ H xs us0 Q I r h;obtain ⟨p,kvs,rfl,e,q⟩:=h;obtain ⟨u,rfl,rx⟩:=Jz r
 cases rx
 obtain ⟨hz,hp,vs,rel,dd⟩:=Of I.hok e;refine kt_call_dict hp dd (by rw [<-rel.length];exact hz) λh' hD sb=>?_;have nm:(s.heap.objs.size == sysModules)=false:=by
  have:=I.big;rw [beq_eq_false_iff_ne];exact uk9 this
 have hk:∀b o,s.heap.get? b=some o->h'.get? b=some o:=λb o eb=>by
  rw [sb.2 b (uk6 (uk5 eb))];exact ub9 _ eb
 exact ⟨.ref s.heap.objs.size,_,I.laid (t':=s.toks) hk (ul5 _) (Pn hz nm rel hD),rfl,q _ (I.hok.fresh (ul5 _))⟩
end
end L2
namespace F2
open PySem L2 PySem.Spec PyProof.Rows
def inS (neg:Bool):D->D->M D
 | .str k,.obj n=>λt=>match t.S[n]? with
   | some (.dct kvs)=>some (.bl (if neg then !(By kvs (.inr k)).isSome else (By kvs (.inr k)).isSome),t)
   | _=>none
 | _,_=>fail
def HH:List D->M D
 | [.obj n]=>λt=>match t.S[n]? with
   | some (.dct kvs)=>some (.obj t.S.length,{ t with S:=t.S++[.dct kvs] })
   | _=>none
 | _=>fail
section
variable {K:PySem.W.Frag}
theorem Vy {neg:Bool}:Bh K (XW neg) (inS neg):=λ{Oo c t σ H x y dx dy r t' Q} f rx ry eq k=>by
 unfold inS at eq
 split at eq
 ·next z n=>
  cases rx
  cases ry with
  | @obj a kk hk=>
    split at eq
    ·next kvs es=>
     cases eq
     obtain ⟨us,g1,g2⟩:=f.s.obs _ a _ hk es;refine ⟨a,us,z,rfl,rfl,g1,?_⟩;rw [g2.has];exact k _ H c f .refl (.bl _)
    ·cases eq
 ·cases eq
end
section
variable {X:Cx}{pos:Pos}{e:Expr}
theorem Rx {f:M (List D)}{p:Pos}(hg:Gl X "dict")(hm:X.mg "dict" = none)(ha:PA X [e] (RA X.K f))(h1:AZ e=false:=by rfl) :
 PE X (.Call (.Name "dict" p) [e] [] pos) (RE X.K (fB f HH)):=
 AI (KR Od hg hm (by decide +kernel) ha (by decide) (by decide) (AR h1) rfl) λσ H Q z9=>by
  obtain ⟨Oo,c,t,fi,r,t',eq,k⟩:=z9;obtain ⟨as,t1,e1,eq⟩:=Ae eq;unfold HH at eq
  split at eq
  ·next n=>
   split at eq
   ·next kvs es=>
    cases eq
    refine ⟨Oo,c,t,fi,_,_,e1,λvs H1 c1 f1 s1 rv=>?_⟩;obtain ⟨v,rfl,rw1⟩:=Fa rv
    cases rw1 with
    | @obj a kk hk=>
    obtain ⟨us,g1,g2⟩:=f1.s.obs _ a _ hk es;refine ⟨a,us,rfl,g1,λl hnl=>?_⟩;obtain ⟨c2,f2,s2,eo⟩:=f1.newObj (o:=.dct kvs) (u:=.dK us) hnl λc' H' ex hu=>⟨_,hu,g2.mono ex⟩;exact k _ _ c2 f2 (s1.trans s2) (.obj eo)
   ·cases eq
  ·cases eq
end
end F2
namespace F2
open PySem L2 PySem.Spec PySem.W
theorem UA {P:Program}{w:World}{K:PySem.W.Frag}{mg:Str->Option Value}{base:Heap}{x qual:Str}{st:Stmt}{fa:Addr}{fd:FuncData}{N ps:List Str}{k n m:Nat}{g:M Out}(e1:ps.length=n)(e2:N.length=m)(F:Fun K x qual st fa fd)(S:FnScope N ps (Al st))
 (hb:∀(cdv:Value) (A:Around) (outer:List Env) (s:Shared) (H:Hp) (E:XK),L2.Room k (A.deeper (PyProof.Rows.envOfC qual (Al st) s.heap.objs.size fa cdv))->
   Ce (CX1 false P w) (cxX false P w K mg base N qual (Al st) fa cdv A outer s H E) (λ_=>E)->Fe false (cxX false P w K mg base N qual (Al st) fa cdv A outer s H E) (λ_=>E)->
   PassesOwn (model P w) (cxX false P w K mg base N qual (Al st) fa cdv A outer s H E).A (cxX false P w K mg base N qual (Al st) fa cdv A outer s H E).env (cxX false P w K mg base N qual (Al st) fa cdv A outer s H E).xe->
   HB (cxX false P w K mg base N qual (Al st) fa cdv A outer s H E) (λ_=>E)->
   PSs (cxX false P w K mg base N qual (Al st) fa cdv A outer s H E) (A8 st) (RSg K (μX K E) g)):FnOk P w K mg base (CX1 false P w) (k + 1) fa fd ps (spX K (fnOf n m g)):=
 Nq e1 e2 F S λcdv A outer s H E hr h1 h2 h3=>hb cdv A outer s H E hr h1 h2 h3 XE.raisesT
theorem UI {M:Model}{env:Env}{j:Nat}{pos:Pos}:∀(A:Around) (s:Shared) (Q:Value->Shared->Prop) (E:Value->Shared->Prop),Q Value.none s->wpAny M A (eval (.Constant .none j pos) env) Q E s:=λA s Q E h=>um1 h
section
variable {X:Cx}
end
def CM (K:PySem.W.Frag):Prop:=∀n∈JS,∀C,nsIn K mainGlobals n=some (some (.ref C))->Cls K C/\∀f∈atN,NoAttr K C f
noncomputable def Fv (f:Str)(v:D):List (Str×D)->List (Str×D)
 | []=>[(f,v)]
 | (g,x) :: r=>if g=f then (g,v) :: r else (g,x) :: Fv f v r
section
variable {K:PySem.W.Frag}{c:Cf}{H:Hp}
theorem FldR.len:∀{us:List (Str×V)} {fs:List (Str×D)},FldR K c H us fs->us.length=fs.length
 | _,_,.nil=>rfl
 | _,_,.cons _ t=>by rw [ug1,ug1,FldR.len t]
theorem FldR.look {f:Str}{d:D}:∀{us:List (Str×V)} {fs:List (Str×D)},FldR K c H us fs->fs.lookup f=some d->∃v,us.lookup f=some v/\Rep K c H v d
 | _,_,.nil,e=>by cases e
 | (g,x) :: us,(g',y) :: fs,.cons ⟨h1,h2⟩ t,e=>by
   have h1:g=g':=h1;subst h1
   by_cases q:(f == g)=true
   ·simp only [List.lookup,q] at e ⊢
    cases e
    exact ⟨_,rfl,h2⟩
   ·have q:(f == g)=false:=by simpa using q
    simp only [List.lookup,q] at e ⊢;exact FldR.look t e
theorem FldR.none {f:Str}:∀{us:List (Str×V)} {fs:List (Str×D)},FldR K c H us fs->(∀p∈fs,p.1≠f)->us.lookup f=none
 | _,_,.nil,_=>rfl
 | (g,x) :: us,(g',y) :: fs,.cons ⟨h1,h2⟩ t,e=>by
   have h1:g=g':=h1;subst h1;have q:(f == g)=false:=by
    have:=e (g,y) (.head _);simpa using λz:f=g=>this z.symm
   simp only [List.lookup,q];exact FldR.none t λp hp=>e p (.tail _ hp)
theorem FldR.put {f:Str}{v:V}{d:D}(r:Rep K c H v d):∀{us:List (Str×V)} {fs:List (Str×D)},FldR K c H us fs->FldR K c H (CO f v us) (Fv f d fs)
 | _,_,.nil=>.cons ⟨rfl,r⟩ .nil
 | (g,x) :: us,(g',y) :: fs,.cons ⟨h1,h2⟩ t=>by
   have h1:g=g':=h1;subst h1;show FldR K c H (if g=f then (g,v) :: us else (g,x) :: CO f v us) (if g=f then (g,d) :: fs else (g,y) :: Fv f d fs)
   by_cases q:g=f
   ·rw [if_pos q,if_pos q];exact .cons ⟨rfl,r⟩ t
   ·rw [if_neg q,if_neg q];exact .cons ⟨rfl,h2⟩ (FldR.put r t)
theorem FldR.mono {c':Cf}{H':Hp}(e:Ext c H c' H'){us:List (Str×V)}{fs:List (Str×D)}(h:FldR K c H us fs):FldR K c' H' us fs:=Paired.mapP h λ_ _ z=>⟨z.1,z.2.mono e⟩
theorem NK {f:Str}{v:D}(hf:f∈atN):∀{fs:List (Str×D)},(∀p∈fs,p.1∈atN)->∀p∈Fv f v fs,p.1∈atN
 | [],_=>λp hp=>by rw [show Fv f v []=[(f,v)] from rfl,ue5] at hp;subst hp;exact hf
 | (g,x) :: r,h=>λp hp=>by
   rw [show Fv f v ((g,x) :: r)=(if g=f then (g,v) :: r else (g,x) :: Fv f v r) from rfl] at hp
   split at hp
   ·rcases uj5.mp hp with e | e
    ·subst e;exact h (g,x) (.head _)
    ·exact h p (.tail _ e)
   ·rcases uj5.mp hp with e | e
    ·subst e;exact h (g,x) (.head _)
    ·exact NK hf (λp hp=>h p (.tail _ hp)) p e
end
noncomputable def EU {α:Type}(d:D)(h:Nat->Str->List (Str×D)->M α):M α:=λt=>match d with
 | .obj k=>match t.S[k]? with
   | some (.ins n fs)=>h k n fs t
   | _=>none
 | _=>none
theorem He {α:Type}{d:D}{h:Nat->Str->List (Str×D)->M α}{t:T}{z:α×T}(e:EU d h t=some z):∃k n fs,d = .obj k/\t.S[k]?=some (.ins n fs)/\h k n fs t=some z:=by
 cases d with
 | obj k=>
   rw [show EU (.obj k) h t=(match t.S[k]? with | some (.ins n fs)=>h k n fs t | _=>none) from rfl] at e
   cases es:t.S[k]? with
   | none=>rw [es] at e;cases e
   | some o=>
     rw [es] at e
     cases o with
     | ins n fs=>exact ⟨k,n,fs,rfl,es,e⟩
     | _=>cases e
 | _=>cases e
def BV (f:Str)(a:M D):M D:=bnd a λd=>EU d λ_ _ fs t=>(fs.lookup f).map λv=>(v,t)
def BZ (f:Str)(gv ga:M D):M Out:=bnd gv λv=>bnd ga λd=>EU d λk n fs t=>if fs.length < 1000 then some (.next,{ t with S:=t.S.set k (.ins n (Fv f v fs)) }) else none
def HJ (n:Str)(g:Fn)(f:M (List D)):M D:=bnd f λds t=>match g (.obj t.S.length :: ds) (t.S++[.ins n []]) with
 | some (.non,S')=>some (.obj t.S.length,{ t with S:=S' })
 | _=>none
def AV (n:Str)(g:Fn)(o:M D)(f:M (List D)):M D:=bnd o λd=>EU d λ_ n' _=>if n'=n then bnd f λds t=>match g (d :: ds) t.S with
 | some (r,S')=>some (r,{ t with S:=S' })
 | none=>none else fail
theorem F9 {K:PySem.W.Frag}{c:Cf}{H:Hp}{v:V}{k:Nat}(h:Rep K c H v (.obj k)):∃a,v = .ref a/\c.ι[k]?=some a:=by
 cases h with
 | obj e=>exact ⟨_,rfl,e⟩
end F2
namespace L2
open PySem PySem.Spec PySem.W PyProof.Rows
section
variable {X:Cx}{CX:CXT}{k:Nat}{f C:Addr}{fd:FuncData}{ps:List Str}{sp:Sp}{E:St->XK}{x m:Str}{p pos apos:Pos}{e o:Expr}{es:List Expr}{ta:TE}{t:TA}
theorem NP {pins:List (Addr×Obj)}{σ:St}{H:Hp}{s:Shared}{Q:VK}{us:List Value}{vs:List V}(F:FnOk X.prog X.w X.K X.mg X.base CX k f fd ps sp)(hr:Room k X.A)(hb:Binds X.K fd ps [])(hx:Ce CX X E)
 (I:Inv X pins σ H s) (r:Vals vs us) (h:sp vs H Q (E σ)):wpAny (model X.prog X.w) X.A (call (.ref f) us) (EP X pins σ Q) X.xe s:=by
 have hl:(us++[]).length=ps.length:=by rw [uh8,<-r.length];exact F.len _ _ _ _ h
 refine wpAny_call (codeAny_mono (F.run X.A X.stack s H ⟨us,[]⟩ us vs Q (E σ) hr I.env0 (by have:=hb s us I.kIn hl;rwa [uh8] at this) r h) λr s' hq=>?_)
 cases r with
 | error e=>exact hx pins σ H s e s' I hq
 | ok fl=>
   cases fl with
   | ret u=>exact I.after hq
   | next=>exact False.elim hq
   | brk=>exact False.elim hq
   | cont=>exact False.elim hq
def Yj (C:Addr)(m:Str)(sp:Sp)(E:St->XK)(ta:TE)(t:TA):TE:=λσ H Q=>ta σ H λx H1=>∃a dx fs,x = .ref a/\H1 a=some (.ins C dx fs)/\fs.lookup m=none/\
 t σ H1 λvs H2=>sp (x :: vs) H2 Q (E σ)
abbrev Em (X:Cx)(o:Expr)(m:Str)(es:List Expr)(apos pos:Pos)(pl:Sem Bool):Prop:=eval (.Call (.Attribute o m apos) es [] pos) X.env=(do
 let ov <-eval o X.env
 standAt apos.atName
 let (f,first) <-holding [ov] (getMethod ov m pl)
 callWith pos f first (backTo pos (starEach es X.env)) (backToKw pos (keywordEach [] X.env)))
theorem SJ {pl:Sem Bool}(he:PE X o ta)(c:Cls X.K C)(hm:Meth X.K C m f)(F:FnOk X.prog X.w X.K X.mg X.base CX k f fd ps sp)(hr:Room k X.A)(hb:Binds X.K fd ps [])(hx:Ce CX X E)(ha:PA X (e :: es) t)
 (hst:starEach (e :: es) X.env=(false,eval e X.env) :: starEach es X.env) (hpl:(backTo pos (starEach es X.env)).any (·.1)=false) (ht:Em X o m (e :: es) apos pos pl) :
 PE X (.Call (.Attribute o m apos) (e :: es) [] pos) (Yj C m sp E ta t):=by
 intro pins s σ H Q I h;refine uc6 (pl:=pl) (thn (he pins s σ H _ I h) λu s1 z9=>?_) ht;obtain ⟨x,H1,I1,rx,a,dx,fs,ex,ea,l,q⟩:=z9;subst ex;obtain rfl:u=Value.ref a:=rx;refine Gs I1 ea c hm l ?_;refine ue2 (first:=[.ref a]) (h₀:=X.base) I.ok.mod.kin hm.kp (thn (ha pos pins s1 σ H1 _ I1 q) λus s2 z9=>?_) hst hpl;obtain ⟨vs,H2,I2,r,q2⟩:=z9;refine ⟨I2.kIn,?_⟩;exact NP (us:=.ref a :: us) (vs:=.ref a :: vs) F hr hb hx I2 (.cons rfl r) q2
structure ByCls (K:PySem.W.Frag)(C:Addr)(m:Str)(f:Addr):Prop where
 ga:specialIn K (.ref C) "__getattribute__" = some (some (.builtin "type.__getattribute__"))
 rd:readsIn K C (.type "type")=true
 at_:(match findCls K (.ref C) (.type "type") m with | some (.val (.ref g))=>g == f | _=>false)=true
 kp:keepIn K (.ref f)=true
theorem ByCls.found {K:PySem.W.Frag}{C f:Addr}{m:Str}(b:ByCls K C m f):findCls K (.ref C) (.type "type") m=some (.val (.ref f)):=by
 have q:=b.at_
 split at q
 ·next e=>rw [e];rw [beq_iff_eq.mp q]
 ·cases q
theorem SC {pl:Sem Bool}(F:FnOk X.prog X.w X.K X.mg X.base CX k f fd ps sp)(hr:Room k X.A)(hg:Gl X x)(hm:X.mg x=some (.ref C))(bc:ByCls X.K C m f)(hb:Binds X.K fd ps [])(hx:Ce CX X E)(ha:PA X (e :: es) t)
 (hdb:(x == ("__debug__" : Str))=false) (hst:starEach (e :: es) X.env=(false,eval e X.env) :: starEach es X.env) (hpl:(backTo pos (starEach es X.env)).any (·.1)=false) (ht:Em X (.Name x p) m (e :: es) apos pos pl) :
 PE X (.Call (.Attribute (.Name x p) m apos) (e :: es) [] pos) (QQ sp E t):=by
 intro pins s σ H Q I h;refine uc6 (pl:=pl) (Ch I hg hm ?_ hdb) ht;refine method_cls I.kIn bc.ga (cls_value I.kIn bc.rd bc.found rfl ?_);have I0:=I.tok (s.toks + 1);refine ue2 (first:=[]) (h₀:=X.base) I.ok.mod.kin bc.kp (thn (ha pos pins _ σ H _ I0 h) λus s2 z9=>?_) hst hpl;obtain ⟨vs,H2,I2,r,q2⟩:=z9;refine ⟨I2.kIn,?_⟩;exact NP (us:=us) (vs:=vs) F hr hb hx I2 r q2
end
end L2
namespace F2
open PySem L2 PySem.Spec PySem.W
variable {n:Str}{h:Fn}{pl:Sem Bool}
section
variable {X:Cx}{e o a value:Expr}{es:List Expr}{pos pos' apos p:Pos}{f:Str}{g gv ga:M D}{fl:M (List D)}{C:Addr}
theorem WF (cm:CM X.K)(hf:f∈atN)(he:PE X e (RE X.K g))(hb:attributeBase e f X.env (eval e X.env)=eval e X.env):PE X (.Attribute e f pos) (RE X.K (BV f g)):=
 AI (Xz he hb) λσ H Q z9=>by
  obtain ⟨Oo,c,t,fi,r,t',eq,kk⟩:=z9;obtain ⟨d,t1,e1,eq⟩:=Ae eq;obtain ⟨k,n,fs,rfl,es,eq⟩:=He eq;obtain ⟨y,e2,e3⟩:=uc2.mp eq
  cases e3
  refine ⟨Oo,c,t,fi,.obj k,_,e1,λv H1 c1 f1 s1 rv=>?_⟩;obtain ⟨b,rfl,hk⟩:=F9 rv;obtain ⟨⟨hn,hat⟩,C,dx,us,g1,g2,g3⟩:=f1.s.obs k b _ hk es;obtain ⟨w,l1,l2⟩:=g3.look e2;exact ⟨b,C,dx,us,w,rfl,g2,(cm n hn C g1).1,(cm n hn C g1).2 f hf,l1,kk w H1 c1 f1 s1 l2⟩
theorem WU {μ:Cf->Hp->D->(V->Hp->Prop)->Prop}(cm:CM X.K)(hf:f∈atN)(ha:PE X o (RE X.K ga))(hv:PE X value (RE X.K gv))(hs:swapsWith value (some (.Attribute o f pos')) pos.line X.env=pure false:=by rfl) :
 PS X (.Assign [.Attribute o f pos'] value pos) (RSg X.K μ (BZ f gv ga)):=
 Bb (XO ha hv hs) λD σ H z9=>by
  obtain ⟨Oo,c,t,fi,r,t',eq,kk⟩:=z9;obtain ⟨d,t1,e1,eq⟩:=Ae eq;obtain ⟨d2,t2,e2,eq⟩:=Ae eq;obtain ⟨k,n,fs,rfl,es,eq⟩:=He eq
  split at eq
  ·next hl=>
   cases eq
   refine ⟨Oo,c,t,fi,d,t1,e1,λv H1 c1 f1 s1 rv=>⟨Oo,c1,t1,f1,.obj k,t2,e2,λx H2 c2 f2 s2 rx=>?_⟩⟩;obtain ⟨b,rfl,hk⟩:=F9 rx;obtain ⟨⟨hn,hat⟩,C,dx,us,g1,g2,g3⟩:=f2.s.obs k b _ hk es;refine ⟨b,C,dx,us,rfl,g2,(cm n hn C g1).1,(cm n hn C g1).2 f hf,by rw [g3.len];exact hl,?_⟩;obtain ⟨f3,s3⟩:=f2.wrObj (o:=.ins n (Fv f d fs)) (u:=.ins C dx (CO f v us)) hk λc' H' ext hu=>⟨⟨hn,NK hf hat⟩,C,dx,_,g1,hu,(FldR.put (rv.mono s2.ext) g3).mono ext⟩;exact kk σ _ c2 f3 ((s1.trans s2).trans s3)
  ·cases eq
theorem Qf {ds:List D}{t:T}{r:D}{t':T}(e:(match h (.obj t.S.length :: ds) (t.S++[.ins n []]) with | some (.non,S')=>some (.obj t.S.length,{ t with S:=S' }) | _=>none:Option (D×T))=some (r,t')) :
 ∃S',h (.obj t.S.length :: ds) (t.S++[.ins n []])=some (.non,S')/\r = .obj t.S.length/\t' = { t with S:=S' }:=by
 split at e
 ·next S' q=>cases e;exact ⟨S',q,rfl,rfl⟩
 ·cases e
theorem No {k:Nat}{fa:Addr}{fd:FuncData}{ps:List Str}(hn:n∈JS)(hC:nsIn X.K mainGlobals n=some (some (.ref C)))(M:Mk X.K C fa)(F:FnOk X.prog X.w X.K X.mg X.base CX0 k fa fd ps (spF X.K h))(hr:Room (k + 1) X.A)(hg:Gl X n)(hm:X.mg n=some (.ref C))(hb:Binds X.K fd ps [])
 (ha:PA X (e :: es) (RA X.K fl)) (hdb:(n == ("__debug__" : Str))=false:=by decide) (h1:AZ e=false:=by rfl) (h2:A6 es=true:=by rfl):PE X (.Call (.Name n p) (e :: es) [] pos) (RE X.K (HJ n h fl)):=
 AI (U6 M F hr hg hm hb .nil HU ha hdb (AR h1) (AS h2).1) λσ H Q z9=>by
  obtain ⟨Oo,c,t,fi,r,t',eq,kk⟩:=z9;obtain ⟨ds,t1,e1,eq⟩:=Ae eq;obtain ⟨S',e2,rfl,rfl⟩:=Qf eq;refine ⟨Oo,c,t,fi,ds,t1,e1,λvs H1 c1 f1 s1 rvs x dx hx hdx ne=>?_⟩;rw [uh8];have f2:=f1.laid (p:=dx) (o:=.own x) hdx;have s2:=f1.stp_laid (p:=dx) (o:=.own x) hdx;have hx2:upd H1 dx (.own x) x=none:=by rw [Ag (Ne.symm ne)];exact hx
  obtain ⟨c3,f3,s3,e3⟩:=f2.newObj (o:=.ins n []) (u:=.ins C dx []) hx2 λc' H' ext hu=>⟨⟨hn,λp hp=>by cases hp⟩,C,dx,[],hC,hu,.nil⟩;refine ⟨c3,.obj t1.S.length :: ds,_,f3.s,.cons (.obj e3) ((rvs.mono s2.ext).mono s3.ext),.non,S',e2,λv H' c' si st ho rv=>?_⟩;obtain ⟨f4,s4⟩:=f3.after si st ho
  cases rv
  exact ⟨rfl,kk _ H' c' f4 ((s1.trans s2).trans (s3.trans s4)) (.obj (st.ext.io _ _ e3))⟩
structure MAt (K:PySem.W.Frag)(n m:Str)(C fa:Addr):Prop where
 cl:n∈JS
 at_:nsIn K mainGlobals n=some (some (.ref C))
 me:Meth K C m fa
 na:m∉atN
theorem Hl {d:D}{t:T}{r:D}{t':T}(e:EU d (λ_ n' _=>if n'=n then bnd fl λds t=>match h (d :: ds) t.S with | some (r,S')=>some (r,{ t with S:=S' }) | none=>none else fail) t=some (r,t')) :
 ∃k fs ds t1 S',d = .obj k/\t.S[k]?=some (.ins n fs)/\fl t=some (ds,t1)/\h (d :: ds) t1.S=some (r,S')/\t' = { t1 with S:=S' }:=by
 obtain ⟨k,n',fs,rfl,es,q⟩:=He e
 by_cases hn:n'=n
 ·subst hn;rw [if_pos rfl] at q;obtain ⟨ds,t1,e1,q⟩:=Ae q;obtain ⟨S',e2,rfl⟩:=FH q;exact ⟨k,fs,ds,t1,S',rfl,es,e1,e2,rfl⟩
 ·rw [if_neg hn] at q;cases q
section
variable {k:Nat}{fa:Addr}{fd:FuncData}{ps:List Str}{h:Fn}{n m:Str}{qx:Bool}{E:L2.St->XK}
theorem FY (cm:CM X.K)(ma:MAt X.K n m C fa)(F:FnOk X.prog X.w X.K X.mg X.base CX0 k fa fd ps (spF X.K h))(hr:Room k X.A)(hb:Binds X.K fd ps [])(he:PE X o (RE X.K g))(ha:PA X (e :: es) (RA X.K fl))
 (h1:AZ e=false:=by rfl) (h2:A6 es=true:=by rfl) (ht:Em X o m (e :: es) apos pos pl:=by rfl):PE X (.Call (.Attribute o m apos) (e :: es) [] pos) (RE X.K (AV n h g fl)):=
 AI (U7 (pl:=pl) he (cm n ma.cl C ma.at_).1 ma.me F hr hb .nil HU ha (AR h1) (AS h2).1 ht) λσ H Q z9=>by
  obtain ⟨Oo,c,t,fi,r,t',eq,kk⟩:=z9;obtain ⟨d,t1,e1,eq⟩:=Ae eq;obtain ⟨j,fs,ds,t2,S',rfl,es,e2,e3,rfl⟩:=Hl eq;refine ⟨Oo,c,t,fi,.obj j,t1,e1,λv H1 c1 f1 s1 rv=>?_⟩;obtain ⟨b,rfl,hk⟩:=F9 rv;obtain ⟨⟨_,hat⟩,C',dx,us,g1,g2,g3⟩:=f1.s.obs j b _ hk es;rw [ma.at_] at g1
  cases g1
  refine ⟨b,dx,us,rfl,g2,g3.none λp hp z=>ma.na (z ▸ hat p hp),Oo,c1,t1,f1,ds,t2,e2,λvs H2 c2 f2 s2 rvs=>?_⟩;show spF X.K h (V.ref b :: (vs++[])) H2 Q E0;rw [uh8];refine ⟨c2,.obj j :: ds,t2.S,f2.s,.cons (.obj (s2.ext.io _ _ hk)) rvs,r,S',e3,λv H' c' si st ho rv=>?_⟩;obtain ⟨f3,s3⟩:=f2.after si st ho;exact kk v H' c' f3 ((s1.trans s2).trans s3) rv
theorem Ma (cm:CM X.K)(ma:MAt X.K n m C fa)(F:FnOk X.prog X.w X.K X.mg X.base CX0 k fa fd ps (spF X.K h))(hr:Room k X.A)(hb:Binds X.K fd ps [])(he:PE X o (RE X.K g))(ht:Em X o m [] apos pos pl:=by rfl) :
 PE X (.Call (.Attribute o m apos) [] [] pos) (RE X.K (AV n h g (ret []))):=
 AI (SI (pl:=pl) he (cm n ma.cl C ma.at_).1 ma.me F hr hb .nil HU ht) λσ H Q z9=>by
  obtain ⟨Oo,c,t,fi,r,t',eq,kk⟩:=z9;obtain ⟨d,t1,e1,eq⟩:=Ae eq;obtain ⟨j,fs,ds,t2,S',rfl,es,e2,e3,rfl⟩:=Hl eq
  cases e2
  refine ⟨Oo,c,t,fi,.obj j,t1,e1,λv H1 c1 f1 s1 rv=>?_⟩;obtain ⟨b,rfl,hk⟩:=F9 rv;obtain ⟨⟨_,hat⟩,C',dx,us,g1,g2,g3⟩:=f1.s.obs j b _ hk es;rw [ma.at_] at g1
  cases g1
  refine ⟨b,dx,us,rfl,g2,g3.none λp hp z=>ma.na (z ▸ hat p hp),?_⟩;refine ⟨c1,[.obj j],t1.S,f1.s,.cons (.obj hk) .nil,r,S',e3,λv H' c' si st ho rv=>?_⟩;obtain ⟨f3,s3⟩:=f1.after si st ho;exact kk v H' c' f3 (s1.trans s3) rv
theorem D6 (cm:CM X.K)(ma:MAt X.K n m C fa)(F:FnOk X.prog X.w X.K X.mg X.base (CX1 qx X.prog X.w) k fa fd ps (spX X.K h))(hr:Room k X.A)(hb:Binds X.K fd ps [])(hx:Ce (CX1 qx X.prog X.w) X E)(he:PE X o (RE X.K g))(ha:PA X (e :: es) (RA X.K fl))
 (h1:AZ e=false:=by rfl) (h2:A6 es=true:=by rfl) (ht:Em X o m (e :: es) apos pos pl:=by rfl):PE X (.Call (.Attribute o m apos) (e :: es) [] pos) (RX X.K E (AV n h g fl)):=
 AI (SJ (pl:=pl) he (cm n ma.cl C ma.at_).1 ma.me F hr hb hx ha (AR h1) (AS h2).1 ht) λσ H Q z9=>by
  obtain ⟨Oo,c,t,fi,r,t',eq,kk⟩:=z9;obtain ⟨d,t1,e1,eq⟩:=Ae eq;obtain ⟨j,fs,ds,t2,S',rfl,es,e2,e3,rfl⟩:=Hl eq;refine ⟨Oo,c,t,fi,.obj j,t1,e1,λv H1 c1 f1 s1 rv=>?_⟩;obtain ⟨b,rfl,hk⟩:=F9 rv;obtain ⟨⟨_,hat⟩,C',dx,us,g1,g2,g3⟩:=f1.s.obs j b _ hk es;rw [ma.at_] at g1
  cases g1
  refine ⟨b,dx,us,rfl,g2,g3.none λp hp z=>ma.na (z ▸ hat p hp),Oo,c1,t1,f1,ds,t2,e2,λvs H2 c2 f2 s2 rvs=>?_⟩;refine ⟨c2,.obj j :: ds,t2.S,f2.s,.cons (.obj (s2.ext.io _ _ hk)) rvs,r,S',e3,λv H' c' si st ho rv=>?_⟩;obtain ⟨f3,s3⟩:=f2.after si st ho;exact kk v H' c' f3 ((s1.trans s2).trans s3) rv
theorem L9 {x:Str}(F:FnOk X.prog X.w X.K X.mg X.base CX0 k fa fd ps (spF X.K h))(hr:Room k X.A)(hg:Gl X x)(hm:X.mg x=some (.ref C))(bc:ByCls X.K C m fa)(hb:Binds X.K fd ps [])(ha:PA X (e :: es) (RA X.K fl))
 (hdb:(x == ("__debug__" : Str))=false:=by decide) (h1:AZ e=false:=by rfl) (h2:A6 es=true:=by rfl) (ht:Em X (.Name x p) m (e :: es) apos pos pl:=by rfl):PE X (.Call (.Attribute (.Name x p) m apos) (e :: es) [] pos) (RE X.K (Ak h fl)):=
 AI (SC (pl:=pl) (E:=λ_=>E0) F hr hg hm bc hb (λpins σ H s e s'=>HU pins σ H s e s') ha hdb (AR h1) (AS h2).1 ht) λσ H Q z9=>by
  obtain ⟨Oo,c,t,fi,r,t',eq,kk⟩:=z9;obtain ⟨ds,t1,e1,eq⟩:=Ae eq;obtain ⟨S',e2,rfl⟩:=FH eq;refine ⟨Oo,c,t,fi,ds,t1,e1,λvs H1 c1 f1 s1 rvs=>?_⟩;refine ⟨c1,ds,t1.S,f1.s,rvs,r,S',e2,λv H' c' si st ho rv=>?_⟩;obtain ⟨f2,s2⟩:=f1.after si st ho;exact kk v H' c' f2 (s1.trans s2) rv
end
end
variable {K:PySem.W.Frag}
theorem Xl {k:Kd}{P:Program}{w:World}{mg:Str->Option Value}{base:Heap}{n:Nat}{fa:Addr}{fd:FuncData}{ps:List Str}{f:Fn}(h:okK k P w K mg base n fa fd ps f):okK k P w K mg base (n + 1) fa fd ps f:=by
 cases k <;> exact FnOk.mono h (ul7 _)
def L4 (K:PySem.W.Frag)(C:Addr):Bool:=plainGet K C Str.empty && hasDictIn K C && plainOver K C && findIn K (.ref C) "__setattr__" == some (some (.builtin "object.__setattr__")) && atN.all λf=>findIn K (.ref C) f == some none
variable {C:Addr}
theorem Uk (h:L4 K C=true):Cls K C/\∀f∈atN,NoAttr K C f:=by
 unfold L4 at h;simp only [ug5,beq_iff_eq,ug9] at h;obtain ⟨⟨⟨⟨a,b⟩,c⟩,d⟩,e⟩:=h;exact ⟨⟨a,b,c,d⟩,λf hf=>e f hf⟩
theorem YF (h:∀n∈JS,nsIn K mainGlobals n=some none\/∃C,nsIn K mainGlobals n=some (some (.ref C))/\L4 K C=true):CM K:=λn hn C e=>by
 rcases h n hn with q | ⟨C',q,b⟩
 ·rw [e] at q;cases q
 ·rw [e] at q;cases q;exact Uk b
noncomputable def Lr (K:PySem.W.Frag)(C:Addr):Bool:=makesIn K C && keepIn K (.ref C)
theorem TU {f:Addr}(h:Lr K C=true)(i:findIn K (.ref C) "__init__" = some (some (.ref f)))(hf:isFn K (.ref f)=true):Mk K C f:=by
 unfold Lr at h;simp only [ug5] at h;exact ⟨h.1,i,hf,h.2⟩
noncomputable def byB (K:PySem.W.Frag)(C:Addr)(m:Str):Bool:=specialIn K (.ref C) "__getattribute__" == some (some (.builtin "type.__getattribute__")) && readsIn K C (.type "type") && match findCls K (.ref C) (.type "type") m,findIn K (.ref C) m with | some (.val (.ref g)),some (some (.ref f))=>g == f | _,_=>false
theorem TH {f:Addr}{m:Str}(h:byB K C m=true)(i:findIn K (.ref C) m=some (some (.ref f)))(k:keepIn K (.ref f)=true):ByCls K C m f:=by
 unfold byB at h;simp only [ug5,beq_iff_eq] at h;obtain ⟨⟨a,b⟩,c⟩:=h;refine ⟨a,b,?_,k⟩;rw [i] at c
 split at c
 ·next g f' e1 e2=>
  cases e2
  rw [e1];exact c
 ·cases c
end F2
namespace F2
open PySem L2 PySem.Spec PyProof.Rows
section
variable {K:PySem.W.Frag}
end
abbrev Gd:=Option (Nat×List D)
def Gon (g:Gd)(S:List Ob):Prop:=∀k xs,g=some (k,xs)->S[k]?=some (.lst xs)
def chk (g:Gd):M Unit:=λt=>@ite _ (Gon g t.S) (Classical.propDecidable _) (some ((),t)) none
theorem Gj {g:Gd}{t t':T}{u:Unit}(h:chk g t=some (u,t')):Gon g t.S/\t'=t:=by
 unfold chk at h
 split at h
 ·next q=>cases h;exact ⟨q,rfl⟩
 ·cases h
theorem G4 {g:Gd}{t:T}(h:Gon g t.S):chk g t=some ((),t):=by unfold chk;rw [if_pos h]
def compG (g:Gd)(st:D->M Unit)(tst:M Bool)(elt:M D):List D->M (List D)
 | []=>bnd (chk g) λ_=>ret []
 | d :: r=>bnd (chk g) λ_=>bnd (st d) λ_=>bnd tst λk=>if k=true then bnd elt λx=>bnd (compG g st tst elt r) λxs=>ret (x :: xs) else compG g st tst elt r
def Ha (n:Nat)(fr:List Nat)(f:M (Gd×List D))(st:D->M Unit)(tst:M Bool)(elt:M D):M (List D):=bnd f λp t=>match compG p.1 st tst elt p.2 ⟨cenv n fr t.env,t.S⟩ with
 | some (xs,t')=>if xs.length<=LIM then some (xs,{ t with S:=t'.S }) else none
 | none=>none
structure ItOk3 (K:PySem.W.Frag)(J:It)(g:Gd)(c:Cf)(H:Hp)(ds:List D):Prop where
 go:∀c' H' S' (i:Nat),Ext c H c' H'->SInv K c' S' H'->Gon g S'->i < ds.length->J.go i H'
 yld:∀c' H' S' (i:Nat) x H'' d,Ext c H c' H'->SInv K c' S' H'->Gon g S'->ds[i]?=some d->J.yld i H' x H''->∃p vs es,x = .ref p/\H' p=none/\H''=upd H' p (.tup vs)/\d = .tup es/\Reps K c' H' vs es
 stop:∀c' H' S',Ext c H c' H'->SInv K c' S' H'->Gon g S'->J.stop ds.length H'
inductive RI3 (K:PySem.W.Frag)(f:M (Gd×List D))(σ:L2.St)(H:Hp)(R:It->Hp->Prop):Prop where
 | mk (Oo:Addr->Prop) (c:Cf) (t:T) (fi:FInv K Oo c t σ H) (p:Gd×List D) (t':T) (e:f t=some (p,t')) (k:∀J H' c',FInv K Oo c' t' σ H'->Stp Oo c H c' H'->ItOk3 K J p.1 c' H' p.2->R J H'):RI3 K f σ H R
section
variable {X:Cx}{e a b tg iter elt:Expr}{ifs:List Expr}{pos:Pos}{scope:Scope}{N':List Str}{n:Nat}{fr:List Nat}{st:D->M Unit}{tst:M Bool}{el:M D}
end
structure ItOkG (K:PySem.W.Frag)(J:It)(g:Gd)(c:Cf)(H:Hp)(ds:List D):Prop where
 go:∀c' H' S' (i:Nat),Ext c H c' H'->SInv K c' S' H'->Gon g S'->i < ds.length->J.go i H'
 yld:∀c' H' S' (i:Nat) x H'' d,Ext c H c' H'->SInv K c' S' H'->Gon g S'->ds[i]?=some d->J.yld i H' x H''->H''=H'/\Rep K c' H' x d
 stop:∀c' H' S',Ext c H c' H'->SInv K c' S' H'->Gon g S'->J.stop ds.length H'
theorem ItOk.toG {K:PySem.W.Frag}{J:It}{g:Gd}{c:Cf}{H:Hp}{ds:List D}(h:ItOk K J c H ds):ItOkG K J g c H ds:=
 ⟨λc' H' _ i e _ _=>h.go c' H' i e,λc' H' _ i x H'' d e _ _=>h.yld c' H' i x H'' d e,λc' H' _ e _ _=>h.stop c' H' e⟩
def RIG (K:PySem.W.Frag)(f:M (Gd×List D)):TI:=λσ H R=>∃Oo c t,FInv K Oo c t σ H/\∃p t',f t=some (p,t')/\∀J H' c',FInv K Oo c' t' σ H'->Stp Oo c H c' H'->ItOkG K J p.1 c' H' p.2->R J H'
def forG (g:Gd)(st:D->M Unit)(b:M Out):List D->M Out
 | []=>bnd (chk g) λ_=>ret .next
 | d :: r=>bnd (chk g) λ_=>bnd (st d) λ_=>bnd b λo=>match o with
   | .next=>forG g st b r
   | .cont=>forG g st b r
   | .brk=>ret .next
   | .ret x=>ret (.ret x)
def FL (f:M (Gd×List D))(st:D->M Unit)(b:M Out):M Out:=bnd f λp=>forG p.1 st b p.2
theorem RS.forG {μ:Cf->Hp->D->(V->Hp->Prop)->Prop}{K:PySem.W.Frag}{f:M (Gd×List D)}{st:D->M Unit}{b:M Out}{E:Ends}{σ:L2.St}{H:Hp}(q:RSg K μ (FL f st b) E σ H):Te (RIG K f) (RG K st) (RSg K μ b) E σ H:=by
 obtain ⟨Oo,c,t,fi,o,t',eq,k⟩:=q;obtain ⟨pg,t1,e1,eq⟩:=Ae eq;refine ⟨Oo,c,t,fi,pg,t1,e1,λJ H1 c1 f1 s1 it=>?_⟩;obtain ⟨g,ds⟩:=pg;dsimp only at eq it;refine ⟨λi m σ' H'=>m=ds.length - i/\i<=ds.length/\∃c' t2,FInv K Oo c' t2 σ' H'/\Stp Oo c1 H1 c' H'/\F2.forG g st b (ds.drop i) t2=some (o,t'),⟨_,rfl,ul6 _,c1,t1,f1,.refl,by rw [uj2];exact eq⟩,?_⟩;rintro i m σ' H' ⟨rfl,hi,c',t2,f2,s2,e2⟩
 by_cases hlt:i < ds.length
 ·rw [ub1 hlt] at e2;unfold F2.forG at e2;obtain ⟨u0,t0,e0,e2⟩:=Ae e2;obtain ⟨hon,ht0⟩:=Gj e0;rw [ht0] at e2;clear e0 ht0;refine .inr ⟨it.go c' H' _ i s2.ext f2.s hon hlt,λσ3 H3=>∃c3 t3,FInv K Oo c3 t3 σ3 H3/\Stp Oo c1 H1 c3 H3/\F2.forG g st b (ds.drop (i + 1)) t3=some (o,t'),λσ3 H3 h=>⟨ds.length - (i + 1),by lia,rfl,hlt,h⟩,λx H'' hy=>?_⟩;obtain ⟨rfl,rx⟩:=it.yld c' H' _ i x H'' _ s2.ext f2.s hon (ub3 hlt) hy;obtain ⟨u,t3,e3,e2⟩:=Ae e2;obtain ⟨o4,t4,e4,e2⟩:=Ae e2;refine ⟨Oo,c',t2,_,f2,rx,t3,e3,λσ3 H3 c3 f3 s3=>?_⟩;refine ⟨Oo,c3,t3,f3,o4,t4,e4,λσ5 H5 c5 f5 s5=>?_⟩;have s':=(s2.trans s3).trans s5
  cases o4 with
  | next=>exact ⟨c5,t4,f5,s',e2⟩
  | cont=>exact ⟨c5,t4,f5,s',e2⟩
  | brk=>cases e2;exact k σ5 H5 c5 f5 (s1.trans s')
  | ret r=>cases e2;exact k σ5 H5 c5 f5 (s1.trans s')
 ·have hi':i=ds.length:=by lia
  subst hi';rw [ug7] at e2;unfold F2.forG at e2;obtain ⟨u0,t0,e0,e2⟩:=Ae e2;obtain ⟨hon,ht0⟩:=Gj e0;rw [ht0] at e2;clear e0 ht0
  cases e2
  exact .inl ⟨it.stop c' H' _ s2.ext f2.s hon,k σ' H' c' f2 (s1.trans s2)⟩
theorem RF.compG {K:PySem.W.Frag}{n:Nat}{fr:List Nat}{f:M (Gd×List D)}{st:D->M Unit}{tst:M Bool}{elt:M D}{σ:L2.St}{H:Hp}{Q:VK}(q:RF K (Ha n fr f st tst elt) σ H Q):Lu (RIG K f) (RG K st) (RT K tst) (RE K elt) (EQ n fr) σ H Q:=by
 obtain ⟨Oo,c,t,fi,xs,t',eq,k⟩:=q;obtain ⟨pg,t1,e1,eq⟩:=Ae eq;refine ⟨Oo,c,t,fi,pg,t1,e1,λJ H1 c1 f1 s1 it=>?_⟩;obtain ⟨g,ds⟩:=pg;dsimp only at eq it
 cases e3:F2.compG g st tst elt ds ⟨cenv n fr t1.env,t1.S⟩ with
 | none=>rw [e3] at eq;cases eq
 | some p=>
   obtain ⟨ys,t3⟩:=p;rw [e3] at eq;dsimp only at eq
   split at eq
   case isFalse=>cases eq
   next hl=>
   cases eq
   refine ⟨λi m acc σ' H'=>m=ds.length - i/\i<=ds.length/\∃c' t2 zs rest,FInv K c1.O c' t2 σ' H'/\Stp c1.O c1 H1 c' H'/\Reps K c' H' acc zs/\F2.compG g st tst elt (ds.drop i) t2=some (rest,t3)/\xs=zs++rest,
    ⟨_,rfl,ul6 _,c1,_,[],xs,Go f1,.refl,.nil,by rw [uj2];exact e3,rfl⟩,?_⟩
   rintro i m acc σ' H' ⟨rfl,hi,c',t2,zs,rest,f2,s2,ra,e2,ez⟩;have hacc:acc.length<=sizeLine:=by
    have:zs.length<=xs.length:=by rw [ez,ue3];exact ug8 _ _
    rw [ra.length];exact uk7 this (uk7 hl Ci)
   refine ⟨hacc,?_⟩
   by_cases hlt:i < ds.length
   ·rw [ub1 hlt] at e2;unfold F2.compG at e2;obtain ⟨u0,t0,e0,e2⟩:=Ae e2;obtain ⟨hon,ht0⟩:=Gj e0;rw [ht0] at e2;clear e0 ht0;refine .inr ⟨it.go c' H' _ i s2.ext f2.s hon hlt,λx H'' hy=>?_⟩;obtain ⟨rfl,rx⟩:=it.yld c' H' _ i x H'' _ s2.ext f2.s hon (ub3 hlt) hy;obtain ⟨u,t4,e4,e2⟩:=Ae e2;obtain ⟨kb,t5,e5,e2⟩:=Ae e2;refine ⟨c1.O,c',t2,_,f2,rx,t4,e4,λσ3 H3 c3 f3 s3=>⟨c1.O,c3,t4,f3,kb,t5,e5,λH4 c4 f4 s4=>?_⟩⟩
    cases kb with
    | false=>
      rw [if_neg ue0] at e2 ⊢;exact ⟨ds.length - (i + 1),by lia,rfl,hlt,c4,t5,zs,rest,f4,(s2.trans s3).trans s4,ra.mono (s3.trans s4).ext,e2,ez⟩
    | true=>
      rw [if_pos rfl] at e2 ⊢;obtain ⟨x6,t6,e6,e2⟩:=Ae e2;obtain ⟨r7,t7,e7,e2⟩:=Ae e2
      cases e2
      refine ⟨c1.O,c4,t5,f4,x6,t6,e6,λv H5 c5 f5 s5 rv=>?_⟩;exact ⟨ds.length - (i + 1),by lia,rfl,hlt,c5,t6,zs++[x6],r7,f5,((s2.trans s3).trans s4).trans s5,(ra.mono ((s3.trans s4).trans s5).ext).append (.cons rv .nil),e7,by rw [ez,uf4];rfl⟩
   ·have hi':i=ds.length:=by lia
    subst hi';rw [ug7] at e2;unfold F2.compG at e2;obtain ⟨u0,t0,e0,e2⟩:=Ae e2;obtain ⟨hon,ht0⟩:=Gj e0;rw [ht0] at e2;clear e0 ht0
    cases e2
    refine .inl ⟨it.stop c' H' _ s2.ext f2.s hon,λp hp _=>?_⟩;obtain ⟨si,ext⟩:=f2.leave;obtain ⟨f6,s6⟩:=f1.after si ⟨s2.ext.trans ext,s2.oo⟩ (λ_=>Iff.rfl);rw [uh8] at ez;subst ez;exact k p acc H' _ f6 (s1.trans s6) (ra.mono ext) hp
def F1:D->M (Gd×List D)
 | .obj k=>λt=>match t.S[k]? with
   | some (.lst ds)=>some ((some (k,ds),ds),t)
   | _=>none
 | d=>bnd (Df d) λds=>ret (none,ds)
def Hb (f:M D):M (Gd×List D):=bnd f F1
theorem ItOkG.lst {K:PySem.W.Frag}{g:Gd}{c:Cf}{H:Hp}{p:Addr}{ds:List D}(r:∀c' H' S',Ext c H c' H'->SInv K c' S' H'->Gon g S'->∃vs,SqL K H' p vs/\Reps K c' H' vs ds):ItOkG K (Itl K p) g c H ds:=by
 refine ⟨λc' H' S' i ex si on hi=>?_,λc' H' S' i x H'' d ex si on hd hy=>?_,λc' H' S' ex si on=>?_⟩
 ·obtain ⟨vs,h1,h2⟩:=r c' H' S' ex si on;obtain ⟨v,e,_⟩:=h2.at (ub3 hi);exact ⟨vs,v,h1,e⟩
 ·obtain ⟨vs,h1,h2⟩:=r c' H' S' ex si on;obtain ⟨rfl,hx⟩:=hy;exact ⟨rfl,h2.get (hx vs h1) hd⟩
 ·obtain ⟨vs,h1,h2⟩:=r c' H' S' ex si on;exact ⟨vs,h1,by rw [h2.length];exact ul5 _⟩
section
variable {X:Cx}{e a b tg iter elt:Expr}{ifs:List Expr}{pos:Pos}{scope:Scope}{N':List Str}{n:Nat}{fr:List Nat}{st:D->M Unit}{tst:M Bool}{el:M D}
theorem UD {μ:Cf->Hp->D->(V->Hp->Prop)->Prop}{body:List Stmt}{f:M (Gd×List D)}{b:M Out}(hp:PassesOwn (model X.prog X.w) X.A X.env X.xe)(hc:X.calm=true)(hi:PI X tg iter (RIG X.K f))(hg:PG X tg (RG X.K st))(hb:PSs X body (RSg X.K μ b))
 (hs:∀x,foldedSetIterable iter X.env x=pure x:=by intro _;rfl):PS X (.For tg iter body [] pos) (RSg X.K μ (FL f st b)):=
 Bb (Qx hp hc hi hg hb hs) λ_ _ _ q=>RS.forG q
theorem RJ {f:M (Gd×List D)}(O:CmpOk X scope N' (EQ n fr))(hc:X.calm=true)(hi:PI X tg iter (RIG X.K f))
 (hg:∀cl C s2 H2 fp,PG (B9 X N' scope cl C s2 H2 fp) tg (RG X.K st)) (ht:∀cl C s2 H2 fp,PIf (B9 X N' scope cl C s2 H2 fp) ifs (RT X.K tst)) (he:∀cl C s2 H2 fp,PE (B9 X N' scope cl C s2 H2 fp) elt (RE X.K el))
 (hs:∀x,foldedSetIterable iter X.env x=pure x:=by intro _;rfl):PE X (.ListComp elt [⟨tg,iter,ifs,0⟩] scope pos) (RF X.K (Ha n fr f st tst el)):=
 AI (Kc O hc hi hg ht he hs) λ_ _ _ q=>RF.compG q
theorem Uv {f:M D}(h:PE X e (RE X.K f)):PI X tg e (RIG X.K (Hb f)):=
 GU (Qs h) λσ H R z=>by
  obtain ⟨Oo,c,t,fi,ds,t',eq,k⟩:=z;obtain ⟨d,t1,e1,eq⟩:=Ae eq;refine ⟨Oo,c,t,fi,d,t1,e1,λv H1 c1 f1 s1 rv=>?_⟩
  cases rv with
  | @obj a kk hk=>
    unfold F1 at eq;dsimp only at eq
    split at eq
    ·next es hS=>
     cases eq
     obtain ⟨ws,g1,g3⟩:=f1.s.obs kk a _ hk hS;refine .inl ⟨a,rfl,⟨ws,SqL.of g1⟩,k _ H1 c1 f1 s1 (ItOkG.lst λc' H' S' ex si on=>?_)⟩;obtain ⟨us,q1,q2⟩:=si.obs kk a _ (ex.io _ _ hk) (on kk es rfl);exact ⟨us,SqL.of q1,q2⟩
    ·cases eq
  | @lst p vs ds' h1 h2 h3=>
    cases eq
    exact .inl ⟨p,rfl,⟨vs,SqL.of h1⟩,k _ H1 c1 f1 s1 (ItOk.toG (ItOk.lst λc' H' ex=>⟨vs,SqL.of (ex.keep _ _ h1 h2),h3.mono ex⟩))⟩
  | @scr p ns h1=>
    cases eq
    exact .inl ⟨p,rfl,⟨_,h1.sq⟩,k _ H1 c1 f1 s1 (ItOk.toG (ItOk.lst λc' H' ex=>⟨_,(h1.mono ex).sq,Reps.ints ns⟩))⟩
  | @tup p vs ds' h1 h2 h3=>
    cases eq
    exact .inr (.inl ⟨p,rfl,⟨vs,SqT.of h1⟩,k _ H1 c1 f1 s1 (ItOk.toG (ItOk.tup λc' H' ex=>⟨vs,SqT.of (ex.keep _ _ h1 h2),h3.mono ex⟩))⟩)
  | str x=>
    cases eq
    exact .inr (.inr ⟨x,rfl,k _ H1 c1 f1 s1 (ItOk.toG ItOk.str)⟩)
  | _=>cases eq
end
noncomputable def Cc (S:List Ob):Nat->D->D
 | 0,d=>d
 | n + 1,.obj k=>match S[k]? with
   | some (.lst ds)=>.lst (ds.map (Cc S n))
   | _=>.obj k
 | n + 1,.tup ds=>.tup (ds.map (Cc S n))
 | n + 1,.lst ds=>.lst (ds.map (Cc S n))
 | _ + 1,d=>d
def eqO (g:Bool->Bool)(x y:D):M D:=λt=>if (Bv (Cc t.S 16 x) && Bv (Cc t.S 16 y))=true then (eqN EQD (Cc t.S 16 x) (Cc t.S 16 y)).map λb=>(.bl (g b),t) else none
theorem IG {K:PySem.W.Frag}{c:Cf}{S:List Ob}{H:Hp}(s:SInv K c S H):∀(n:Nat) {v:V} {d:D},Rep K c H v d->Bv (Cc S n d)=true->Rep K c0 H v (Cc S n d)
 | 0,v,d,r,p=>DN r (by simpa only [Cc] using p)
 | n + 1,v,d,r,p=>by
   have row:∀{vs:List V} {ds:List D},Reps K c H vs ds->GG (ds.map (Cc S n))=true->Reps K c0 H vs (ds.map (Cc S n)):=by
    intro vs ds q
    induction ds generalizing vs with
    | nil=>intro _;cases q;exact .nil
    | cons d ds ih=>
      intro p
      cases q with
      | cons a b=>
        rw [uj6,GG,ug5] at p;exact .cons (IG s n a p.1) (ih b p.2)
   cases r with
   | @obj a k hk=>
     unfold Cc at p ⊢
     split
     ·next ds e=>
      rw [e] at p;obtain ⟨vs,h1,h2⟩:=s.obs k a _ hk e;exact .lst h1 (GX _) (row h2 (by simpa [Bv] using p))
     ·next h=>
      split at p
      ·next ds e=>exact absurd e (h ds)
      ·simp [Bv] at p
   | tup h m q=>rw [Cc] at p ⊢;exact .tup h (GX _) (row q (by simpa only [Bv] using p))
   | lst h m q=>rw [Cc] at p ⊢;exact .lst h (GX _) (row q (by simpa only [Bv] using p))
   | non=>exact .non
   | bl b=>exact .bl b
   | int b=>exact .int b
   | str b=>exact .str b
   | ty b=>exact .ty b
   | scr h=>exact DN (c:=c) (.scr h) p
   | dic h n=>exact DN (.dic h n) p
   | exc a b n f q=>exact DN (.exc a b n f q) p
theorem Vu {K:PySem.W.Frag}{g:Bool->Bool}:Bh K (OL K g) (eqO g):=λ{Oo c t σ H x y dx dy r t' Q} f rx ry eq k=>by
 unfold eqO at eq
 split at eq
 ·next hp=>
  rw [ug5] at hp;obtain ⟨b,e1,e2⟩:=uc2.mp eq
  cases e2
  exact ⟨c0,_,_,b,IG f.s 16 rx hp.1,IG f.s 16 ry hp.2,e1,k _ H c f .refl (.bl (g b))⟩
 ·cases eq
def b5:List D->M D
 | [d,.tup [.ty m1,.ty m2]]=>λt=>match d with
   | .obj k=>match t.S[k]? with
     | some (.lst _)=>match EV "list" m1,EV "list" m2 with
       | some b1,some b2=>some (.bl (b1 || b2),t)
       | _,_=>none
     | _=>none
   | d=>match tyD d with
     | some n=>match EV n m1,EV n m2 with
       | some b1,some b2=>some (.bl (b1 || b2),t)
       | _,_=>none
     | none=>none
 | _=>fail
end F2
namespace L2
open PySem PySem.Spec PyProof.Rows
section
variable {X:Cx}{k:Nat}{f l I S:Addr}{fd:FuncData}{ps:List Str}{sp:Sp}{pins:List (Addr×Obj)}{σ:St}{H:Hp}{s:Shared}{Q:VK}{oS oI oS' oI':Obj}{h':Heap}{t':Nat}
end
end L2
namespace F2
open PySem L2 PySem.Spec PySem.W
section
variable {K:PySem.W.Frag}{g:Fn}
end
end F2
namespace F2
open PySem L2 PySem.Spec PyProof.Rows
section
variable {X:Cx}{e:Expr}{pos:Pos}
def slF:D->Option Int->Option Int->M (List D)
 | .lst ds,lo,hi=>ret (Ca ds lo hi)
 | .scr ns,lo,hi=>ret ((Ca ns lo hi).map .int)
 | .obj k,lo,hi=>λt=>match t.S[k]? with
   | some (.lst ds)=>some (Ca ds lo hi,t)
   | _=>none
 | _,_,_=>fail
def Oh (f:M D)(l u:M (Option Int)):M (List D):=bnd f λd=>bnd l λa=>bnd u λb=>slF d a b
theorem RK {f:M D}{l u:M (Option Int)}{lo hi:Option Expr}{p2:Pos}(he:PE X e (RE X.K f))(hl:PO X lo (RO X.K l))(hu:PO X hi (RO X.K u)):PE X (.Subscript e (.Slice lo hi none p2) pos) (RF X.K (Oh f l u)):=
 AI (Mz sl2 he hl hu) λσ H Q z9=>by
  obtain ⟨Oo,c,t,fi,r,t',eq,k⟩:=z9;obtain ⟨d,t1,e1,eq⟩:=Ae eq;obtain ⟨ol,t2,e2,eq⟩:=Ae eq;obtain ⟨oh,t3,e3,eq⟩:=Ae eq;refine ⟨Oo,c,t,fi,d,t1,e1,λv H1 c1 f1 s1 rv=>⟨Oo,c1,t1,f1,ol,t2,e2,λH2 c2 f2 s2=>⟨Oo,c2,t2,f2,oh,t3,e3,λH3 c3 f3 s3=>?_⟩⟩⟩;have rv3:=rv.mono (s2.trans s3).ext;have st:=(s1.trans s2).trans s3
  cases rv3 with
  | @lst p vs ds h1 h2 h3=>
    cases eq
    exact ⟨p,vs,rfl,SqL.of h1,λq hq=>k q _ _ c3 f3 st (IH h3 ol oh) hq⟩
  | @scr p ns h1=>
    cases eq
    refine ⟨p,_,rfl,h1.sq,λq hq=>k q _ _ c3 f3 st ?_ hq⟩;rw [Ky];exact Reps.ints _
  | @obj a kk h1=>
    unfold slF at eq;dsimp only at eq
    split at eq
    ·next ds es=>
     cases eq
     obtain ⟨vs,g1,g2⟩:=f3.s.obs kk a _ h1 es;exact ⟨a,vs,rfl,SqL.of g1,λq hq=>k q _ _ c3 f3 st (IH g2 ol oh) hq⟩
    ·cases eq
  | _=>cases eq
def objX (f:M D)(g:M (List D)):M D:=bnd f λo=>match o with
 | .obj k=>λt=>match t.S[k]? with
   | some (.lst _)=>bnd g (λds t1=>match t1.S[k]?,ds with
     | some (.lst xs),[.obj j]=>match t1.S[j]? with
       | some (.lst ys)=>if xs.length + ys.length<=LIM then some (.non,{ t1 with S:=t1.S.set k (.lst (xs++ys)) }) else none
       | _=>none
     | _,_=>none) t
   | _=>none
 | _=>fail
theorem RE.objX {K:PySem.W.Frag}{f:M D}{g:M (List D)}{σ:L2.St}{H:Hp}{Q:VK}(q:RE K (F2.objX f g) σ H Q):tBM K "list" (OM K) (RE K f) (RA K g) σ H Q:=by
 obtain ⟨Oo,c,t,fi,r,t',eq,k⟩:=q;obtain ⟨o,t0,e0,eq⟩:=Ae eq;refine ⟨Oo,c,t,fi,o,t0,e0,λx H0 c0 f0 s0 rx=>?_⟩
 cases rx with
 | @obj a kk hk=>
   dsimp only at eq
   split at eq
   ·next xs0 ex0=>
    obtain ⟨ds,t1,e1,eq⟩:=Ae eq;obtain ⟨vs0,g0,g0'⟩:=f0.s.obs kk a _ hk ex0;refine ⟨.inl ⟨rfl,vs0,SqL.of g0⟩,Oo,c0,t0,f0,ds,t1,e1,λus H1 c1 f1 s1 rus=>?_⟩
    split at eq
    ·next xs j ex=>
     split at eq
     ·next ys ey=>
      split at eq
      ·next hl=>
       cases eq
       have hk1:=s1.ext.io _ _ hk;obtain ⟨vs,g1,g2⟩:=f1.s.obs kk a _ hk1 ex;obtain ⟨v,rfl,rv⟩:=Fa rus
       cases rv with
       | @obj b jj hj=>
         obtain ⟨ws,w1,w2⟩:=f1.s.obs _ b _ hj ey;obtain ⟨f2,s2⟩:=f1.wrObj (o:=.lst (xs++ys)) (u:=.lst (vs++ws)) hk1 λc' H' ext hu=>⟨_,hu,(g2.append w2).mono ext⟩;exact ⟨a,b,vs,ws,rfl,rfl,g1,w1,by rw [g2.length,w2.length];exact uk7 hl Ci,k _ _ c1 f2 ((s0.trans s1).trans s2) .non⟩
      ·cases eq
     ·cases eq
    ·cases eq
   ·cases eq
 | _=>cases eq
theorem Oj {o:Expr}{es:List Expr}{f:M D}{g:M (List D)}{apos cpos:Pos}(ho:PE X o (RE X.K f))(ha:PA X (e :: es) (RA X.K g))
 (hbase:attributeBase o "extend" X.env (eval o X.env)=eval o X.env:=by rfl)
 (hfew:((backTo cpos (starEach (e :: es) X.env)).all (λx=>!x.1) && (backToKw cpos (keywordEach [] X.env)).all (λx=>x.1.isSome) && decide ((e :: es).length + ([]:List Keyword).length + (if ([]:List Keyword).isEmpty then 0 else 1) < 30))=true:=by rfl)
 (hline:(apos.endLine == cpos.line)=true:=by rfl) (hs:starEach (e :: es) X.env=(false,eval e X.env) :: starEach es X.env:=by rfl) (hplain:(backTo cpos (starEach es X.env)).any (·.1)=false:=by rfl) :
 PE X (.Call (.Attribute o "extend" apos) (e :: es) [] cpos) (RE X.K (objX f g)):=
 AI (Jr ub6 PySem.F.slot_list_extend PySem.F.type_list_extend NC ho ha hbase hfew hline hs hplain) λ_ _ _ q=>RE.objX q
theorem MH {K:PySem.W.Frag}{Oo:Addr->Prop}{c:Cf}{t:T}{σ:L2.St}{H:Hp}{x:V}{dx:D}{xs:List D}(f:FInv K Oo c t σ H)(rx:Rep K c H x dx)(e:DK t.S dx = .lst xs):∃a vs,x = .ref a/\H a=some (.lst vs)/\Reps K c H vs xs:=by
 cases rx with
 | @lst a vs ds h1 h2 h3=>
   cases e
   exact ⟨a,vs,rfl,h1,h3⟩
 | @obj a kk hk=>
   unfold DK at e;dsimp only at e
   split at e
   ·next es=>
    cases e
    obtain ⟨vs,q1,q2⟩:=f.s.obs _ a _ hk es;exact ⟨a,vs,rfl,q1,q2⟩
   ·cases e
 | _=>cases e
def Jd (x y:D):M (List D):=λt=>match DK t.S x,DK t.S y with
 | .lst xs,.lst ys=>lim (xs.length + ys.length) (xs++ys) t
 | _,_=>none
theorem QH {K:PySem.W.Frag}:Lh K OK Jd:=λ{Oo c t σ H x y dx dy r t' Q} f rx ry eq k=>by
 unfold Jd at eq
 split at eq
 ·next xs ys e1 e2=>
  obtain ⟨h,z⟩:=DT eq
  cases z
  obtain ⟨a,vs,rfl,h1,h3⟩:=MH f rx e1;obtain ⟨b,ws,rfl,g1,g3⟩:=MH f ry e2;refine ⟨a,b,vs,ws,rfl,rfl,h1,g1,?_,λp hp=>k p _ H c f .refl (h3.append g3) hp⟩;rw [h3.length,g3.length];exact uk7 h Ci
 ·cases eq
end
section
variable {X:Cx}{e elt tg iter:Expr}{pos:Pos}{scope:Scope}{N':List Str}{ifs:List Expr}{n:Nat}{fr:List Nat}{f:M (List D)}{st:D->M Unit}{tst:M Bool}{el:M D}
end
section
variable {X:Cx}{e:Expr}
noncomputable def Gk (f g:M D):M D:=λt=>match f t with
 | some r=>some r
 | none=>g t
theorem Pq {f g:M D}{t:T}{r:D×T}(h:Gk f g t=some r):f t=some r\/g t=some r:=by
 unfold Gk at h
 split at h
 ·next x e=>exact .inl (by rw [e,h])
 ·exact .inr h
theorem WZ {E:L2.St->XK}{f g:M D}(h1:PE X e (RX X.K E f))(h2:PE X e (RX X.K E g)):PE X e (RX X.K E (Gk f g)):=λpins s σ H Q I q=>by
 obtain ⟨Oo,c,t,fi,r,t',eq,k⟩:=q;rcases Pq eq with eq | eq
 ·exact h1 pins s σ H Q I ⟨Oo,c,t,fi,r,t',eq,k⟩
 ·exact h2 pins s σ H Q I ⟨Oo,c,t,fi,r,t',eq,k⟩
end
end F2
namespace LW
open PySem L2 F2
def Dl (LS:Fn):M Out:=
 (Ap (Ed (Ak LS (Ab (Aa 0) Ad)) (EJ (Aa 1) (Aa 0) (Aa 2) leA leA)))
def Mp (JN LQ LP LR BF:Fn):M Out:=
 (Af (As 2 (Ac (Aa 0) (fC (.int 0)) ixD))
 (Af (ifS (An (Ac (Aa 2) (fC (.str "nothing")) (eqS id)))
   (Ap (Ac (Aa 1) (fC .non) isC))
   Ar)
 (Af (ifS (An (Ac (Aa 2) (fC (.str "number")) (eqS id)))
   (Ap (Ak BF (Ab (Aa 1) (Ab (Ac (Aa 0) (fC (.int 1)) ixD) (Ab (Ac (Aa 0) (fC (.int 2)) ixD) Ad)))))
   Ar)
 (Af (ifS (An (Ac (Aa 2) (fC (.str "text")) (eqS id)))
   (Ap (Ak LR (Ab (Aa 0) (Ab (Aa 1) Ad))))
   Ar)
 (Af (ifS (An (Ac (Aa 2) (fC (.str "list")) (eqS id)))
   (Ap (Ak LP (Ab (Aa 0) (Ab (Aa 1) Ad))))
   Ar)
 (Af (ifS (An (Ac (Aa 2) (fC (.str "pair")) (eqS id)))
   (Ap (Ak LQ (Ab (Aa 0) (Ab (Aa 1) Ad))))
   Ar)
 (Ap (Ak JN (Ab (Aa 0) (Ab (Aa 1) Ad))))))))))
def Hh:M Out:=
 (Ap (Ed (EJ (fC (.int 32)) (Aa 0) (fC (.int 126)) leA leA) (Ac (Aa 0) (fC (.int 37)) (eqS λb=>!b))))
def Fq:M Out:=
 (Ap (Ac (Ac (Ac (Ac (Aa 0) (Ac (Aa 1) (fC (.int 0)) ixD) ixD) (fC (.int 1)) ixD) (Ac (Aa 1) (fC (.int 1)) ixD) ixD) (fC (.int 2)) ixD))
def Dn (D4 JO:Fn):M Out:=
 (Af (ifS (fOr (Co (An (fB (Ab (Aa 1) (Ab (fC (.ty "tuple")) Ad)) Eg))) (An (Ac (fB (Ab (Aa 1) Ad) A4) (fC (.int 3)) (eqS λb=>!b))))
   (Ap (fC .non))
   Ar)
 (Af (ifS (fOr (Co (An (fB (Ab (Ac (Aa 1) (fC (.int 0)) ixD) (Ab (fC (.ty "str")) Ad)) Eg))) (An (Ac (Ac (Aa 1) (fC (.int 0)) ixD) (Ac (Aa 0) (fC (.int 0)) ixD) (eqS λb=>!b))))
   (Ap (fC .non))
   Ar)
 (Af (As 2 (Ak JO (Ab (Aa 0) (Ab (Ac (Aa 1) (fC (.int 1)) ixD) Ad))))
 (Af (ifS (fOr (An (Ac (Aa 2) (fC .non) isC)) (Co (An (Ak D4 (Ab (Ac (Ac (Ac (Aa 0) (fC (.int 1)) ixD) (Aa 2) ixD) (fC (.int 1)) ixD) (Ab (Ac (Aa 1) (fC (.int 2)) ixD) Ad))))))
   (Ap (fC .non))
   Ar)
 (Ap (Aa 2))))))
def E1 (M0:Fn):M Out:=
 (Af (ifS (Co (An (fB (Ab (Aa 1) (Ab (fC (.ty "str")) Ad)) Eg)))
   (Ap (fC .non))
   Ar)
 (Af (As 2 (Ak M0 (Ab (Aa 0) Ad)))
 (Af (C4 (C8 (Ab (fB (Ab (Aa 2) Ad) A4) Ad)) (AF 3)
   (ifS (An (Ac (Ac (Ac (Aa 2) (Aa 3) ixD) (fC (.int 0)) ixD) (Aa 1) (eqS id)))
   (Ap (Aa 3))
   Ar))
 (Ap (fC .non)))))
def GA (GZ:Fn):M Out:=
 (Ap (fIf (An (Ak GZ (Ab (Aa 0) Ad))) (AU Ad) (Ac (Aa 0) (fC (.int 1)) ixD)))
def Ix:M Out:=
 (Ap (Ac (Ac (Aa 0) (fC (.int 0)) ixD) (fC (.str "end")) (eqS id)))
def E3:M Out:=
 (Ap (Ac (Ac (fUn (Aa 0) IU) (fC (.int 7)) AT) (fC (.int 8)) A0))
def EB (Gi:Fn):M Out:=
 (FU (B0 1 [0,1] (Gm (Ab (fC (.int 1)) (Ab (Ac (Aa 1) (fC (.int 1)) AT) Ad))) (AF 0) FD (Ac (Ak Gi (Ab (Aa 1) (Ab (Ac (Aa 2) (Aa 0) Cz) Ad))) (fC (.int 256)) Ba)))
def Hj:M Out:=
 (Ap (Ac (Aa 0) (Ac (fC (.int 8)) (Aa 1) DI) MM))
def Da (JP LV LU LX JQ:Fn):M Out:=
 (Af (As 3 (Ac (Aa 0) (fC (.int 0)) ixD))
 (Af (ifS (An (Ac (Aa 3) (fC (.str "nothing")) (eqS id)))
   (Ap (nxD (AU (Ab (fC .non) (Ab (Aa 2) Ad)))))
   Ar)
 (Af (ifS (An (Ac (Aa 3) (fC (.str "number")) (eqS id)))
   (Ap (Ak JQ (Ab (Aa 0) (Ab (Aa 1) (Ab (Aa 2) Ad)))))
   Ar)
 (Af (ifS (An (Ac (Aa 3) (fC (.str "text")) (eqS id)))
   (Ap (Ak LX (Ab (Aa 0) (Ab (Aa 1) (Ab (Aa 2) Ad)))))
   Ar)
 (Af (ifS (An (Ac (Aa 3) (fC (.str "list")) (eqS id)))
   (Ap (Ak LU (Ab (Aa 0) (Ab (Aa 1) (Ab (Aa 2) Ad)))))
   Ar)
 (Af (ifS (An (Ac (Aa 3) (fC (.str "pair")) (eqS id)))
   (Ap (Ak LV (Ab (Aa 0) (Ab (Aa 1) (Ab (Aa 2) Ad)))))
   Ar)
 (Ap (Ak JP (Ab (Aa 0) (Ab (Aa 1) (Ab (Aa 2) Ad)))))))))))
def Fm:M Out:=
 (Af (ifS (An (Ac (Aa 1) (fB (Ab (Aa 0) Ad) A4) geA))
   (Fy "Short" (Ab (fC (.str "the bytes end within a value")) Ad))
   Ar)
 (Ap (nxD (Ac (Aa 0) (Aa 1) ixD))))
def Ei (Eb:Fn):M Out:=
 (Af (Cd 3 (Ak Eb (Ab (Aa 1) (Ab (Aa 2) Ad))))
 (Af (ifS (An (Ac (Aa 3) (Aa 0) gtA))
   (Do "Broken" (Ab (Aa 2) (Ab (fC .non) Ad)))
   Ar)
 (Ap (nxD (Aa 3)))))
def CN (Gi Eb Ep:Fn):M Out:=
 (Af (As 3 (Ac (Ac (Aa 0) (fC (.int 2)) ixD) (Ac (Aa 0) (fC (.int 1)) ixD) Cz))
 (Af (As 4 (Ak Ep (Ab (Aa 3) Ad)))
 (Af (As 5 (fC (.int 0)))
 (Af (C4 (C8 (Ab (Aa 4) Ad)) (AF 6)
   (Af (Cd 5 (HI (Ac (Aa 5) (fC (.int 256)) DI) (Ak Eb (Ab (Aa 1) (Ab (Ac (Aa 2) (Aa 6) AT) Ad))) AT))
 (ifS (An (Ac (Aa 5) (Ak Gi (Ab (Aa 3) (Ab (Ac (Ac (Aa 4) (fC (.int 1)) Cz) (Aa 6) Cz) Ad))) gtA))
   (Do "Broken" (Ab (Ac (Aa 2) (Aa 6) AT) (Ab (fC .non) Ad)))
   Ar)))
 (Ap (nxD (AU (Ab (Ac (Ac (Aa 0) (fC (.int 1)) ixD) (Aa 5) AT) (Ab (Ac (Aa 2) (Aa 4) AT) Ad)))))))))
def DA (Oa CW:Fn):M Out:=
 (Af (Cd 3 (Ak CW (Ab (Ac (Aa 0) (fC (.int 1)) ixD) (Ab (Aa 1) (Ab (Aa 2) Ad)))))
 (Af (As 4 (Ac (Aa 2) (fC (.int 1)) AT))
 (Af (As 5 (fC (.str "")))
 (Af (C4 (C8 (Ab (Aa 3) Ad)) (AF 6)
   (Cd 5 (HI (Aa 5) (Ak Oa (Ab (Aa 1) (Ab (Ac (Aa 4) (Aa 6) AT) Ad))) AT)))
 (Ap (nxD (AU (Ab (Aa 5) (Ab (Ac (Aa 4) (Aa 3) AT) Ad)))))))))
def Fp (Gh Eb:Fn):M Out:=
 (Af (Cd 2 (Ak Eb (Ab (Aa 0) (Ab (Aa 1) Ad))))
 (Af (ifS (Co (An (Ak Gh (Ab (Aa 2) Ad))))
   (Do "Broken" (Ab (Aa 1) (Ab (fC .non) Ad)))
   Ar)
 (Ap (nxD (Ac (fC (.str " !\"#$ &'()*+,-./0123456789:;<=>?@ABCDEFGHIJKLMNOPQRSTUVWXYZ[\\]^_`abcdefghijklmnopqrstuvwxyz{|}~")) (Ac (Aa 2) (fC (.int 32)) Cz) ixD)))))
def Dy (BA CW:Fn):M Out:=
 (Af (Cd 3 (Ak CW (Ab (Ac (Aa 0) (fC (.int 2)) ixD) (Ab (Aa 1) (Ab (Aa 2) Ad)))))
 (Af (As 4 (Ac (Aa 2) (fC (.int 1)) AT))
 (Af (Ft 5 (Bn Ad))
 (Af (C4 (C8 (Ab (Aa 3) Ad)) (AF 6)
   (Af (Cd 7 (Ak BA (Ab (Ac (Aa 0) (fC (.int 1)) ixD) (Ab (Aa 1) (Ab (Aa 4) Ad)))))
 (Af (ownM 5 BP (Ab (Ac (Aa 7) (fC (.int 0)) ixD) Ad))
 (As 4 (Ac (Aa 7) (fC (.int 1)) ixD)))))
 (Ap (nxD (AU (Ab (Aa 5) (Ab (Aa 4) Ad)))))))))
def Dz (BA:Fn):M Out:=
 (Af (Cd 3 (Ak BA (Ab (Ac (Aa 0) (fC (.int 1)) ixD) (Ab (Aa 1) (Ab (Aa 2) Ad)))))
 (Af (Cd 4 (Ak BA (Ab (Ac (Aa 0) (fC (.int 2)) ixD) (Ab (Aa 1) (Ab (Ac (Aa 3) (fC (.int 1)) ixD) Ad)))))
 (Ap (nxD (AU (Ab (AU (Ab (Ac (Aa 3) (fC (.int 0)) ixD) (Ab (Ac (Aa 4) (fC (.int 0)) ixD) Ad))) (Ab (Ac (Aa 4) (fC (.int 1)) ixD) Ad)))))))
def CL (BA CW:Fn):M Out:=
 (Af (Cd 3 (Ak CW (Ab (Ac (fB (Ab (Ac (Aa 0) (fC (.int 1)) ixD) Ad) A4) (fC (.int 1)) Cz) (Ab (Aa 1) (Ab (Aa 2) Ad)))))
 (Af (Cd 4 (Ak BA (Ab (Ac (Ac (Aa 0) (fC (.int 1)) ixD) (Aa 3) ixD) (Ab (Aa 1) (Ab (Ac (Aa 2) (fC (.int 1)) AT) Ad)))))
 (Ap (nxD (AU (Ab (AU (Ab (fC (.str "of")) (Ab (Aa 3) (Ab (Ac (Aa 4) (fC (.int 0)) ixD) Ad)))) (Ab (Ac (Aa 4) (fC (.int 1)) ixD) Ad)))))))
def C9:M Out:=
 (Af (ifS (An (Ac (Aa 1) (fB (Ab (Aa 0) Ad) A4) ltA))
   (Ap (Ac (Aa 0) (Aa 1) ixD))
   Ar)
 (Ap (fC (.int 0))))
def Hk (Jb:Fn):M Out:=
 (Af (Ft 4 (Bn Ad))
 (Af (As 5 (Aa 1))
 (Af (As 6 (fB (Ab (Aa 3) Ad) HH))
 (Af (Hy (An (Ac (Ac (Ac (Aa 0) (Aa 5) ixD) (fC (.int 0)) ixD) (Aa 2) (inS false)))
   (Af (As 7 (Ac (Ac (Aa 0) (Aa 5) ixD) (fC (.int 0)) ixD))
 (Af (Cd 8 (Ak Jb (Ab (Ac (Aa 0) (Aa 5) ixD) (Ab (Ac (Aa 2) (Aa 7) FI) (Ab (Ac (Aa 6) (Aa 7) FI) Ad)))))
 (Af (ifS (An (Ac (Aa 8) (fC .non) isC))
   (ret .brk)
   Ar)
 (Af (ownM 4 BP (Ab (Ac (Aa 8) (fC (.int 0)) ixD) Ad))
 (Af (As 5 (Ac (Aa 8) (fC (.int 1)) ixD))
 (C3 (Ac (Aa 8) (fC (.int 2)) ixD) (Jw (Aa 6) (Aa 7)))))))))
 (Ap (nxD (AU (Ab (Aa 4) (Ab (Aa 5) (Ab (Aa 6) Ad))))))))))
def EC (BA:Fn):M Out:=
 (Af (ifS (An (Ac (Aa 2) (fB (Ab (Aa 1) Ad) A4) geA))
   (Ap (nxD (fC .non)))
   Ar)
 (Af (ifS (An (Ac (Ac (Aa 1) (Aa 2) ixD) (fB (Ab (Ac (Aa 0) (fC (.int 1)) ixD) Ad) A4) geA))
   (Do "Broken" (Ab (Aa 2) (Ab (Ac (Aa 0) (fC (.int 0)) ixD) Ad)))
   Ar)
 (Af (As 3 (Ac (Ac (Aa 0) (fC (.int 1)) ixD) (Ac (Aa 1) (Aa 2) ixD) ixD))
 (Af (D3 (Cd 4 (Ak BA (Ab (Ac (Aa 3) (fC (.int 1)) ixD) (Ab (Aa 1) (Ab (Ac (Aa 2) (fC (.int 1)) AT) Ad))))) (hNo "Short" (Ap (nxD (fC .non))) (hAs "Broken" 5 (Do "Broken" (Ab (bnd (Aa 5) (JL "at")) (Ab (Ac (Aa 0) (fC (.int 0)) ixD) Ad))) Ml)))
 (Ap (nxD (AU (Ab (AU (Ab (Ac (Aa 0) (fC (.int 0)) ixD) (Ab (Ac (Aa 3) (fC (.int 0)) ixD) (Ab (Ac (Aa 4) (fC (.int 0)) ixD) Ad)))) (Ab (Ac (Aa 3) (fC (.int 2)) ixD) (Ab (Ac (Aa 4) (fC (.int 1)) ixD) Ad))))))))))
def Ez (GZ:Fn):M Out:=
 (Ap (AQ (B0 1 [] (ES (Aa 0)) (AF 0) FD (fIf (An (Ak GZ (Ab (Aa 0) Ad))) (Aa 0) (AU (Ab (Ac (Aa 0) (fC (.int 0)) ixD) (Ab (AQ (fBF (Ab (Ac (Aa 0) (fC (.int 1)) ixD) Ad) DU)) Ad)))))))
def Eh (I9:Fn):M Out:=
 (Af (BZ "grammar" (Ak I9 (Ab (Aa 1) Ad)) (Aa 0))
 (Af (BZ "standing" (fC (.int 0)) (Aa 0))
 (Af (BZ "wires" (Fi []) (Aa 0))
 (Af (BZ "places" (Fi []) (Aa 0))
 (C4 (ES (Aa 2)) (AF 3)
   (Af (C3 (ET (Bn Ad)) (Jw (BV "wires" (Aa 0)) (Aa 3)))
 (C3 (fC (.int 0)) (Jw (BV "places" (Aa 0)) (Aa 3)))))))))
def Dx:M Out:=
 (Ap (BV "standing" (Aa 0)))
def Sg:M Out:=
 (Hy (An (fC (.bl true)))
   Ar)
def Fo:M Out:=
 (Ap (fIf (An (Ac (Aa 0) (fC (.str "left")) (eqS id))) (fC (.str "right")) (fC (.str "left"))))
def DY:M Out:=
 (Af (ifS (An (Ac (Aa 0) (Ac (fC (.int 10)) (fC (.int 18)) MB) geA))
   (Ap (Aa 0))
   Ar)
 (Af (As 2 (Ac (Ac (Ac (Ac (Ac (Aa 0) (fC (.int 48271)) DI) (Ac (Ac (fC (.int 7919)) (Aa 1) DI) (Aa 1) DI) AT) (Ac (fC (.int 104729)) (Aa 1) DI) AT) (fC (.int 13)) AT) (fC (.int 2147483647)) Ba))
 (Af (As 2 (Ac (Ac (Aa 2) (Aa 2) DI) (fC (.int 2147483629)) Ba))
 (Ap (Ac (Ac (Ac (Ac (Aa 2) (Aa 2) DI) (Aa 2) DI) (Ac (fC (.int 1000003)) (Aa 2) DI) AT) (Aa 0) AT)))))
def B5 (Cg:Fn):M Out:=
 (Af (As 2 (Ac (Aa 0) (fC (.int 7)) Ba))
 (Af (As 3 (Ac (Aa 0) (fC (.int 7)) A0))
 (Af (ifS (An (Ac (Aa 2) (fC (.int 0)) (eqS id)))
   (Ap (AU (Ab (AU (Ab (fC (.str "nothing")) Ad)) (Ab (Aa 3) Ad))))
   Ar)
 (Af (ifS (fOr (An (Ac (Aa 2) (fC (.int 3)) ltA)) (FT (An (Ac (Aa 2) (fC (.int 3)) gtA)) (An (Ac (Aa 1) (fC (.int 0)) (eqS id)))))
   (Af (As 4 (Ac (Ac (Aa 3) (fC (.int 9)) Ba) (fC (.int 4)) Cz))
 (Ap (AU (Ab (AU (Ab (fC (.str "number")) (Ab (Aa 4) (Ab (Ac (Aa 4) (Ac (AQ (Bn (Ab (fC (.int 0)) (Ab (fC (.int 3)) (Ab (fC (.int 255)) (Ab (fC (.int 256)) (Ab (fC (.int 70000)) Ad))))))) (Ac (Ac (Aa 3) (fC (.int 9)) A0) (fC (.int 5)) Ba) ixD) AT) Ad)))) (Ab (Ac (Aa 3) (fC (.int 45)) A0) Ad)))))
   Ar)
 (Af (ifS (An (Ac (Aa 2) (fC (.int 3)) (eqS id)))
   (Ap (AU (Ab (AU (Ab (fC (.str "text")) (Ab (Ac (Aa 3) (fC (.int 4)) Ba) Ad))) (Ab (Ac (Aa 3) (fC (.int 4)) A0) Ad))))
   Ar)
 (Af (C3 (Ak Cg (Ab (Aa 3) (Ab (Ac (Aa 1) (fC (.int 1)) Cz) Ad))) (unS 2 (AK (AF 5) (AK (AF 3) BY))))
 (Af (ifS (An (Ac (Aa 2) (fC (.int 4)) (eqS id)))
   (Ap (AU (Ab (AU (Ab (fC (.str "list")) (Ab (Aa 5) (Ab (Ac (Aa 3) (fC (.int 4)) Ba) Ad)))) (Ab (Ac (Aa 3) (fC (.int 4)) A0) Ad))))
   Ar)
 (Af (C3 (Ak Cg (Ab (Aa 3) (Ab (Ac (Aa 1) (fC (.int 1)) Cz) Ad))) (unS 2 (AK (AF 6) (AK (AF 3) BY))))
 (Ap (AU (Ab (Ac (AQ (Bn (Ab (AU (Ab (fC (.str "pair")) (Ab (Aa 5) (Ab (Aa 6) Ad)))) (Ab (AU (Ab (fC (.str "choice")) (Ab (AU (Ab (Aa 5) (Ab (Aa 6) Ad))) Ad))) Ad)))) (Ac (Aa 2) (fC (.int 2)) Ba) ixD) (Ab (Aa 3) Ad))))))))))))
def DZ (Cg K9:Fn):M Out:=
 (Af (As 3 (Ak K9 (Ab (Aa 0) (Ab (Aa 1) Ad))))
 (Af (ifS (FT (An (Ac (Ac (Aa 3) (fC (.int 5)) Ba) (fC (.int 0)) (eqS id))) (fOr (An (Ac (Aa 1) (fC (.int 0)) gtA)) (An (Ac (Ac (Ac (Aa 3) (fC (.int 5)) A0) (fC (.int 4)) Ba) (fC (.int 0)) (eqS id)))))
   (Ap (AU (Ab (fC (.str "end")) Ad)))
   Ar)
 (Af (Ft 4 (Bn Ad))
 (Af (As 5 (Ac (AQ (Bn (Ab (fC (.str "left")) (Ab (fC (.str "right")) Ad)))) (Ac (Ac (Aa 3) (fC (.int 5)) A0) (fC (.int 2)) Ba) ixD))
 (Af (As 6 (Ac (fC (.int 1)) (Ac (Ac (Aa 3) (fC (.int 10)) A0) (fC (.int 3)) Ba) AT))
 (Af (As 3 (Ac (Aa 3) (fC (.int 30)) A0))
 (Af (C4 (ES (fSl (AQ (Bn (Ab (fC (.str "go")) (Ab (fC (.str "no")) (Ab (fC (.str "ask")) Ad))))) fNo (Ee (Aa 6)) FA)) (AF 7)
   (Af (C3 (Ak Cg (Ab (Aa 3) (Ab (fC (.int 2)) Ad))) (unS 2 (AK (AF 8) (AK (AF 3) BY))))
 (Af (ownM 4 BP (Ab (AU (Ab (Aa 7) (Ab (Aa 8) (Ab (Ac (Aa 3) (Aa 2) Ba) Ad)))) Ad))
 (As 3 (Ac (Aa 3) (Aa 2) A0)))))
 (Ap (AU (Ab (Aa 5) (Ab (Aa 4) Ad)))))))))))
def Di (La:Fn):M Out:=
 (Ap (AQ (B0 2 [0] (Og (Ab (Aa 0) Ad)) (unS 2 (AK (AF 0) (AK (AF 1) BY))) FD (Ak La (Ab (Aa 1) (Ab (Aa 0) (Ab (fB (Ab (Aa 2) Ad) A4) Ad)))))))
def F4 (CF:Fn):M Out:=
 (Bi (Ak CF (Ab (fC (.int 0)) Ad)))
def EY (DP GY:Fn):M Out:=
 (Af (Bi (Ak GY (Ab (Aa 0) (Ab (Aa 1) (Ab (AU (Ab (Ak DP (Ab (Aa 2) Ad)) Ad)) Ad)))))
 (BZ "side" (Aa 2) (Aa 0)))
def J2 (CF:Fn):M Out:=
 (Bi (Ak CF (Ab (fC (.int 1)) Ad)))
def JZ (CF:Fn):M Out:=
 (Bi (Ak CF (Ab (fC (.int 2)) Ad)))
def GQ (CF:Fn):M Out:=
 (Bi (Ak CF (Ab (fC (.int 3)) Ad)))
def Iw (CF:Fn):M Out:=
 (Bi (Ak CF (Ab (fC (.int 4)) Ad)))
def DW (DR:Fn):M Out:=
 (Af (Bi (Ak DR (Ab (Aa 0) (Ab (Aa 1) (Ab (Aa 2) Ad)))))
 (Af (BZ "said" (ET (Bn Ad)) (Aa 0))
 (Af (BZ "taken" (fC (.int 0)) (Aa 0))
 (BZ "handed" (fC (.int 0)) (Aa 0)))))
def Eu (Eo:Fn):M Out:=
 (Af (Cd 2 (AV "Lasting" Eo (Aa 0) (Ab (Aa 1) Ad)))
 (Af (BZ "taken" (Ac (BV "taken" (Aa 0)) (fB (Ab (Aa 1) Ad) A4) AT) (Aa 0))
 (Ap (nxD (Aa 2)))))
def CK:M Out:=
 (Ap (BV "taken" (Aa 0)))
def EA:M Out:=
 (Ap (Ed (fB (Ab (Aa 0) (Ab (fC (.ty "int")) Ad)) DS) (HK (fB (Ab (Aa 0) (Ab (fC (.ty "bool")) Ad)) DS))))
def Ey (Gh:Fn):M Out:=
 (Af (ifS (fOr (Co (An (fB (Ab (Aa 1) (Ab (fC (.ty "str")) Ad)) DS))) (An (Ac (fB (Ab (Aa 1) Ad) A4) (Ac (Aa 0) (fC (.int 1)) ixD) gtA)))
   (Ap (fC (.bl false)))
   Ar)
 (Af (C4 (ES (Aa 1)) (AF 2)
   (ifS (Co (An (Ak Gh (Ab (fB (Ab (Aa 2) Ad) IC) Ad))))
   (Ap (fC (.bl false)))
   Ar))
 (Ap (fC (.bl true)))))
def Ew (D4:Fn):M Out:=
 (Af (ifS (fOr (Co (An (fB (Ab (Aa 1) (Ab (fC (.ty "list")) Ad)) DS))) (An (Ac (fB (Ab (Aa 1) Ad) A4) (Ac (Aa 0) (fC (.int 2)) ixD) gtA)))
   (Ap (fC (.bl false)))
   Ar)
 (Af (FL (Hb (Aa 1)) (AF 2)
   (ifS (Co (An (Ak D4 (Ab (Ac (Aa 0) (fC (.int 1)) ixD) (Ab (Aa 2) Ad)))))
   (Ap (fC (.bl false)))
   Ar))
 (Ap (fC (.bl true)))))
def Ex (D4:Fn):M Out:=
 (Af (ifS (fOr (Co (An (fB (Ab (Aa 1) (Ab (fC (.ty "tuple")) Ad)) DS))) (An (Ac (fB (Ab (Aa 1) Ad) A4) (fC (.int 2)) (eqS λb=>!b))))
   (Ap (fC (.bl false)))
   Ar)
 (Ap (Ed (Ak D4 (Ab (Ac (Aa 0) (fC (.int 1)) ixD) (Ab (Ac (Aa 1) (fC (.int 0)) ixD) Ad))) (Ak D4 (Ab (Ac (Aa 0) (fC (.int 2)) ixD) (Ab (Ac (Aa 1) (fC (.int 1)) ixD) Ad))))))
def D1 (D4 BF:Fn):M Out:=
 (Af (ifS (fOr (Co (An (fB (Ab (Aa 1) (Ab (fC (.ty "tuple")) Ad)) DS))) (An (Ac (fB (Ab (Aa 1) Ad) A4) (fC (.int 3)) (eqS λb=>!b))))
   (Ap (fC (.bl false)))
   Ar)
 (Af (ifS (fOr (Co (An (fB (Ab (Ac (Aa 1) (fC (.int 0)) ixD) (Ab (fC (.ty "str")) Ad)) Eg))) (An (Ac (Ac (Aa 1) (fC (.int 0)) ixD) (fC (.str "of")) (eqS λb=>!b))))
   (Ap (fC (.bl false)))
   Ar)
 (Af (ifS (Co (An (Ak BF (Ab (Ac (Aa 1) (fC (.int 1)) ixD) (Ab (fC (.int 0)) (Ab (Ac (fB (Ab (Ac (Aa 0) (fC (.int 1)) ixD) Ad) A4) (fC (.int 1)) Cz) Ad))))))
   (Ap (fC (.bl false)))
   Ar)
 (Ap (Ak D4 (Ab (Ac (Ac (Aa 0) (fC (.int 1)) ixD) (Ac (Aa 1) (fC (.int 1)) ixD) ixD) (Ab (Ac (Aa 1) (fC (.int 2)) ixD) Ad)))))))
def Dk (BG Ep Ja:Fn):M Out:=
 (Af (As 2 (Ac (Aa 0) (fC (.int 0)) ixD))
 (Af (ifS (An (Ac (Aa 2) (fC (.str "nothing")) (eqS id)))
   (FU (Bn Ad))
   Ar)
 (Af (ifS (An (Ac (Aa 2) (fC (.str "number")) (eqS id)))
   (FU (Dd Ja (Ab (Ac (Aa 1) (Ac (Aa 0) (fC (.int 1)) ixD) Cz) (Ab (Ak Ep (Ab (Ac (Ac (Aa 0) (fC (.int 2)) ixD) (Ac (Aa 0) (fC (.int 1)) ixD) Cz) Ad)) Ad))))
   Ar)
 (Af (ifS (An (Ac (Aa 2) (fC (.str "text")) (eqS id)))
   (FU (bnd (AQ (Bn (Ab (fB (Ab (Aa 1) Ad) A4) Ad))) λx=>bnd (AQ (B0 1 [] (ES (Aa 1)) (AF 0) FD (fB (Ab (Aa 0) Ad) IC))) λy=>G3 x y))
   Ar)
 (Af (ifS (An (Ac (Aa 2) (fC (.str "list")) (eqS id)))
   (Af (Ft 3 (Bn (Ab (fB (Ab (Aa 1) Ad) A4) Ad)))
 (Af (FL (Hb (Aa 1)) (AF 4)
   (ownM 3 G8 (Ab (AQ (Dd BG (Ab (Ac (Aa 0) (fC (.int 1)) ixD) (Ab (Aa 4) Ad)))) Ad)))
 (Gb 3)))
   Ar)
 (Af (ifS (An (Ac (Aa 2) (fC (.str "pair")) (eqS id)))
   (FU (bnd (AQ (Dd BG (Ab (Ac (Aa 0) (fC (.int 1)) ixD) (Ab (Ac (Aa 1) (fC (.int 0)) ixD) Ad)))) λx=>bnd (AQ (Dd BG (Ab (Ac (Aa 0) (fC (.int 2)) ixD) (Ab (Ac (Aa 1) (fC (.int 1)) ixD) Ad)))) λy=>G3 x y))
   Ar)
 (FU (bnd (AQ (Bn (Ab (Ac (Aa 1) (fC (.int 1)) ixD) Ad))) λx=>bnd (AQ (Dd BG (Ab (Ac (Ac (Aa 0) (fC (.int 1)) ixD) (Ac (Aa 1) (fC (.int 1)) ixD) ixD) (Ab (Ac (Aa 1) (fC (.int 2)) ixD) Ad)))) λy=>G3 x y))))))))
def DV (N9:Fn):M Out:=
 (Af (Bi (objX (Ac (BV "wires" (Aa 0)) (Aa 1) FI) (Ab (Aa 2) Ad)))
 (Af (Cd 3 (Ak N9 (Ab (BV "grammar" (Aa 0)) (Ab (BV "standing" (Aa 0)) (Ab (BV "wires" (Aa 0)) (Ab (BV "places" (Aa 0)) Ad))))))
 (Af (BZ "standing" (Ac (Aa 3) (fC (.int 1)) ixD) (Aa 0))
 (Af (BZ "places" (Ac (Aa 3) (fC (.int 2)) ixD) (Aa 0))
 (Ap (nxD (Ac (Aa 3) (fC (.int 0)) ixD)))))))
def Dm (BG:Fn):M Out:=
 (FU (bnd (AQ (Bn (Ab (Aa 1) Ad))) λx=>bnd (AQ (Dd BG (Ab (Ac (Ac (Ac (Aa 0) (fC (.int 1)) ixD) (Aa 1) ixD) (fC (.int 1)) ixD) (Ab (Aa 2) Ad)))) λy=>G3 x y))
def D0 (BU:Fn):M Out:=
 (Af (As 2 (Ac (Aa 0) (fC (.int 0)) ixD))
 (Af (ifS (An (Ac (Aa 2) (fC (.str "nothing")) (eqS id)))
   (Ap (AU (Ab (fC .non) (Ab (Aa 1) Ad))))
   Ar)
 (Af (ifS (An (Ac (Aa 2) (fC (.str "number")) (eqS id)))
   (Ap (AU (Ab (Ac (Ac (Aa 0) (fC (.int 1)) ixD) (Ac (Aa 1) (Ac (Ac (Ac (Aa 0) (fC (.int 2)) ixD) (Ac (Aa 0) (fC (.int 1)) ixD) Cz) (fC (.int 1)) AT) Ba) AT) (Ab (Ac (Aa 1) (Ac (Ac (Ac (Aa 0) (fC (.int 2)) ixD) (Ac (Aa 0) (fC (.int 1)) ixD) Cz) (fC (.int 1)) AT) A0) Ad))))
   Ar)
 (Af (ifS (An (Ac (Aa 2) (fC (.str "text")) (eqS id)))
   (Af (As 3 (Ac (Aa 1) (Ac (Ac (Aa 0) (fC (.int 1)) ixD) (fC (.int 1)) AT) Ba))
 (Af (As 4 (Ac (Aa 1) (Ac (Ac (Aa 0) (fC (.int 1)) ixD) (fC (.int 1)) AT) A0))
 (Ap (AU (Ab (joinM (fC (.str "")) (Ab (AQ (B0 1 [4] (C8 (Ab (Aa 3) Ad)) (AF 0) FD (Ac (fC (.str " a~z")) (Ac (Ac (Aa 1) (Ac (AQ (Bn (Ab (fC (.int 1)) (Ab (fC (.int 4)) (Ab (fC (.int 16)) Ad))))) (Aa 0) ixD) A0) (fC (.int 4)) Ba) ixD))) Ad)) (Ab (Ac (Aa 4) (fC (.int 64)) A0) Ad))))))
   Ar)
 (Af (ifS (An (Ac (Aa 2) (fC (.str "list")) (eqS id)))
   (Af (As 3 (Ac (Aa 1) (Ac (Ac (Aa 0) (fC (.int 2)) ixD) (fC (.int 1)) AT) Ba))
 (Af (As 4 (Ac (Aa 1) (Ac (Ac (Aa 0) (fC (.int 2)) ixD) (fC (.int 1)) AT) A0))
 (Af (As 5 (ET (Bn Ad)))
 (Af (C4 (C8 (Ab (Aa 3) Ad)) (AF 6)
   (Af (C3 (Ak BU (Ab (Ac (Aa 0) (fC (.int 1)) ixD) (Ab (Aa 4) Ad))) (unS 2 (AK (AF 7) (AK (AF 4) BY))))
 (Bi (objM BP (Aa 5) (Ab (Aa 7) Ad)))))
 (Ap (AU (Ab (Aa 5) (Ab (Aa 4) Ad))))))))
   Ar)
 (Af (ifS (An (Ac (Aa 2) (fC (.str "pair")) (eqS id)))
   (Af (C3 (Ak BU (Ab (Ac (Aa 0) (fC (.int 1)) ixD) (Ab (Aa 1) Ad))) (unS 2 (AK (AF 7) (AK (AF 4) BY))))
 (Af (C3 (Ak BU (Ab (Ac (Aa 0) (fC (.int 2)) ixD) (Ab (Aa 4) Ad))) (unS 2 (AK (AF 8) (AK (AF 4) BY))))
 (Ap (AU (Ab (AU (Ab (Aa 7) (Ab (Aa 8) Ad))) (Ab (Aa 4) Ad))))))
   Ar)
 (Af (As 9 (Ac (Aa 1) (fB (Ab (Ac (Aa 0) (fC (.int 1)) ixD) Ad) A4) Ba))
 (Af (C3 (Ak BU (Ab (Ac (Ac (Aa 0) (fC (.int 1)) ixD) (Aa 9) ixD) (Ab (Ac (Aa 1) (fB (Ab (Ac (Aa 0) (fC (.int 1)) ixD) Ad) A4) A0) Ad))) (unS 2 (AK (AF 7) (AK (AF 4) BY))))
 (Ap (AU (Ab (AU (Ab (fC (.str "of")) (Ab (Aa 9) (Ab (Aa 7) Ad)))) (Ab (Aa 4) Ad))))))))))))
def Dj (BJ:Fn):M Out:=
 (Af (As 2 (fC .non))
 (Af (D3 (Lm (AV "Lasting" BJ (Aa 0) (Ab (Aa 1) Ad))) (hAs "ParleyError" 3 (As 2 (Aa 3)) Ml))
 (Af (As 4 (AQ (Bn (Ab (bnd (Aa 2) (Cb "Broken")) (Ab (bnd (Aa 2) (Cb "NoRow")) (Ab (bnd (Aa 2) (Cb "NoTalk")) Ad))))))
 (Af (As 4 (Ac (Aa 4) (AQ (Bn (Ab (bnd (Aa 2) (Cb "NoText")) (Ab (bnd (Aa 2) (Cb "NoValue")) (Ab (bnd (Aa 2) (Cb "Short")) Ad))))) AT))
 (Ap (Ed (bnd (Aa 2) (Cb "NoName")) (Ed (bnd (Aa 2) (Cb "ValueError")) (Ac (fC (.bl true)) (Aa 4) (inD true)))))))))
def Dh (C7:Fn):M Out:=
 (Af (ifS (An (fB (Ab (Aa 0) (Ab (fC (.ty "list")) Ad)) DS))
   (Af (FL (Hb (Aa 0)) (AF 1)
   (Bi (Ak C7 (Ab (Aa 1) Ad))))
 (Bi (objM BP (Aa 0) (Ab (fC (.int 7)) Ad))))
   Ar)
 (ifS (An (fB (Ab (Aa 0) (Ab (fC (.ty "tuple")) Ad)) DS))
   (FL (Hb (Aa 0)) (AF 1)
   (Bi (Ak C7 (Ab (Aa 1) Ad))))
   Ar))
def DH (En:Fn):M Out:=
 (Af (As 4 (fC (.str "other")))
 (Af (ifS (An (Ac (Ac (Aa 1) (fC (.int 0)) ixD) (Aa 2) (eqS id)))
   (As 4 (Ac (AQ (Bn (Ab (fC (.str "other")) (Ab (Ac (Ac (Ac (Aa 1) (fC (.int 1)) ixD) (Ac (Ac (Aa 3) (fC (.int 2)) A0) (fB (Ab (Ac (Aa 1) (fC (.int 1)) ixD) Ad) A4) Ba) ixD) (fC (.int 0)) ixD) Ad)))) (Ac (Aa 3) (fC (.int 2)) Ba) ixD))
   Ar)
 (Af (As 5 (fC .non))
 (Af (D3 (Cd 5 (AV "Lasting" En (Aa 0) (Ab (Aa 4) (Ab (fC (.str "abcdefgh")) Ad)))) (hNo "NoTalk" (As 5 (fC .non)) Ml))
 (Ap (Ac (Aa 5) (fC .non) isC))))))
def C5 (BJ IZ:Fn):M Out:=
 (Af (As 5 (fB (Ab (Aa 1) Ad) A4))
 (Af (As 6 (Ac (AQ (Bn (Ab (Aa 2) (Ab (Ac (Aa 2) (Ac (Ac (Aa 3) (fC (.int 7)) A0) (Ac (Ac (Aa 5) (Aa 2) Cz) (fC (.int 1)) AT) Ba) AT) (Ab (Aa 5) (Ab (Ac (Aa 2) (fC (.int 1)) Cz) (Ab (Ac (Aa 5) (fC (.int 1)) AT) (Ab (fUn (fC (.int 9)) Ka) (Ab (Ac (Aa 5) (fC (.int 2)) AT) Ad))))))))) (Ac (Aa 3) (fC (.int 7)) Ba) ixD))
 (Af (ifS (fOr (An (Ac (Aa 6) (Aa 2) ltA)) (An (Ac (Aa 6) (Aa 5) gtA)))
   (Af (ifS (Co (An (Ak IZ (Ab (Aa 0) (Ab (Aa 6) Ad)))))
   (Ap (fC .non))
   Ar)
 (Ap (Aa 2)))
   Ar)
 (Af (As 7 (AV "Lasting" (DJ BJ) (Aa 0) (Ab (Aa 6) Ad)))
 (Af (ifS (fOr (Co (An (fB (Ab (Aa 7) (Ab (fC (.ty "list")) Ad)) DS))) (An (Ac (Aa 7) (fSl (Aa 1) (Ee (Aa 6)) fNo FA) (eqO λb=>!b))))
   (Ap (fC .non))
   Ar)
 (Af (Bi (objM BP (Aa 7) (Ab (fC (.int 7)) Ad)))
 (Af (Bi (objM BP (Aa 4) (Ab (AU (Ab (Aa 7) (Ab (AQ (fBF (Ab (Aa 7) Ad) DU)) Ad))) Ad)))
 (Af (As 8 (AV "Lasting" (DJ BJ) (Aa 0) (Ab (Aa 6) Ad)))
 (Af (ifS (An (Ac (Aa 8) (fSl (Aa 1) (Ee (Aa 6)) fNo FA) (eqO λb=>!b)))
   (Ap (fC .non))
   Ar)
 (Af (Bi (objM BP (Aa 4) (Ab (AU (Ab (Aa 8) (Ab (AQ (fBF (Ab (Aa 8) Ad) DU)) Ad))) Ad)))
 (Ap (Aa 6))))))))))))
def Hi (El Ia LO C7 En BU IX MZ Ib IW DR GP C6 IY:Fn):M Out:=
 (Af (As 1 (Ak IY (Ab (AQ (B0 1 [0] (C8 (Ab (Ac (fC (.int 1)) (Ac (Ak C6 (Ab (Aa 0) (Ab (fC (.int 0)) Ad))) (fC (.int 6)) Ba) AT) Ad)) (AF 0) FD (Ak C6 (Ab (Aa 1) (Ab (Ac (fC (.int 1)) (Aa 0) AT) Ad))))) Ad)))
 (Af (As 2 (Ac (AQ (Bn (Ab (fC (.str "left")) (Ab (fC (.str "right")) Ad)))) (Ac (Ac (Ak C6 (Ab (Aa 0) (Ab (fC (.int 0)) Ad))) (fC (.int 6)) A0) (fC (.int 2)) Ba) ixD))
 (Af (As 3 (Ac (AQ (Bn (Ab (fC (.str "right")) (Ab (fC (.str "left")) Ad)))) (Ac (Ac (Ak C6 (Ab (Aa 0) (Ab (fC (.int 0)) Ad))) (fC (.int 6)) A0) (fC (.int 2)) Ba) ixD))
 (Af (As 4 (HJ "Lasting" GP (Ab (AQ (fBF (Ab (Aa 1) Ad) DU)) (Ab (Aa 2) Ad))))
 (Af (As 5 (HJ "Side" DR (Ab (AQ (fBF (Ab (Aa 1) Ad) DU)) (Ab (Aa 3) Ad))))
 (Af (As 6 (AQ (Bn Ad)))
 (Af (As 7 (fC (.int 0)))
 (Af (As 8 (fC (.int 0)))
 (Af (As 9 (ET (Bn Ad)))
 (Af (C4 (ES (fSl (Aa 0) (Ee (fC (.int 8))) (Ee (fC (.int 48))) FA)) (AF 10)
   (Af (As 11 (AV "Lasting" IW (Aa 4) (ret [])))
 (Af (As 12 (Ac (Ac (Aa 1) (Aa 11) ixD) (fUn (fC (.int 1)) Ka) ixD))
 (Af (ifS (FT (An (Ac (Ac (Ac (Aa 10) (fC (.int 3)) A0) (fC (.int 4)) Ba) (fC (.int 1)) (eqS id))) (Co (An (Ak Ib (Ab (Aa 4) (Ab (Ac (Aa 1) (Aa 11) ixD) (Ab (Aa 2) (Ab (Ac (Aa 10) (fC (.int 12)) A0) Ad))))))))
   (Ap (fC (.bl false)))
   Ar)
 (Af (ifS (FT (An (Ac (Ac (Ac (Aa 1) (Aa 11) ixD) (fC (.int 0)) ixD) (Aa 2) (eqS id))) (An (Ac (Ac (Aa 10) (fC (.int 3)) Ba) (fC (.int 0)) gtA)))
   (Af (C3 (Ac (Aa 12) (Ac (Ac (Aa 10) (fC (.int 3)) A0) (fB (Ab (Aa 12) Ad) A4) Ba) ixD) (unS 3 (AK (AF 13) (AK (AF 14) (AK (AF 15) BY)))))
 (Af (As 16 (Ac (Ak BU (Ab (Aa 14) (Ab (Ac (Aa 10) (fC (.int 9)) A0) Ad))) (fC (.int 0)) ixD))
 (Af (As 17 (AV "Lasting" (DJ En) (Aa 4) (Ab (Aa 13) (Ab (Aa 16) Ad))))
 (Af (Bi (Ak C7 (Ab (Aa 16) Ad)))
 (Af (As 6 (AQ (bnd (Aa 6) λx=>bnd (Aa 17) λy=>Jd x y)))
 (Af (Bi (AV "Side" (DJ LO) (Aa 5) (Ab (ET (fBF (Ab (Aa 17) Ad) DU)) Ad)))
 (Af (Bi (objM BP (Aa 17) (Ab (fC (.int 7)) Ad)))
 (Bi (objM BP (Aa 9) (Ab (AU (Ab (Aa 17) (Ab (AQ (fBF (Ab (Aa 17) Ad) DU)) Ad))) Ad))))))))))
   (ifS (FT (An (Ac (Ac (Ac (Aa 1) (Aa 11) ixD) (fC (.int 0)) ixD) (Aa 3) (eqS id))) (An (Ac (Ac (Aa 10) (fC (.int 3)) Ba) (fC (.int 0)) gtA)))
   (Af (C3 (Ac (Aa 12) (Ac (Ac (Aa 10) (fC (.int 3)) A0) (fB (Ab (Aa 12) Ad) A4) Ba) ixD) (unS 3 (AK (AF 13) (AK (AF 14) (AK (AF 15) BY)))))
 (Af (As 18 (AV "Side" (DJ MZ) (Aa 5) (Ab (Aa 13) (Ab (Ac (Ak BU (Ab (Aa 14) (Ab (Ac (Aa 10) (fC (.int 9)) A0) Ad))) (fC (.int 0)) ixD) Ad))))
 (Af (As 8 (Ac (Aa 8) (fB (Ab (Aa 18) Ad) A4) AT))
 (Bi (AV "Lasting" (DJ IX) (Aa 4) (Ab (Aa 18) Ad))))))
   Ar))
 (Af (As 7 (Ak El (Ab (Aa 4) (Ab (Aa 6) (Ab (Aa 7) (Ab (Ac (Aa 10) (fC (.int 2)) A0) (Ab (Aa 9) Ad)))))))
 (ifS (fOr (An (Ac (Aa 7) (fC .non) isC)) (An (Ac (AV "Lasting" Ia (Aa 4) (ret [])) (Aa 8) (eqS λb=>!b))))
   (Ap (fC (.bl false)))
   Ar)))))))
 (Af (ifS (An (Ac (Ak El (Ab (Aa 4) (Ab (Aa 6) (Ab (Aa 7) (Ab (fC (.int 0)) (Ab (Aa 9) Ad)))))) (Aa 7) (eqS λb=>!b)))
   (Ap (fC (.bl false)))
   Ar)
 (Ap (Ac (AQ (Ha 2 [] (Hb (Aa 9)) (unS 2 (AK (AF 0) (AK (AF 1) BY))) (An (Ac (Aa 0) (Aa 1) (eqO λb=>!b))) (fC (.int 1)))) (AQ (Bn Ad)) (eqS id))))))))))))))
def EZ (EO:Fn):M Out:=
 (Ap (AV "Side" EO (Aa 0) (Ab (Aa 1) (Ab (Aa 2) Ad))))
def Ev (Eo:Fn):M Out:=
 (Ap (AV "Side" Eo (Aa 0) (Ab (Aa 1) Ad)))
def Cl (Io Lc Lb:Fn):M Out:=
 (Af (As 3 (Ac (BV "grammar" (Aa 0)) (BV "standing" (Aa 0)) ixD))
 (Af (As 4 (Ak Lb (Ab (Aa 3) (Ab (AU (Ab (BV "side" (Aa 0)) (Ab (Aa 1) (Ab (Aa 2) Ad)))) Ad))))
 (Af (ifS (An (Ac (Aa 4) (fC .non) isC))
   (Hr "NoTalk" (Ab (fC (.int 0)) Ad))
   Ar)
 (Af (BZ "standing" (Ak Lc (Ab (BV "grammar" (Aa 0)) (Ab (AU (Ab (BV "standing" (Aa 0)) (Ab (Aa 4) Ad))) Ad))) (Aa 0))
 (Ap (nxD (ET (Dd Io (Ab (Aa 3) (Ab (Aa 4) (Ab (Aa 2) Ad)))))))))))
def DX (DP FX:Fn):M Out:=
 (Ap (Gk (AV "Lasting" FX (Aa 0) (Ab (Ak DP (Ab (BV "side" (Aa 0)) Ad)) (Ab (Aa 1) Ad))) (AV "Side" FX (Aa 0) (Ab (Ak DP (Ab (BV "side" (Aa 0)) Ad)) (Ab (Aa 1) Ad)))))
def B4 (EO:Fn):M Out:=
 (Af (Cd 3 (AV "Lasting" EO (Aa 0) (Ab (Aa 1) (Ab (Aa 2) Ad))))
 (Af (Bi (objX (BV "said" (Aa 0)) (Ab (Aa 3) Ad)))
 (Ap (nxD (Aa 3)))))
def Be (BF:Fn):M Out:=
 (Af (ifS (Co (An (Ak BF (Ab (Aa 1) (Ab (BV "handed" (Aa 0)) (Ab (fB (Ab (BV "said" (Aa 0)) Ad) A4) Ad))))))
   (Fy "NoName" (Ab (fC (.str "no such ticket can be handed now")) Ad))
   Ar)
 (Af (BZ "handed" (Aa 1) (Aa 0))
 (Ap (nxD (ET (Oh (BV "said" (Aa 0)) (Ee (Aa 1)) fNo))))))
end LW
namespace F2
open PySem L2
def W {α:Type}(m:M α)(t:T)(P:α->T->Prop):Prop:=∃a t',m t=some (a,t')/\P a t'
def Wf (g:Fn)(ds:List D)(S:List Ob)(P:D->List Ob->Prop):Prop:=∃r S',g ds S=some (r,S')/\P r S'
theorem W.mono {α:Type}{m:M α}{t:T}{P Q:α->T->Prop}(h:W m t P)(i:∀a t',P a t'->Q a t'):W m t Q:=by
 obtain ⟨a,t',e,p⟩:=h;exact ⟨a,t',e,i a t' p⟩
theorem Wf.mono {g:Fn}{ds:List D}{S:List Ob}{P Q:D->List Ob->Prop}(h:Wf g ds S P)(i:∀r S',P r S'->Q r S'):Wf g ds S Q:=by
 obtain ⟨a,t',e,p⟩:=h;exact ⟨a,t',e,i a t' p⟩
section
variable {α β:Type}
theorem Av {m:M α}{t:T}{P:α->T->Prop}{a:α}{t':T}(e:m t=some (a,t')):W m t P↔P a t':=by
 constructor
 ·rintro ⟨a',t1,e',p⟩;rw [e] at e';cases e';exact p
 ·exact λp=>⟨a,t',e,p⟩
theorem Ea {m:M α}{t:T}{P:α->T->Prop}(e:m t=none):W m t P↔False:=by
 constructor
 ·rintro ⟨a',t1,e',p⟩;rw [e] at e';cases e'
 ·exact False.elim
@[simp] theorem W_ret {a:α} {t:T} {P:α->T->Prop}:W (ret a) t P↔P a t:=Av rfl
@[simp] theorem W_fail {t:T} {P:α->T->Prop}:W (fail:M α) t P↔False:=Ea rfl
@[simp] theorem W_bnd {f:M α} {g:α->M β} {t:T} {P:β->T->Prop}:W (bnd f g) t P↔W f t λa t1=>W (g a) t1 P:=by
 constructor
 ·rintro ⟨b,t',e,p⟩;obtain ⟨a,t1,e1,e2⟩:=Ae e;exact ⟨a,t1,e1,b,t',e2,p⟩
 ·rintro ⟨a,t1,e1,b,t',e2,p⟩;exact ⟨b,t',by unfold bnd;rw [e1];exact e2,p⟩
@[simp] theorem TD {c:Prop} [Decidable c] {f g:M α} {t:T} {P:α->T->Prop}:W (if c then f else g) t P↔if c then W f t P else W g t P:=by split <;> rfl
@[simp] theorem bQ {n:Nat} {a:α} {t:T} {P:α->T->Prop}:W (lim n a) t P↔n<=LIM/\P a t:=by
 unfold lim;constructor
 ·rintro ⟨a',t',e,p⟩
  split at e
  ·cases e;exact ⟨by assumption,p⟩
  ·cases e
 ·rintro ⟨h,p⟩;exact ⟨a,t,by simp only [h,if_true],p⟩
end
variable {t:T}{env:List (Option Sl)}{S:List Ob}
@[simp] theorem W_fC {d:D} {P:D->T->Prop}:W (fC d) t P↔P d t:=Av rfl
@[simp] theorem Pg {i:Nat} {P:D->T->Prop}:W (Aa i) t P↔match t.env[i]? with
 | some (some (.val d))=>P d t
 | some (some (.own ds))=>P (.lst ds) ⟨t.env.set i (some (.val (.lst ds))),t.S⟩
 | _=>False:=by
 cases e:t.env[i]? with
 | none=>exact Ea (by unfold Aa;simp [e])
 | some o=>
   cases o with
   | none=>exact Ea (by unfold Aa;simp [e])
   | some sl=>
     cases sl with
     | val d=>exact Av (by unfold Aa;simp [e])
     | own ds=>exact Av (by unfold Aa;simp [e])
@[simp] theorem W_fBin {f g:M D} {h:D->D->M D} {P:D->T->Prop}:W (Ac f g h) t P↔W f t λx t1=>W g t1 λy t2=>W (h x y) t2 P:=by simp [Ac]
@[simp] theorem W_fUn {f:M D} {h:D->M D} {P:D->T->Prop}:W (fUn f h) t P↔W f t λx t1=>W (h x) t1 P:=by simp [fUn]
@[simp] theorem W_toB {b:Bool} {P:Bool->T->Prop}:W (toB (.bl b)) t P↔P b t:=Av rfl
@[simp] theorem W_fTst {f:M D} {P:Bool->T->Prop}:W (An f) t P↔W f t λx t1=>W (toB x) t1 P:=by simp [An]
@[simp] theorem W_fChain {f g w:M D} {h h':D->D->M D} {P:D->T->Prop}:W (EJ f g w h h') t P↔W f t λx t1=>W g t1 λy t2=>W (h x y) t2 λk t3=>W (toB k) t3 λk t4=>if k=true then W w t4 λz t5=>W (h' y z) t5 P else P (.bl false) t4:=by
 simp [EJ]
@[simp] theorem W_fAnd {f g:M Bool} {P:Bool->T->Prop}:W (FT f g) t P↔W f t λk t1=>if k=true then W g t1 P else P false t1:=by simp [FT]
@[simp] theorem W_fOr {f g:M Bool} {P:Bool->T->Prop}:W (fOr f g) t P↔W f t λk t1=>if k=true then P true t1 else W g t1 P:=by simp [fOr]
@[simp] theorem W_fNot {f:M Bool} {P:Bool->T->Prop}:W (Co f) t P↔W f t λk t1=>P (!k) t1:=by simp [Co]
@[simp] theorem W_fAndV {f g:M D} {P:D->T->Prop}:W (Ed f g) t P↔W f t λx t1=>W (toB x) t1 λk t2=>if k=true then W g t2 P else P (.bl false) t2:=by simp [Ed]
@[simp] theorem bK {f g:M D} {P:D->T->Prop}:W (WB f g) t P↔W f t λx t1=>W (toB x) t1 λk t2=>if k=true then P (.bl true) t2 else W g t2 P:=by simp [WB]
@[simp] theorem W_fNotV {f:M D} {P:D->T->Prop}:W (HK f) t P↔W f t λx t1=>W (toB x) t1 λk t2=>P (.bl (!k)) t2:=by simp [HK]
@[simp] theorem W_fIf {f:M Bool} {g h:M D} {P:D->T->Prop}:W (fIf f g h) t P↔W f t λk t1=>if k=true then W g t1 P else W h t1 P:=by simp [fIf]
@[simp] theorem W_fNil {P:List D->T->Prop}:W Ad t P↔P [] t:=Av rfl
@[simp] theorem W_fCons {f:M D} {g:M (List D)} {P:List D->T->Prop}:W (Ab f g) t P↔W f t λd t1=>W g t1 λds t2=>P (d :: ds) t2:=by simp [Ab]
@[simp] theorem W_fTup {f:M (List D)} {P:D->T->Prop}:W (AU f) t P↔W f t λds t1=>ds.length<=LIM/\P (.tup ds) t1:=by simp [AU]
@[simp] theorem W_fLst {f:M (List D)} {P:List D->T->Prop}:W (Bn f) t P↔W f t λds t1=>ds.length<=LIM/\P ds t1:=by simp [Bn]
@[simp] theorem W_fPure {f:M (List D)} {P:D->T->Prop}:W (AQ f) t P↔W f t λds t1=>P (.lst ds) t1:=by simp [AQ]
@[simp] theorem W_newOb {o:Ob} {P:D->T->Prop}:W (OB o) t P↔P (.obj t.S.length) ⟨t.env,t.S++[o]⟩:=Av rfl
@[simp] theorem Wk {f:M (List D)} {P:D->T->Prop}:W (ET f) t P↔W f t λds t1=>W (OB (.lst ds)) t1 P:=by simp [ET]
@[simp] theorem W_fCall {g:Fn} {f:M (List D)} {P:D->T->Prop}:W (Ak g f) t P↔W f t λds t1=>Wf g ds t1.S λr S'=>P r ⟨t1.env,S'⟩:=by
 unfold Ak;rw [W_bnd];constructor
 ·rintro ⟨ds,t1,e1,r,t',e2,p⟩;refine ⟨ds,t1,e1,?_⟩;dsimp only at e2
  cases e:g ds t1.S with
  | none=>rw [e] at e2;cases e2
  | some z=>obtain ⟨r',S'⟩:=z;rw [e] at e2;cases e2;exact ⟨r,_,e,p⟩
 ·rintro ⟨ds,t1,e1,r,S',e2,p⟩;exact ⟨ds,t1,e1,r,_,by simp only [e2],p⟩
@[simp] theorem W_fB {f:M (List D)} {h:List D->M D} {P:D->T->Prop}:W (fB f h) t P↔W f t λds t1=>W (h ds) t1 P:=by simp [fB]
@[simp] theorem W_fBF {f:M (List D)} {h:List D->M (List D)} {P:List D->T->Prop}:W (fBF f h) t P↔W f t λds t1=>W (h ds) t1 P:=by simp [fBF]
@[simp] theorem W_seqS {f g:M Out} {P:Out->T->Prop}:W (Af f g) t P↔W f t λo t1=>match o with
 | .next=>W g t1 P
 | .brk=>P .brk t1
 | .cont=>P .cont t1
 | .ret d=>P (.ret d) t1:=by
 unfold Af;constructor
 ·rintro ⟨o,t',e,p⟩;dsimp only at e
  cases e1:f t with
  | none=>rw [e1] at e;cases e
  | some z=>
    obtain ⟨o1,t1⟩:=z;rw [e1] at e;refine ⟨o1,t1,e1,?_⟩
    cases o1 with
    | next=>exact ⟨o,t',e,p⟩
    | brk=>cases e;exact p
    | cont=>cases e;exact p
    | ret d=>cases e;exact p
 ·rintro ⟨o,t1,e,p⟩
  cases o with
  | next=>obtain ⟨o,t',e',p⟩:=p;exact ⟨o,t',by simp only [e];exact e',p⟩
  | brk=>exact ⟨_,_,by simp only [e],p⟩
  | cont=>exact ⟨_,_,by simp only [e],p⟩
  | ret d=>exact ⟨_,_,by simp only [e],p⟩
@[simp] theorem W_skipS {P:Out->T->Prop}:W Ar t P↔P .next t:=Av rfl
@[simp] theorem W_retS {f:M D} {P:Out->T->Prop}:W (Ap f) t P↔W f t λd t1=>P (.ret d) t1:=by simp [Ap]
@[simp] theorem W_dropS {f:M D} {P:Out->T->Prop}:W (Bi f) t P↔W f t λd t1=>P .next t1:=by simp [Bi]
@[simp] theorem W_ifS {f:M Bool} {g h:M Out} {P:Out->T->Prop}:W (ifS f g h) t P↔W f t λk t1=>if k=true then W g t1 P else W h t1 P:=by simp [ifS]
@[simp] theorem W_putV {i:Nat} {d:D} {P:Unit->T->Prop}:W (AF i d) t P↔P () ⟨t.env.set i (some (.val d)),t.S⟩:=Av rfl
@[simp] theorem W_setS {i:Nat} {f:M D} {P:Out->T->Prop}:W (As i f) t P↔W f t λd t1=>P .next ⟨t1.env.set i (some (.val d)),t1.S⟩:=by
 simp only [As,W_bnd,W_ret,W_putV]
@[simp] theorem W_ownS {i:Nat} {f:M (List D)} {P:Out->T->Prop}:W (Ft i f) t P↔W f t λds t1=>P .next ⟨t1.env.set i (some (.own ds)),t1.S⟩:=by
 unfold Ft;rw [W_bnd];have:∀(ds:List D) (t1:T),W (λt:T=>some (Out.next,({ t with env:=t.env.set i (some (.own ds)) }:T))) t1 P↔P .next ⟨t1.env.set i (some (.own ds)),t1.S⟩:=λds t1=>Av rfl;simp only [this]
@[simp] theorem W_asgS {f:M D} {g:D->M Unit} {P:Out->T->Prop}:W (C3 f g) t P↔W f t λd t1=>W (g d) t1 λ_ t2=>P .next t2:=by simp [C3]
@[simp] theorem W_putNil {P:Unit->T->Prop}:W (BY []) t P↔P () t:=Av rfl
@[simp] theorem W_putCons {f:D->M Unit} {g:List D->M Unit} {d:D} {ds:List D} {P:Unit->T->Prop}:W (AK f g (d :: ds)) t P↔W (f d) t λ_ t1=>W (g ds) t1 P:=by simp [AK]
@[simp] theorem Z1 {n:Nat} {g:List D->M Unit} {ds:List D} {P:Unit->T->Prop}:W (unS n g (.lst ds)) t P↔ds.length=n/\W (g ds) t P:=by
 unfold unS;simp only [TD,W_fail];split <;> simp [*]
@[simp] theorem W_unS_tup {n:Nat} {g:List D->M Unit} {ds:List D} {P:Unit->T->Prop}:W (unS n g (.tup ds)) t P↔ds.length=n/\W (g ds) t P:=by
 unfold unS;simp only [TD,W_fail];split <;> simp [*]
@[simp] theorem W_forS {f:M (List D)} {st:D->M Unit} {b:M Out} {P:Out->T->Prop}:W (C4 f st b) t P↔W f t λds t1=>W (Cw st b ds) t1 P:=by simp [C4]
@[simp] theorem W_forL_nil {st:D->M Unit} {b:M Out} {P:Out->T->Prop}:W (Cw st b []) t P↔P .next t:=Av rfl
theorem W_forL_cons {st:D->M Unit}{b:M Out}{d:D}{r:List D}{P:Out->T->Prop}:W (Cw st b (d :: r)) t P↔W (st d) t λ_ t1=>W b t1 λo t2=>match o with
 | .next=>W (Cw st b r) t2 P
 | .cont=>W (Cw st b r) t2 P
 | .brk=>P .next t2
 | .ret x=>P (.ret x) t2:=by
 constructor
 ·rintro ⟨o,t',e,p⟩;unfold Cw at e
  cases e1:st d t with
  | none=>rw [e1] at e;cases e
  | some z=>
    obtain ⟨u,t1⟩:=z;rw [e1] at e
    try dsimp only at e
    refine ⟨u,t1,e1,?_⟩
    cases e2:b t1 with
    | none=>rw [e2] at e;cases e
    | some z=>
      obtain ⟨o2,t2⟩:=z;rw [e2] at e
      try dsimp only at e
      refine ⟨o2,t2,e2,?_⟩
      cases o2 with
      | next=>exact ⟨o,t',e,p⟩
      | cont=>exact ⟨o,t',e,p⟩
      | brk=>cases e;exact p
      | ret x=>cases e;exact p
 ·rintro ⟨u,t1,e1,o,t2,e2,p⟩
  cases o with
  | next=>obtain ⟨o,t',e',p⟩:=p;exact ⟨o,t',by unfold Cw;simp only [e1,e2];exact e',p⟩
  | cont=>obtain ⟨o,t',e',p⟩:=p;exact ⟨o,t',by unfold Cw;simp only [e1,e2];exact e',p⟩
  | brk=>exact ⟨_,_,by unfold Cw;simp only [e1,e2],p⟩
  | ret x=>exact ⟨_,_,by unfold Cw;simp only [e1,e2],p⟩
theorem EG {st:D->M Unit}{b:M Out}{P:Out->T->Prop}(I:List D->T->Prop):∀(ds:List D) (t:T),I ds t->
 (∀d r t,I (d :: r) t->d∈ds->W (st d) t λ_ t1=>W b t1 λo t2=>match o with
   | .next=>I r t2
   | .cont=>I r t2
   | .brk=>P .next t2
   | .ret x=>P (.ret x) t2)->(∀t,I [] t->P .next t)->W (Cw st b ds) t P
 | [],t,h,_,fin=>W_forL_nil.mpr (fin t h)
 | d :: r,t,h,turn,fin=>by
   rw [W_forL_cons];refine (turn d r t h ud9).mono λ_ t1 h1=>h1.mono λo t2 h2=>?_
   cases o with
   | next=>exact EG I r t2 h2 (λd' r' t' h' m=>turn d' r' t' h' (uc9 _ m)) fin
   | cont=>exact EG I r t2 h2 (λd' r' t' h' m=>turn d' r' t' h' (uc9 _ m)) fin
   | brk=>exact h2
   | ret x=>exact h2
@[simp] theorem W_fComp {n:Nat} {fr:List Nat} {f:M (List D)} {st:D->M Unit} {tst:M Bool} {elt:M D} {P:List D->T->Prop}:W (B0 n fr f st tst elt) t P↔W f t λds t1=>W (BS st tst elt ds) ⟨cenv n fr t1.env,t1.S⟩ λxs t'=>xs.length<=LIM/\P xs ⟨t1.env,t'.S⟩:=by
 unfold B0;rw [W_bnd];constructor
 ·rintro ⟨ds,t1,e1,xs,t',e2,p⟩;refine ⟨ds,t1,e1,?_⟩;dsimp only at e2
  cases e:BS st tst elt ds ⟨cenv n fr t1.env,t1.S⟩ with
  | none=>rw [e] at e2;cases e2
  | some z=>
    obtain ⟨ys,t3⟩:=z;rw [e] at e2;dsimp only at e2
    split at e2
    ·cases e2;exact ⟨_,_,e,by assumption,p⟩
    ·cases e2
 ·rintro ⟨ds,t1,e1,xs,t',e2,h,p⟩;exact ⟨ds,t1,e1,xs,_,by simp only [e2,h,if_true],p⟩
@[simp] theorem W_compL_nil {st:D->M Unit} {tst:M Bool} {elt:M D} {P:List D->T->Prop}:W (BS st tst elt []) t P↔P [] t:=Av rfl
theorem GW {st:D->M Unit}{tst:M Bool}{elt:M D}{d:D}{r:List D}{P:List D->T->Prop}:W (BS st tst elt (d :: r)) t P↔W (st d) t λ_ t1=>W tst t1 λk t2=>
 if k=true then W elt t2 λx t3=>W (BS st tst elt r) t3 λxs t4=>P (x :: xs) t4 else W (BS st tst elt r) t2 P:=by
 rw [BS];simp
theorem IR {st:D->M Unit}{tst:M Bool}{elt:M D}{P:List D->T->Prop}(I:List D->List D->T->Prop):∀(ds:List D) (acc:List D) (t:T),I acc ds t->
 (∀acc d r t,I acc (d :: r) t->d∈ds->W (st d) t λ_ t1=>W tst t1 λk t2=>if k=true then W elt t2 λx t3=>I (acc++[x]) r t3 else I acc r t2)->
 (∀acc t,I acc [] t->P acc t)->W (BS st tst elt ds) t λxs t'=>P (acc++xs) t'
 | [],acc,t,h,_,fin=>W_compL_nil.mpr (by rw [uh8];exact fin acc t h)
 | d :: r,acc,t,h,turn,fin=>by
   rw [GW];have turn':∀acc d' r' t',I acc (d' :: r') t'->d'∈r->_:=λacc d' r' t' h' m=>turn acc d' r' t' h' (uc9 _ m);refine (turn acc d r t h ud9).mono λ_ t1 h1=>h1.mono λk t2 h2=>?_
   cases k with
   | true=>
     rw [if_pos rfl] at h2 ⊢;refine h2.mono λx t3 h3=>(IR I r (acc++[x]) t3 h3 turn' fin).mono λxs t4 h4=>?_;rw [uf4] at h4;exact h4
   | false=>
     rw [if_neg ue0] at h2 ⊢;exact IR I r acc t2 h2 turn' fin
theorem Ao {n m:Nat}{g:M Out}{ds:List D}{P:D->List Ob->Prop}(h:ds.length=n)(w:W g ⟨env0 m ds,S⟩ λo t=>match o with
 | .ret r=>P r t.S
 | .next=>P .non t.S
 | _=>False):Wf (fnOf n m g) ds S P:=by
 obtain ⟨o,t,e,p⟩:=w
 cases o with
 | ret r=>exact ⟨r,t.S,by unfold fnOf;rw [if_pos h,e],p⟩
 | next=>exact ⟨.non,t.S,by unfold fnOf;rw [if_pos h,e],p⟩
 | brk=>exact p.elim
 | cont=>exact p.elim
@[simp] theorem W_tTru {P:Bool->T->Prop}:W FD t P↔P true t:=Av rfl
@[simp] theorem bJ {P:D->T->Prop}:W ad t P↔P .dic t:=Av rfl
end F2
namespace F2
open PySem L2
variable {t:T}{P:D->T->Prop}
theorem Lk {α β:Type}{o:Option β}{g:β->α×T}{Q:α->T->Prop}{m:M α}(e:m t=o.map g):W m t Q↔∃b,o=some b/\Q (g b).1 (g b).2:=by
 constructor
 ·rintro ⟨a,t',e',p⟩;rw [e] at e';obtain ⟨b,h1,h2⟩:=uc2.mp e';exact ⟨b,h1,by rw [h2];exact p⟩
 ·rintro ⟨b,h,p⟩;exact ⟨_,_,by rw [e,h];rfl,p⟩
theorem Re {α:Type}{c:Prop}[Decidable c]{z:α×T}{Q:α->T->Prop}{m:M α}(e:m t=if c then some z else none):W m t Q↔c/\Q z.1 z.2:=by
 constructor
 ·rintro ⟨a,t',e',p⟩;rw [e] at e'
  split at e'
  ·cases e';exact ⟨by assumption,p⟩
  ·cases e'
 ·rintro ⟨h,p⟩;exact ⟨_,_,by rw [e,if_pos h],p⟩
theorem LK {α β:Type}{o:Option β}(f:β->α){Q:α->T->Prop}{m:M α}(e:m t=o.map λb=>(f b,t)):W m t Q↔∃b,o=some b/\Q (f b) t:=Lk (g:=λb=>(f b,t)) e
theorem HD {α:Type}{c:Prop}[Decidable c]{a:α}{Q:α->T->Prop}{m:M α}(e:m t=if c then some (a,t) else none):W m t Q↔c/\Q a t:=Re (z:=(a,t)) e
@[simp] theorem W_ix_tup {ds:List D} {i:Int}:W (ixD (.tup ds) (.int i)) t P↔∃d,atI ds i=some d/\P d t:=LK id rfl
@[simp] theorem W_ix_lst {ds:List D} {i:Int}:W (ixD (.lst ds) (.int i)) t P↔∃d,atI ds i=some d/\P d t:=LK id rfl
@[simp] theorem W_ix_scr {ns:List Int} {i:Int}:W (ixD (.scr ns) (.int i)) t P↔∃n,atI ns i=some n/\P (.int n) t:=LK D.int rfl
@[simp] theorem W_ix_str {x:Str} {i:Int}:W (ixD (.str x) (.int i)) t P↔x.length<=LIM/\∃n,atI x.cps.toList i=some n/\P (.str ⟨#[n]⟩) t:=by
 by_cases h:x.length<=LIM
 ·have:ixD (.str x) (.int i) t=(atI x.cps.toList i).map λn=>(.str ⟨#[n]⟩,t):=by simp only [ixD,h,if_true]
  rw [Lk this];simp [h]
 ·rw [Ea (by simp only [ixD,h,if_false])];simp [h]
@[simp] theorem W_ix_obj {k:Nat} {i:Int}:W (ixD (.obj k) (.int i)) t P↔∃ds,t.S[k]?=some (.lst ds)/\∃d,atI ds i=some d/\P d t:=by
 cases e:t.S[k]? with
 | none=>rw [Ea (by simp only [ixD,e])];simp
 | some o=>
   cases o with
   | dct _ | ins _ _=>rw [Ea (by simp only [ixD,e])];simp
   | lst ds=>
     have:ixD (.obj k) (.int i) t=(atI ds i).map λd=>(d,t):=by simp only [ixD,e]
     rw [Lk this];simp
@[simp] theorem FG {α:Type} {a:α} {r:List α}:atI (a :: r) 0=some a:=by simp [atI,ixN]
@[simp] theorem N7 {α:Type} {a b:α} {r:List α}:atI (a :: b :: r) 1=some b:=by
 have:(1:Int) < ((a :: b :: r).length:Nat):=by simp;lia
 simp only [atI,ixN,this,if_true,show (0:Int)<=1 by decide];rfl
@[simp] theorem N8 {α:Type} {a b c:α} {r:List α}:atI (a :: b :: c :: r) 2=some c:=by
 have:(2:Int) < ((a :: b :: c :: r).length:Nat):=by simp;lia
 simp only [atI,ixN,this,if_true,show (0:Int)<=2 by decide];rfl
@[simp] theorem W_len_lst {ds:List D}:W (A4 [.lst ds]) t P↔P (.int ds.length) t:=Av rfl
@[simp] theorem W_len_tup {ds:List D}:W (A4 [.tup ds]) t P↔P (.int ds.length) t:=Av rfl
@[simp] theorem W_len_scr {ds:List Int}:W (A4 [.scr ds]) t P↔P (.int ds.length) t:=Av rfl
@[simp] theorem W_len_str {x:Str}:W (A4 [.str x]) t P↔x.length<=LIM/\P (.int x.length) t:=by simp [A4]
@[simp] theorem W_len_obj {k:Nat}:W (A4 [.obj k]) t P↔∃ds,t.S[k]?=some (.lst ds)/\P (.int ds.length) t:=by
 cases e:t.S[k]? with
 | none=>rw [Ea (by simp only [A4,e])];simp
 | some o=>
   cases o with
   | dct _ | ins _ _=>rw [Ea (by simp only [A4,e])];simp
   | lst ds=>rw [Av (a:=.int ds.length) (t':=t) (by simp only [A4,e])];simp
@[simp] theorem W_isi {d:D} {m:String}:W (Eg [d,.ty m]) t P↔∃n,tyD d=some n/\∃b,EV n m=some b/\P (.bl b) t:=by
 cases e:tyD d with
 | none=>rw [Ea (by simp only [Eg,e])];simp
 | some n=>
   have:Eg [d,.ty m] t=(EV n m).map λb=>(.bl b,t):=by simp only [Eg,e]
   rw [Lk this];simp
noncomputable def Gy:D->Bool
 | .non=>true
 | _=>false
noncomputable def al (b:Bool):D->Bool
 | .bl c=>c == b
 | _=>false
@[simp] theorem W_is_non {x:D}:W (isC x .non) t P↔P (.bl (Gy x)) t:=Av (by cases x <;> rfl)
@[simp] theorem bG {x:D} {b:Bool}:W (isC x (.bl b)) t P↔P (.bl (al b x)) t:=Av (by cases x <;> rfl)
@[simp] theorem bF {x y:D}:W (P5 x y) t P↔W (isC x y) t λd t1=>W (toB d) t1 λb t2=>P (.bl (!b)) t2:=by
 unfold P5;rw [W_bnd];constructor
 ·exact λh=>h.mono λd t1 h1=>by
   cases d with
   | bl b=>simpa using h1
   | _=>exact (W_fail.mp h1).elim
 ·exact λh=>h.mono λd t1 h1=>by
   cases d with
   | bl b=>simpa using h1
   | _=>obtain ⟨_,_,e,_⟩:=h1;cases e
@[simp] theorem W_add_int {i j:Int}:W (AT (.int i) (.int j)) t P↔P (.int (i + j)) t:=Av rfl
@[simp] theorem W_sub_int {i j:Int}:W (Cz (.int i) (.int j)) t P↔P (.int (i - j)) t:=Av rfl
@[simp] theorem W_lt_int {i j:Int}:W (ltA (.int i) (.int j)) t P↔P (.bl (decide (i < j))) t:=Av rfl
@[simp] theorem W_le_int {i j:Int}:W (leA (.int i) (.int j)) t P↔P (.bl (decide (i<=j))) t:=Av rfl
@[simp] theorem W_gt_int {i j:Int}:W (gtA (.int i) (.int j)) t P↔P (.bl (decide (j < i))) t:=Av rfl
@[simp] theorem W_ge_int {i j:Int}:W (geA (.int i) (.int j)) t P↔P (.bl (decide (j<=i))) t:=Av rfl
@[simp] theorem Z7 {i j:Str}:W (ltA (.str i) (.str j)) t P↔P (.bl (decide (i.cps.toList < j.cps.toList))) t:=Av rfl
@[simp] theorem Z4 {i j:Str}:W (gtA (.str i) (.str j)) t P↔P (.bl (decide (j.cps.toList < i.cps.toList))) t:=Av rfl
@[simp] theorem W_neg {i:Int}:W (Ka (.int i)) t P↔P (.int (-i)) t:=Av rfl
@[simp] theorem W_fdiv {i j:Int}:W (A0 (.int i) (.int j)) t P↔(0 < j/\j < 1073741824)/\P (.int (i / j)) t:=by
 rw [Re (m:=A0 (.int i) (.int j)) (c:=Ll i j=true) (z:=(.int (i / j),t)) rfl];simp [Ll]
@[simp] theorem W_mod {i j:Int}:W (Ba (.int i) (.int j)) t P↔0 < j/\P (.int (i % j)) t:=by
 rw [Re (m:=Ba (.int i) (.int j)) (c:=decide (0 < j)=true) (z:=(.int (i % j),t)) rfl];simp
@[simp] theorem W_pow {i j:Int}:W (MB (.int i) (.int j)) t P↔Ls i j=true/\P (.int (i ^ j.toNat)) t:=HD rfl
@[simp] theorem W_mul_int {i j:Int}:W (DI (.int i) (.int j)) t P↔E9 i j=true/\P (.int (i * j)) t:=HD rfl
theorem UU {i j:Int}(h1 : -18446744073709551616 < i)(h2:i < 18446744073709551616):E9 i j=true:=by simp [E9,h1,h2]
theorem ND {i j:Int}(h1 : -18446744073709551616 < j)(h2:j < 18446744073709551616):E9 i j=true:=by simp [E9,h1,h2]
theorem CV {k:Int}(h1 : -4611686018427387904<=k)(h2:k < 4611686018427387904):CU k=true:=by simp [CU,h1,h2]
@[simp] theorem W_add_str {x y:Str}:W (AT (.str x) (.str y)) t P↔x.length + y.length<=LIM/\P (.str (x++y)) t:=by
 have:AT (.str x) (.str y)=lim (x.length + y.length) (.str (x++y)):=rfl;rw [this];simp
@[simp] theorem W_add_lst {x y:List D}:W (AT (.lst x) (.lst y)) t P↔x.length + y.length<=LIM/\P (.lst (x++y)) t:=by
 have:AT (.lst x) (.lst y)=lim (x.length + y.length) (.lst (x++y)):=rfl;rw [this];simp
@[simp] theorem W_cat {x y:List D} {Q:List D->T->Prop}:W (G3 (.lst x) (.lst y)) t Q↔x.length + y.length<=LIM/\Q (x++y) t:=by
 have:G3 (.lst x) (.lst y)=lim (x.length + y.length) (x++y):=rfl;rw [this];simp
@[simp] theorem bP {i:Int}:W (Z8 [.int i]) t P↔P (.int (if i < 0 then -i else i)) t:=Av rfl
@[simp] theorem bS {i j:Int}:W (ap [.int i,.int j]) t P↔P (.int (if j < i then j else i)) t:=Av rfl
@[simp] theorem bR {i j:Int}:W (ao [.int i,.int j]) t P↔P (.int (if j > i then j else i)) t:=Av rfl
@[simp] theorem ZY {i:Int}:W (W4 [.int i]) t P↔P (.int i) t:=Av rfl
@[simp] theorem Z5 {b:Bool}:W (W4 [.bl b]) t P↔P (.int (if b then 1 else 0)) t:=Av rfl
@[simp] theorem W_ord {x:Str}:W (IC [.str x]) t P↔x.length=1/\P (.int (x.cps.getD 0 0:Nat)) t:=HD rfl
@[simp] theorem Z0 {ds:List D}:W (aL [.lst ds]) t P↔P (.tup ds) t:=Av rfl
@[simp] theorem W_lst_lst {ds:List D} {Q:List D->T->Prop}:W (DU [.lst ds]) t Q↔Q ds t:=Av rfl
@[simp] theorem ZZ {ds:List D} {Q:List D->T->Prop}:W (DU [.tup ds]) t Q↔Q ds t:=Av rfl
@[simp] theorem W_eq_str {g:Bool->Bool} {x y:Str}:W (eqS g (.str x) (.str y)) t P↔P (.bl (g (x == y))) t:=Av rfl
@[simp] theorem W_eq_int {g:Bool->Bool} {x y:Int}:W (eqS g (.int x) (.int y)) t P↔P (.bl (g (x == y))) t:=Av rfl
@[simp] theorem bE {g:Bool->Bool} {x y:Bool}:W (eqS g (.bl x) (.bl y)) t P↔P (.bl (g (x == y))) t:=Av rfl
@[simp] theorem W_eq_nil {g:Bool->Bool} {x:List D}:W (eqS g (.lst x) (.lst [])) t P↔P (.bl (g x.isEmpty)) t:=by
 refine Av ?_
 cases x <;> rfl
theorem Hm {a b:String}:Str.ofString a=Str.ofString b↔a=b:=by
 constructor
 ·intro h;rw [Str.ofString_eq_toList,Str.ofString_eq_toList] at h;injection h with h
  have h:=congrArg Array.toList h;simp only at h;have hinj:∀xs ys:List Char,xs.map Char.toNat=ys.map Char.toNat->xs=ys:=by
   intro xs
   induction xs with
   | nil=>intro ys h;cases ys with | nil=>rfl | cons _ _=>simp at h
   | cons x xs ih=>
     intro ys h
     cases ys with
     | nil=>simp at h
     | cons y ys=>
       simp only [uj6,List.cons.injEq] at h;rw [ih ys h.2,Char.toNat_inj.mp h.1]
  exact String.toList_inj.mp (hinj _ _ (by simpa using h))
 ·exact λh=>by rw [h]
@[simp] theorem Xk {a b:String}:(Str.ofString a == Str.ofString b)=(a == b):=by
 rw [Bool.eq_iff_iff,beq_iff_eq,beq_iff_eq,Hm]
@[simp] theorem W_sl_lst {ds:List D} {lo hi:Option Int}:W (FA (.lst ds) lo hi) t P↔P (.lst (Ca ds lo hi)) t:=Av rfl
@[simp] theorem W_sl_scr {ds:List Int} {lo hi:Option Int}:W (FA (.scr ds) lo hi) t P↔P (.lst ((Ca ds lo hi).map .int)) t:=Av rfl
@[simp] theorem W_fSl {f:M D} {l u:M (Option Int)} {h:D->Option Int->Option Int->M D}:W (fSl f l u h) t P↔W f t λx t1=>W l t1 λlo t2=>W u t2 λhi t3=>W (h x lo hi) t3 P:=by simp [fSl]
@[simp] theorem W_fNo {Q:Option Int->T->Prop}:W fNo t Q↔Q none t:=Av rfl
@[simp] theorem W_asI {i:Int} {Q:Option Int->T->Prop}:W (asI (.int i)) t Q↔Q (some i) t:=Av rfl
@[simp] theorem W_fPart {f:M D} {Q:Option Int->T->Prop}:W (Ee f) t Q↔W f t λx t1=>W (asI x) t1 Q:=by simp [Ee]
@[simp] theorem W_fItA {f:M D} {Q:List D->T->Prop}:W (ES f) t Q↔W f t λx t1=>W (Df x) t1 Q:=by simp [ES]
@[simp] theorem W_it_lst {ds:List D} {Q:List D->T->Prop}:W (Df (.lst ds)) t Q↔Q ds t:=Av rfl
@[simp] theorem W_it_tup {ds:List D} {Q:List D->T->Prop}:W (Df (.tup ds)) t Q↔Q ds t:=Av rfl
@[simp] theorem Z6 {ds:List Int} {Q:List D->T->Prop}:W (Df (.scr ds)) t Q↔Q (ds.map .int) t:=Av rfl
@[simp] theorem W_it_str {x:Str} {Q:List D->T->Prop}:W (Df (.str x)) t Q↔Q (x.cps.toList.map λc=>.str ⟨#[c]⟩) t:=Av rfl
@[simp] theorem W_fRng1 {f:M (List D)} {Q:List D->T->Prop}:W (C8 f) t Q↔W f t λx t1=>W (Kh x) t1 Q:=by simp [C8]
@[simp] theorem W_fRng2 {f:M (List D)} {Q:List D->T->Prop}:W (Gm f) t Q↔W f t λx t1=>W (Ki x) t1 Q:=by simp [Gm]
@[simp] theorem W_rng1 {j:Int} {Q:List D->T->Prop}:W (Kh [.int j]) t Q↔CU j=true/\Q (Bd 0 j.toNat) t:=HD rfl
@[simp] theorem W_rng2 {i j:Int} {Q:List D->T->Prop}:W (Ki [.int i,.int j]) t Q↔(CU i && CU j)=true/\Q (Bd i (j - i).toNat) t:=HD rfl
@[simp] theorem W_in_lst {neg:Bool} {x:D} {ds:List D}:W (inD neg x (.lst ds)) t P↔(FK x=true/\ds.all FK=true)/\P (.bl (if neg then !inV (toV x) (ds.map toV) else inV (toV x) (ds.map toV))) t:=HD rfl
@[simp] theorem W_ownM {i:Nat} {h:List D->List D->Option (List D)} {g:M (List D)} {Q:Out->T->Prop}:W (ownM i h g) t Q↔(∃xs,t.env[i]?=some (some (.own xs)))/\W g t λds t1=>∃xs,t1.env[i]?=some (some (.own xs))/\∃ys,h xs ds=some ys/\Q .next ⟨t1.env.set i (some (.own ys)),t1.S⟩:=by
 constructor
 ·rintro ⟨o,t',e,p⟩;unfold ownM at e
  split at e
  ·next xs e0=>
   refine ⟨⟨xs,e0⟩,?_⟩;obtain ⟨ds,t1,e1,e⟩:=Ae e;refine ⟨ds,t1,e1,?_⟩
   split at e
   ·next ys e2=>
    obtain ⟨zs,e3,e4⟩:=uc2.mp e
    cases e4
    exact ⟨ys,e2,zs,e3,p⟩
   ·cases e
  ·cases e
 ·rintro ⟨⟨xs,e0⟩,ds,t1,e1,ys,e2,zs,e3,p⟩;exact ⟨_,_,by unfold ownM bnd;simp only [e0,e1,e2,e3,ui3],p⟩
@[simp] theorem app1_one {xs:List D} {d:D} {ys:List D}:BP xs [d]=some ys↔xs.length < LIM/\xs++[d]=ys:=by
 unfold BP;split <;> simp [*]
@[simp] theorem bT {f g:M D} {d:D} {Q:Unit->T->Prop}:W (stD f g d) t Q↔W f t λo t1=>W g t1 λi t2=>W (Yd o i d) t2 Q:=by simp [stD]
end F2
namespace F2
open PySem L2
variable {t:T}{P:D->T->Prop}{Q:List D->T->Prop}{R:Out->T->Prop}{B:Bool->T->Prop}{U:Unit->T->Prop}
def EW (k:Bool)(A B:Prop):Prop:=if k=true then A else B
theorem EX {k:Bool}{A B:Prop}(h:k=true)(a:A):EW k A B:=by unfold EW;rw [if_pos h];exact a
theorem Dg {k:Bool}{A B:Prop}(h:k=false)(b:B):EW k A B:=by unfold EW;rw [if_neg (by rw [h];exact ue0)];exact b
theorem Cr {k:Bool}{A B:Prop}(a:k=true->A)(b:k=false->B):EW k A B:=by cases h:k with
 | true=>exact EX rfl (a h)
 | false=>exact Dg rfl (b h)
def CT (g:M Out)(R:Out->T->Prop)(o:Out)(t1:T):Prop:=match o with
 | .next=>W g t1 R
 | o=>R o t1
variable {g:M Out}{t1:T}
theorem BR (h:W g t1 R):CT g R .next t1:=h
theorem S7 {d:D}(h:R (.ret d) t1):CT g R (.ret d) t1:=h
theorem Tr {f:M Out}(h:W f t (CT g R)):W (Af f g) t R:=W_seqS.mpr (h.mono λo t1 h1=>by cases o <;> exact h1)
theorem JD (h:R .next t):W Ar t R:=W_skipS.mpr h
variable {f:M D}
theorem Yx (h:W f t λd t1=>R (.ret d) t1):W (Ap f) t R:=W_retS.mpr h
theorem Zu (h:W f t λd t1=>R .next t1):W (Bi f) t R:=W_dropS.mpr h
theorem wIf {f:M Bool}{h:M Out}(w:W f t λk t1=>EW k (W g t1 R) (W h t1 R)):W (ifS f g h) t R:=W_ifS.mpr w
theorem bv {i:Nat}(h:W f t λd t1=>R .next ⟨t1.env.set i (some (.val d)),t1.S⟩):W (As i f) t R:=W_setS.mpr h
theorem br {i:Nat}{f:M (List D)}(h:W f t λd t1=>R .next ⟨t1.env.set i (some (.own d)),t1.S⟩):W (Ft i f) t R:=W_ownS.mpr h
theorem aP {g:D->M Unit}(h:W f t λd t1=>W (g d) t1 λ_ t2=>R .next t2):W (C3 f g) t R:=W_asgS.mpr h
theorem aS {f:M (List D)}{st:D->M Unit}{b:M Out}(h:W f t λds t1=>W (Cw st b ds) t1 R):W (C4 f st b) t R:=W_forS.mpr h
theorem wC {d:D}(h:P d t):W (fC d) t P:=W_fC.mpr h
theorem E5 {i:Nat}{d:D}(e:t.env[i]?=some (some (.val d)))(h:P d t):W (Aa i) t P:=by rw [Pg,e];exact h
variable {ds:List D}
theorem ZR {i:Nat}(e:t.env[i]?=some (some (.own ds)))(h:P (.lst ds) ⟨t.env.set i (some (.val (.lst ds))),t.S⟩):W (Aa i) t P:=by rw [Pg,e];exact h
theorem Kn {g:M D}{h:D->D->M D}(w:W f t λx t1=>W g t1 λy t2=>W (h x y) t2 P):W (Ac f g h) t P:=W_fBin.mpr w
theorem wUn {h:D->M D}(w:W f t λx t1=>W (h x) t1 P):W (fUn f h) t P:=W_fUn.mpr w
theorem BH {α β:Type}{f:M α}{g:α->M β}{K:β->T->Prop}(w:W f t λx t1=>W (g x) t1 K):W (bnd f g) t K:=W_bnd.mpr w
theorem O6 {b:Bool}(h:B b t):W (toB (.bl b)) t B:=W_toB.mpr h
theorem O7 (h:W f t λx t1=>W (toB x) t1 B):W (An f) t B:=W_fTst.mpr h
theorem Yp {g w:M D}{h h':D->D->M D}(q:W f t λx t1=>W g t1 λy t2=>W (h x y) t2 λk t3=>W (toB k) t3 λk t4=>EW k (W w t4 λz t5=>W (h' y z) t5 P) (P (.bl false) t4)):W (EJ f g w h h') t P:=W_fChain.mpr q
theorem aM {f g:M Bool}(h:W f t λk t1=>EW k (W g t1 B) (B false t1)):W (FT f g) t B:=W_fAnd.mpr h
theorem wOr {f g:M Bool}(h:W f t λk t1=>EW k (B true t1) (W g t1 B)):W (fOr f g) t B:=W_fOr.mpr h
theorem bp {f:M Bool}(h:W f t λk t1=>B (!k) t1):W (Co f) t B:=W_fNot.mpr h
theorem Zo {g:M D}(h:W f t λx t1=>W (toB x) t1 λk t2=>EW k (W g t2 P) (P (.bl false) t2)):W (Ed f g) t P:=W_fAndV.mpr h
theorem ZD (h:W f t λx t1=>W (toB x) t1 λk t2=>P (.bl (!k)) t2):W (HK f) t P:=W_fNotV.mpr h
theorem aX {f:M Bool}{g h:M D}(w:W f t λk t1=>EW k (W g t1 P) (W h t1 P)):W (fIf f g h) t P:=W_fIf.mpr w
theorem Hv (h:Q [] t):W Ad t Q:=W_fNil.mpr h
theorem DE {g:M (List D)}(h:W f t λd t1=>W g t1 λds t2=>Q (d :: ds) t2):W (Ab f g) t Q:=W_fCons.mpr h
def Gz (n:Nat)(A:Prop):Prop:=n<=LIM/\A
variable {n:Nat}
theorem DG {A:Prop}(h:n<=LIM)(a:A):Gz n A:=⟨h,a⟩
theorem bB {f:M (List D)}(h:W f t λds t1=>Gz ds.length (P (.tup ds) t1)):W (AU f) t P:=W_fTup.mpr h
theorem bj {f:M (List D)}(h:W f t λds t1=>Gz ds.length (Q ds t1)):W (Bn f) t Q:=W_fLst.mpr h
theorem ZI {f:M (List D)}(h:W f t λds t1=>P (.lst ds) t1):W (AQ f) t P:=W_fPure.mpr h
theorem bq {f:M (List D)}(h:W f t λds t1=>P (.obj t1.S.length) ⟨t1.env,t1.S++[.lst ds]⟩):W (ET f) t P:=by rw [Wk];exact h.mono λds t1 h=>W_newOb.mpr h
theorem JA {g:Fn}{f:M (List D)}(h:W f t λds t1=>Wf g ds t1.S λr S'=>P r ⟨t1.env,S'⟩):W (Ak g f) t P:=W_fCall.mpr h
theorem wB {f:M (List D)}{h:List D->M D}(w:W f t λds t1=>W (h ds) t1 P):W (fB f h) t P:=W_fB.mpr w
theorem wBF {f:M (List D)}{h:List D->M (List D)}(w:W f t λds t1=>W (h ds) t1 Q):W (fBF f h) t Q:=W_fBF.mpr w
theorem O5 {i:Nat}{d:D}(h:U () ⟨t.env.set i (some (.val d)),t.S⟩):W (AF i d) t U:=W_putV.mpr h
theorem V0 (h:U () t):W (BY []) t U:=W_putNil.mpr h
theorem Tq {f:D->M Unit}{g:List D->M Unit}{d:D}(h:W (f d) t λ_ t1=>W (g ds) t1 U):W (AK f g (d :: ds)) t U:=W_putCons.mpr h
theorem bC {g:List D->M Unit}(e:ds.length=n)(h:W (g ds) t U):W (unS n g (.tup ds)) t U:=W_unS_tup.mpr ⟨e,h⟩
theorem Zt {fr:List Nat}{f:M (List D)}{st:D->M Unit}{tst:M Bool}{elt:M D}(h:W f t λds t1=>W (BS st tst elt ds) ⟨cenv n fr t1.env,t1.S⟩ λxs t'=>Gz xs.length (Q xs ⟨t1.env,t'.S⟩)):W (B0 n fr f st tst elt) t Q:=W_fComp.mpr h
theorem Yz (h:B true t):W FD t B:=W_tTru.mpr h
variable {i:Int}
theorem EE {d:D}(e:atI ds i=some d)(h:P d t):W (ixD (.tup ds) (.int i)) t P:=W_ix_tup.mpr ⟨d,e,h⟩
theorem Bk {d:D}(e:atI ds i=some d)(h:P d t):W (ixD (.lst ds) (.int i)) t P:=W_ix_lst.mpr ⟨d,e,h⟩
theorem O3 (h:P (.int ds.length) t):W (A4 [.lst ds]) t P:=W_len_lst.mpr h
theorem T8 (h:P (.int ds.length) t):W (A4 [.tup ds]) t P:=W_len_tup.mpr h
theorem ZB {ds:List Int}(h:P (.int ds.length) t):W (A4 [.scr ds]) t P:=W_len_scr.mpr h
theorem GM {k:Nat}(e:t.S[k]?=some (.lst ds))(h:P (.int ds.length) t):W (A4 [.obj k]) t P:=W_len_obj.mpr ⟨ds,e,h⟩
theorem T7 {x:Str}(e:x.length<=LIM)(h:P (.int x.length) t):W (A4 [.str x]) t P:=W_len_str.mpr ⟨e,h⟩
theorem a9 {d:D}{m n:String}{b:Bool}(e:tyD d=some n)(e':EV n m=some b)(h:P (.bl b) t):W (Eg [d,.ty m]) t P:=W_isi.mpr ⟨n,e,b,e',h⟩
theorem aZ {x:D}(h:P (.bl (Gy x)) t):W (isC x .non) t P:=W_is_non.mpr h
variable {j:Int}
theorem Zl (h:P (.int (i + j)) t):W (AT (.int i) (.int j)) t P:=W_add_int.mpr h
theorem ZP (h:P (.int (i - j)) t):W (Cz (.int i) (.int j)) t P:=W_sub_int.mpr h
theorem bn (h:P (.bl (decide (i < j))) t):W (ltA (.int i) (.int j)) t P:=W_lt_int.mpr h
theorem bi (h:P (.bl (decide (i<=j))) t):W (leA (.int i) (.int j)) t P:=W_le_int.mpr h
theorem aU (h:P (.bl (decide (j < i))) t):W (gtA (.int i) (.int j)) t P:=W_gt_int.mpr h
theorem aT (h:P (.bl (decide (j<=i))) t):W (geA (.int i) (.int j)) t P:=W_ge_int.mpr h
theorem bo (h:P (.int (-i)) t):W (Ka (.int i)) t P:=W_neg.mpr h
theorem IJ (h1:0 < j)(h2:j < 1073741824)(h:P (.int (i / j)) t):W (A0 (.int i) (.int j)) t P:=W_fdiv.mpr ⟨⟨h1,h2⟩,h⟩
theorem FV (h1:0 < j)(h:P (.int (i % j)) t):W (Ba (.int i) (.int j)) t P:=W_mod.mpr ⟨h1,h⟩
theorem bu (h1:Ls i j=true)(h:P (.int (i ^ j.toNat)) t):W (MB (.int i) (.int j)) t P:=W_pow.mpr ⟨h1,h⟩
theorem O4 (h1:E9 i j=true)(h:P (.int (i * j)) t):W (DI (.int i) (.int j)) t P:=W_mul_int.mpr ⟨h1,h⟩
theorem Zn {x y:Str}(h:Gz (x.length + y.length) (P (.str (x++y)) t)):W (AT (.str x) (.str y)) t P:=W_add_str.mpr h
theorem Zm {x y:List D}(h:Gz (x.length + y.length) (P (.lst (x++y)) t)):W (AT (.lst x) (.lst y)) t P:=W_add_lst.mpr h
theorem aQ {x y:List D}(h:Gz (x.length + y.length) (Q (x++y) t)):W (G3 (.lst x) (.lst y)) t Q:=W_cat.mpr h
theorem Yw {x:Str}(e:x.length=1)(h:P (.int (x.cps.getD 0 0:Nat)) t):W (IC [.str x]) t P:=W_ord.mpr ⟨e,h⟩
theorem ZC (h:Q ds t):W (DU [.lst ds]) t Q:=W_lst_lst.mpr h
theorem Tm {g:Bool->Bool}{x y:Str}(h:P (.bl (g (x == y))) t):W (eqS g (.str x) (.str y)) t P:=W_eq_str.mpr h
theorem Yt {g:Bool->Bool}{x y:Int}(h:P (.bl (g (x == y))) t):W (eqS g (.int x) (.int y)) t P:=W_eq_int.mpr h
theorem Yu {g:Bool->Bool}{x:List D}(h:P (.bl (g x.isEmpty)) t):W (eqS g (.lst x) (.lst [])) t P:=W_eq_nil.mpr h
theorem bx {lo hi:Option Int}(h:P (.lst (Ca ds lo hi)) t):W (FA (.lst ds) lo hi) t P:=W_sl_lst.mpr h
theorem bz {ds:List Int}{lo hi:Option Int}(h:P (.lst ((Ca ds lo hi).map .int)) t):W (FA (.scr ds) lo hi) t P:=W_sl_scr.mpr h
theorem wSl {l u:M (Option Int)}{h:D->Option Int->Option Int->M D}(w:W f t λx t1=>W l t1 λlo t2=>W u t2 λhi t3=>W (h x lo hi) t3 P):W (fSl f l u h) t P:=W_fSl.mpr w
variable {K:Option Int->T->Prop}
theorem wNo (h:K none t):W fNo t K:=W_fNo.mpr h
theorem aO (h:K (some i) t):W (asI (.int i)) t K:=W_asI.mpr h
theorem ZH (h:W f t λx t1=>W (asI x) t1 K):W (Ee f) t K:=W_fPart.mpr h
theorem ba (h:W f t λx t1=>W (Df x) t1 Q):W (ES f) t Q:=W_fItA.mpr h
theorem bb (h:Q ds t):W (Df (.lst ds)) t Q:=W_it_lst.mpr h
theorem bg (h:Q ds t):W (Df (.tup ds)) t Q:=W_it_tup.mpr h
theorem bf {x:Str}(h:Q (x.cps.toList.map λc=>.str ⟨#[c]⟩) t):W (Df (.str x)) t Q:=W_it_str.mpr h
theorem ZJ {f:M (List D)}(h:W f t λx t1=>W (Kh x) t1 Q):W (C8 f) t Q:=W_fRng1.mpr h
theorem ZK {f:M (List D)}(h:W f t λx t1=>W (Ki x) t1 Q):W (Gm f) t Q:=W_fRng2.mpr h
theorem Hw (e:CU j=true)(h:Q (Bd 0 j.toNat) t):W (Kh [.int j]) t Q:=W_rng1.mpr ⟨e,h⟩
theorem Yy (e:(CU i && CU j)=true)(h:Q (Bd i (j - i).toNat) t):W (Ki [.int i,.int j]) t Q:=W_rng2.mpr ⟨e,h⟩
theorem aY {neg:Bool}{x:D}(e:FK x=true/\ds.all FK=true)(h:P (.bl (if neg then !inV (toV x) (ds.map toV) else inV (toV x) (ds.map toV))) t):W (inD neg x (.lst ds)) t P:=W_in_lst.mpr ⟨e,h⟩
theorem ZG {i:Nat}{xs:List D}{h:List D->List D->Option (List D)}{g:M (List D)}(e:t.env[i]?=some (some (.own xs)))(w:W g t λds t1=>∃xs,t1.env[i]?=some (some (.own xs))/\∃ys,h xs ds=some ys/\R .next ⟨t1.env.set i (some (.own ys)),t1.S⟩):W (ownM i h g) t R:=W_ownM.mpr ⟨⟨xs,e⟩,w⟩
theorem aN {i:Nat}{xs:List D}{d:D}{A:List D->Prop}(e:t1.env[i]?=some (some (.own xs)))(w:Gz (xs.length + 1) (A (xs++[d]))):∃xs,t1.env[i]?=some (some (.own xs))/\∃ys,BP xs [d]=some ys/\A ys:=
 ⟨xs,e,_,app1_one.mpr ⟨w.1,rfl⟩,w.2⟩
end F2
namespace F2
open PySem L2
variable {i:Nat}{g:Fn}{d':D}
section
variable {t:T}{P:D->T->Prop}{B:Bool->T->Prop}{Q:List D->T->Prop}
theorem ZQ {n:Int}{ds:List D}{d:D}(e:t.env[i]?=some (some (.val (.tup ds))))(a:atI ds n=some d)(h:P d t):W (Ac (Aa i) (fC (.int n)) ixD) t P:=Kn (E5 e (wC (EE a h)))
theorem ZA {x y:Str}{ds:List D}{g:Bool->Bool}(e:t.env[i]?=some (some (.val (.tup (.str y :: ds)))))(h:B (g (y == x)) t):W (An (Ac (Ac (Aa i) (fC (.int 0)) ixD) (fC (.str x)) (eqS g))) t B:=O7 (Kn (Kn (E5 e (wC (EE FG (wC (Tm (O6 h))))))))
theorem YB {x y:Str}{g:Bool->Bool}(e:t.env[i]?=some (some (.val (.str y))))(h:B (g (y == x)) t):W (An (Ac (Aa i) (fC (.str x)) (eqS g))) t B:=O7 (Kn (E5 e (wC (Tm (O6 h)))))
theorem YA {x y:Int}{g:Bool->Bool}(e:t.env[i]?=some (some (.val (.int y))))(h:B (g (y == x)) t):W (An (Ac (Aa i) (fC (.int x)) (eqS g))) t B:=O7 (Kn (E5 e (wC (Yt (O6 h)))))
theorem VV {d:D}(e:t.env[i]?=some (some (.val d)))(h:Wf g [d] t.S λr S'=>P r ⟨t.env,S'⟩):W (Ak g (Ab (Aa i) Ad)) t P:=JA (DE (E5 e (Hv h)))
theorem VW {j:Nat}{d:D}(e:t.env[i]?=some (some (.val d)))(e':t.env[j]?=some (some (.val d')))(h:Wf g [d,d'] t.S λr S'=>P r ⟨t.env,S'⟩):W (Ak g (Ab (Aa i) (Ab (Aa j) Ad))) t P:=JA (DE (E5 e (DE (E5 e' (Hv h)))))
theorem VY {d:D}(e:t.env[i]?=some (some (.val d)))(h:Wf g [d,d'] t.S λr S'=>P r ⟨t.env,S'⟩):W (Ak g (Ab (Aa i) (Ab (fC d') Ad))) t P:=JA (DE (E5 e (DE (wC (Hv h)))))
theorem VX {j k:Nat}{d d'':D}(e:t.env[i]?=some (some (.val d)))(e':t.env[j]?=some (some (.val d')))(e'':t.env[k]?=some (some (.val d'')))(h:Wf g [d,d',d''] t.S λr S'=>P r ⟨t.env,S'⟩):W (Ak g (Ab (Aa i) (Ab (Aa j) (Ab (Aa k) Ad)))) t P:=JA (DE (E5 e (DE (E5 e' (DE (E5 e'' (Hv h)))))))
end
end F2
set_option maxHeartbeats 4000000
namespace LW
open PySem L2 F2
local macro_rules | `(tactic| clear 31 $t*)=>`(tactic| with_reducible first $[| refine $t ?_]*)
local macro_rules | `(tactic| clear 32 $t*)=>`(tactic| ((with_reducible first $[| refine' $t ?wv ?_]*);(case wv=>exact rfl)))
local macro_rules | `(tactic| clear 33 $t*)=>`(tactic| ((with_reducible first $[| refine' $t ?wv ?_]*);(case wv=>decide)))
local macro_rules | `(tactic| walk_at "w1")=>`(tactic| first
 | clear 32 ZA | ((with_reducible refine' ZQ ?wv ?wu ?_);(case wv=>exact rfl);(case wu=>first | exact rfl | exact FG | exact N7 | exact N8)) | clear 32 YB | clear 32 YA
 | clear 32 VV | ((with_reducible refine' VW ?wv ?wu ?_);(case wv=>exact rfl);(case wu=>exact rfl)) | clear 32 VY | ((with_reducible refine' VX ?wv ?wu ?wt ?_);(case wv=>exact rfl);(case wu=>exact rfl);(case wt=>exact rfl))
 | clear 31 Tr BR S7 bv Kn wC
 | clear 32 E5 | clear 31 DE Hv wIf O7 O6 Yx JA
 | ((with_reducible refine' EE ?wv ?_);(case wv=>first | exact rfl | exact FG | exact N7 | exact N8)) | ((with_reducible refine' Bk ?wv ?_);(case wv=>first | exact rfl | exact FG | exact N7 | exact N8)) | clear 31 Tm Yt wEqB Zl ZP
 | clear 31 JD wB wBF ZI bB bj | ((with_reducible refine DG ?wv ?_);(case wv=>exact Nat.le_of_ble_eq_true rfl)) | clear 31 bq aP aS
 | clear 32 EX | clear 32 Dg | clear 31 aM wOr bp Zo wOrV ZD aX Yp
 | clear 32 ZR | clear 31 wUn bo aZ wIsB wIsNot
 | clear 31 bn bi aU aT wLtS wGtS
 | clear 31 O3 T8 ZB | ((with_reducible refine' a9 ?wv ?wu ?_);(case wv=>exact rfl);(case wu=>exact rfl))
 | clear 33 bu | ((with_reducible refine IJ ?wv ?wu ?_);(case wv=>decide);(case wu=>decide)) | clear 33 FV
 | clear 31 wAbs wMin wMax wInt wIntB wTupL ZC wLstT
 | clear 31 Zn Zm aQ Yu
 | clear 31 wSl wNo ZH aO bx bz
 | clear 31 ba bb bg wItR bf ZJ ZK | clear 33 Hw | clear 33 Yy
 | clear 31 O5 V0 Tq | clear 32 wUnL | clear 32 bC | clear 31 Zt Yz wDic br BH Zu
 | clear 32 ZG | clear 32 aN | clear 31 wStD)
local macro_rules | `(tactic| right)=>`(tactic| repeat (walk_at "w1"))
structure DeckAt (k c:Nat)(S:List Ob):Prop where
 ne:k≠c
 at_:∃(cells:List Int) (par pos:Int),S[k]?=some (.lst [.obj c,.int par,.int pos])/\S[c]?=some (.lst (cells.map .int))/\cells≠[]/\0<=pos
def bX (k c:Nat)(S S':List Ob):Prop:=S'.length=S.length/\∀j:Nat,j≠k->j≠c->S'[j]?=S[j]?
variable {n:Nat}
theorem Et {i:Int}(h0:0<=i)(h1:i < n):ixN n i=some i.toNat:=by simp [ixN,h0,h1]
variable {S:List Ob}
theorem JV {k:Nat}{o o':Ob}(h:S[k]?=some o):(S.set k o')[k]?=some o':=by
 obtain ⟨hl,_⟩:=ua9.mp h;exact ub8 hl
inductive Sh where
 | nothing | number (lo hi:Int) | text (m:Int) | list (s:Sh) (m:Int) | pair (s r:Sh) | choice (ss:List Sh)
mutual
noncomputable def Sh.d:Sh->D
 | .nothing=>.tup [.str "nothing"]
 | .number lo hi=>.tup [.str "number",.int lo,.int hi]
 | .text m=>.tup [.str "text",.int m]
 | .list s m=>.tup [.str "list",s.d,.int m]
 | .pair s r=>.tup [.str "pair",s.d,r.d]
 | .choice ss=>.tup [.str "choice",.tup (shD ss)]
noncomputable def shD:List Sh->List D
 | []=>[]
 | s :: r=>s.d :: shD r
end
mutual
noncomputable def Sh.depth:Sh->Nat
 | .nothing=>1
 | .number _ _=>1
 | .text _=>1
 | .list s _=>s.depth + 1
 | .pair s r=>max s.depth r.depth + 1
 | .choice ss=>Ej ss + 1
noncomputable def Ej:List Sh->Nat
 | []=>0
 | s :: r=>max s.depth (Ej r)
end
theorem DC:∀ss:List Sh,(shD ss).length=ss.length
 | []=>rfl
 | s :: r=>by simp [shD,DC r]
theorem Gc:∀(ss:List Sh) (k:Nat),(shD ss)[k]?=(ss[k]?).map Sh.d
 | [],k=>by simp [shD]
 | s :: r,0=>by simp [shD]
 | s :: r,k + 1=>by simp [shD,Gc r k]
theorem CB:∀(ss:List Sh) (k:Nat) (s:Sh),ss[k]?=some s->s.depth<=Ej ss
 | [],k,s,h=>by simp at h
 | s :: r,0,s',h=>by simp at h;subst h;simp [Ej];lia
 | s :: r,k + 1,s',h=>by
   have:=CB r k s' (by simpa using h);simp [Ej];lia
theorem Sh.depth_pos (s:Sh):1<=s.depth:=by cases s <;> simp [Sh.depth]
noncomputable def BT (n:Nat):Bool:=decide (32<=n) && decide (n<=126) && decide (n≠37)
noncomputable def Hf:Str->Bool:=λo=>o == ("of" : Str)
mutual
def Ai:Sh->D->Bool
 | .nothing,d=>Gy d
 | .number lo hi,d=>match d with
   | .int i=>decide (lo<=i) && decide (i<=hi)
   | _=>false
 | .text m,d=>match d with
   | .str x=>decide ((x.length:Int)<=m) && x.cps.toList.all BT
   | _=>false
 | .list s m,d=>match d with
   | .lst ds=>decide ((ds.length:Int)<=m) && ds.all λe=>Ai s e
   | _=>false
 | .pair s r,d=>match d with
   | .tup [a,b]=>Ai s a && Ai r b
   | _=>false
 | .choice ss,d=>match d with
   | .tup [.str o,.int k,x]=>Hf o && (decide (0<=k) && decide (k < ss.length)) && Jk ss k.toNat x
   | _=>false
def Jk:List Sh->Nat->D->Bool
 | [],_,_=>false
 | s :: _,0,d=>Ai s d
 | _ :: r,k + 1,d=>Jk r k d
end
theorem CA:∀(ss:List Sh) (k:Nat) (s:Sh) (d:D),ss[k]?=some s->Jk ss k d=Ai s d
 | [],k,s,d,h=>by simp at h
 | s :: r,0,s',d,h=>by simp at h;subst h;simp [Jk]
 | s :: r,k + 1,s',d,h=>by rw [Jk];exact CA r k s' d (by simpa using h)
mutual
noncomputable def okD:D->Bool
 | .str x=>decide (x.length<=90000)
 | .tup xs=>oks xs
 | .lst xs=>oks xs
 | .obj _=>false
 | .scr _=>false
 | .exc _ _=>false
 | .ty _=>false
 | _=>true
noncomputable def oks:List D->Bool
 | []=>true
 | d :: r=>okD d && oks r
end
abbrev Pure1 (f:Fn)(ds:List D)(r:D):Prop:=∀S,Wf f ds S λv S'=>v=r/\S'=S
variable {ds:List D}
theorem Pure1.use {f:Fn}{r:D}(h:Pure1 f ds r){S:List Ob}{P:D->List Ob->Prop}(p:P r S):Wf f ds S P:=(h S).mono λ_ _ ⟨e1,e2⟩=>by subst e1 e2;exact p
noncomputable def W5:D->Bool
 | .int _=>true
 | _=>false
noncomputable def C1 (lo hi:Int):D->Bool
 | .int i=>decide (lo<=i) && decide (i<=hi)
 | _=>false
def IP (f:Fn):Prop:=∀n:Nat,Pure1 f [.int n] (.bl (BT n))
theorem Ot:IP (fnOf 1 1 Hh):=by
 intro n S;refine Ao rfl ?_;unfold Hh;right;have c1:decide ((32:Int)<=n)=decide (32<=n):=decide_eq_decide.mpr (by lia);have c2:decide ((n:Int)<=126)=decide (n<=126):=decide_eq_decide.mpr (by lia);have c3:(!((n:Int) == 37))=decide (n≠37):=by
  by_cases h:n=37
  ·subst h;rfl
  ·have:¬((n:Int)=37):=by lia
   simp [h,this]
 rw [c1];refine Cr (λe=>?_) λe=>?_
 ·right;rw [c2];refine Cr (λe'=>?_) λe'=>?_
  ·right;exact ⟨by simp only [BT,e,e',c3,uj9],rfl⟩
  ·exact ⟨by simp only [BT,e,e',uj0,uj1],rfl⟩
 ·right;exact ⟨by simp only [BT,e,uj0],rfl⟩
theorem FN (x:Str):x.length=x.cps.toList.length:=by simp [Str.length]
theorem Kq (x y:Str):(x++y).cps.toList=x.cps.toList++y.cps.toList:=by
 show (x.cps++y.cps).toList=_;simp
variable {elt:M D}
theorem FF {f:D->D}{fr:List (Option Sl)}{z:Option Sl}(h:∀d∈ds,W elt ⟨some (.val d) :: fr,S⟩ λx t'=>x=f d/\t'=⟨some (.val d) :: fr,S⟩) :
 W (BS (AF 0) FD elt ds) ⟨z :: fr,S⟩ λxs t'=>xs=ds.map f/\t'.S=S:=by
 refine (IR (P:=λxs t'=>xs=ds.map f/\t'.S=S) (λacc r t=>acc++r.map f=ds.map f/\∃z,t=⟨z :: fr,S⟩) ds [] _ ⟨rfl,z,rfl⟩ ?_ ?_).mono λxs t' h=>h
 ·rintro acc d r t ⟨h1,z,rfl⟩ hm;refine O5 (Yz ?_);rw [if_pos rfl];refine (h d hm).mono λx t' z9=>?_;obtain ⟨e1,e2⟩:=z9;subst e1 e2;exact ⟨by rw [uf4];exact h1,_,rfl⟩
 ·rintro acc t ⟨h1,z,rfl⟩;exact ⟨by simpa using h1,rfl⟩
mutual
noncomputable def sz:D->Nat
 | .tup xs=>szs xs + 1
 | .lst xs=>szs xs + 1
 | _=>1
noncomputable def szs:List D->Nat
 | []=>0
 | d :: r=>sz d + szs r
end
theorem VQ {x y:Str}(h:x.cps.toList=y.cps.toList):x=y:=by
 cases x;cases y
 congr
 exact Array.toList_inj.mp h
mutual
noncomputable def wf:Sh->Bool
 | .nothing=>true
 | .number lo hi=>decide (-1000000000000000000 < lo) && decide (lo<=hi) && decide (hi < 1000000000000000000)
 | .text m=>decide (0<=m) && decide (m<=250)
 | .list s m=>decide (0<=m) && decide (m<=250) && wf s
 | .pair s r=>wf s && wf r
 | .choice ss=>decide (1<=ss.length) && decide (ss.length<=9) && wfs ss
noncomputable def wfs:List Sh->Bool
 | []=>true
 | s :: r=>wf s && wfs r
end
mutual
noncomputable def cnt:Sh->Nat
 | .list s _=>cnt s + 1
 | .pair s r=>cnt s + cnt r + 1
 | .choice ss=>Ww ss + 1
 | _=>1
noncomputable def Ww:List Sh->Nat
 | []=>0
 | s :: r=>cnt s + Ww r
end
theorem D9:∀{ss:List Sh},wfs ss=true->∀s∈ss,wf s=true
 | x :: r,h,s,m=>by
   rw [wfs,ug5] at h;rcases uj5.mp m with z | z
   ·subst z;exact h.1
   ·exact D9 h.2 s z
theorem KS:∀{ss:List Sh} {s:Sh},s∈ss->s.depth<=Ej ss
 | x :: r,s,m=>by
   rw [Ej];rcases uj5.mp m with z | z
   ·subst z;lia
   ·have:=KS z;lia
def N1 (k c l:Nat)(S S':List Ob):Prop:=S'.length=S.length/\∀j:Nat,j≠k->j≠c->j≠l->S'[j]?=S[j]?
noncomputable def OU (deep:Int):Int:=if deep < 2 then 0 else 2 * deep + 4
def bd (deep x:Int):Int:=if deep < 2 then 1 else max x 1 + OU deep - (if deep + 1<=x then 1 else 0)
def tb (deep y i:Int):Int:=if deep=2 then i else if i=0 then 0 else y + OU (deep - 1) + i - 1 - (if deep<=y then 1 else 0)
structure ShapeRes (k c l:Nat)(S:List Ob)(deep x:Int)(s:Sh)(S':List Ob):Prop where
 w:wf s=true
 dep:(s.depth:Int)<=max deep 1
 lft:S'[l]?=some (.lst [.int (x - cnt s)])
 one:x<=1->cnt s=1
 few:(cnt s:Int)<=max x 1 + OU deep
 deck:DeckAt k c S'
 kp:N1 k c l S S'
 few2:(cnt s:Int)<=bd deep x
structure Sep (ks:List (Nat×Nat)):Prop where
 sep:∀p∈ks,∀q∈ks,p=q\/(q.1≠p.1/\q.1≠p.2/\q.2≠p.1/\q.2≠p.2)
mutual
noncomputable def dpt:D->Nat
 | .lst ds=>Rt ds + 1
 | .tup ds=>Rt ds + 1
 | _=>1
noncomputable def Rt:List D->Nat
 | []=>0
 | d :: r=>max (dpt d) (Rt r)
end
mutual
noncomputable def smD:D->Bool
 | .str x=>decide (x.length<=300)
 | .int i=>decide (-1000000000000000000000000 < i) && decide (i < 1000000000000000000000000)
 | .tup xs=>decide (xs.length<=300) && sms xs
 | .lst xs=>decide (xs.length<=300) && sms xs
 | .obj _=>false
 | .scr _=>false
 | .ty _=>false
 | .exc _ _=>false
 | _=>true
noncomputable def sms:List D->Bool
 | []=>true
 | d :: r=>smD d && sms r
end
theorem KF {f:D->D->Option Bool}:∀{xs:List D},(∀d∈xs,f d d=some true)->DF f xs xs=some true
 | [],_=>rfl
 | x :: r,h=>by
   rw [DF,h x ud9,KF λd m=>h d (uc9 _ m)];rfl
variable {f:M D}{t:T}{P:D->T->Prop}
theorem Zz {g:M (List D)}(h:W f t λo t1=>W g t1 λas t2=>∃z ds ys,o = .str z/\as=[.lst ds]/\FC ds=some ys/\(z.length<=8/\ys.length<=1048576)/\P (.str (Txt.join z ys)) t2):W (joinM f g) t P:=by
 refine BH (h.mono λo t1 h1=>BH (h1.mono λas t2 h2=>?_));obtain ⟨z,ds,ys,rfl,rfl,e,hl,p⟩:=h2;refine ⟨_,_,?_,p⟩;simp only [e];rw [if_pos hl]
theorem Ht:∀ns:List Nat,FC (ns.map λn=>D.str ⟨#[n]⟩)=some (ns.map λn=>(⟨#[n]⟩:Str))
 | []=>rfl
 | n :: r=>by
   rw [uj6,FC,if_pos (Nat.le_of_ble_eq_true rfl),Ht r];rfl
theorem Jl:∀(ns:List Nat) (acc:Array Nat),((ns.map λn=>(⟨#[n]⟩:Str)).foldl (λacc p=>acc++(Str.ofString "").cps++p.cps) acc).toList=acc.toList++ns
 | [],acc=>by simp
 | n :: r,acc=>by
   have e:(Str.ofString "").cps=#[]:=by decide +kernel
   rw [uj6,List.foldl_cons,Jl r,e];simp
theorem Ou (ns:List Nat):(Txt.join (Str.ofString "") (ns.map λn=>(⟨#[n]⟩:Str))).cps.toList=ns:=by
 show (List.foldl (λ(acc:Array Nat) (p:Str)=>acc++(Str.ofString "").cps++p.cps) (((ns.map λn=>(⟨#[n]⟩:Str)).headD Str.empty).cps) ((ns.map λn=>(⟨#[n]⟩:Str)).drop 1)).toList=ns
 cases ns with
 | nil=>rfl
 | cons n r=>
   rw [uj6,List.drop_one,List.tail_cons,Jl];rfl
structure ValueRes (k c l:Nat)(S:List Ob)(s:Sh)(r:D)(S':List Ob):Prop where
 fit:Ai s r=true
 lft:∃a b:Int,S'[l]?=some (.lst [.int a,.int b])
 deck:DeckAt k c S'
 kp:N1 k c l S S'
theorem GN {f:M (List D)}{P:Out->T->Prop}(h:W f t λds t1=>P (.ret (.lst ds)) t1):W (FU f) t P:=W_bnd.mpr (h.mono λ_ _ p=>W_ret.mpr p)
theorem FE {g:Fn}{f:M (List D)}{P:List D->T->Prop}(h:W f t λds t1=>Wf g ds t1.S λr S'=>∃rs,r = .lst rs/\P rs ⟨t1.env,S'⟩):W (Dd g f) t P:=by
 refine W_bnd.mpr (h.mono λds t1 z9=>?_);obtain ⟨r,S',e,rs,er,p⟩:=z9;subst er;exact ⟨rs,⟨t1.env,S'⟩,by simp only [e],p⟩
variable {i:Nat}{xs:List D}
theorem V5 {P:Out->T->Prop}(e:t.env[i]?=some (some (.own xs)))(h:P (.ret (.lst xs)) ⟨t.env.set i none,t.S⟩):W (Gb i) t P:=⟨_,_,by simp only [Gb,e],h⟩
theorem Zr {i:Int}(h:P (.int (Builtin.Int.intBits i:Nat)) t):W (IU (.int i)) t P:=⟨_,_,rfl,h⟩
theorem bw {i j:Int}(h0:0<=j)(h:P (.int (i / 2 ^ j.toNat)) t):W (MM (.int i) (.int j)) t P:=⟨_,_,by simp [MM,i2C,h0],h⟩
variable {ys:List D}{t1:T}
theorem aR {A:List D->Prop}(e:t1.env[i]?=some (some (.own xs)))(l:xs.length + ys.length<=LIM)(w:A (xs++ys)):∃xs,t1.env[i]?=some (some (.own xs))/\∃zs,G8 xs [.lst ys]=some zs/\A zs:=
 ⟨xs,e,xs++ys,by simp [G8,l],w⟩
theorem Ik {f:M Bool}{b:M Out}{P:Out->T->Prop}(I:Nat->T->Prop)(turn:∀n t,I n t->W f t λk t1=>match k with
 | true=>∃m,n=m + 1/\W b t1 λo t2=>match o with
   | .next=>I m t2
   | .cont=>I m t2
   | .brk=>P .next t2
   | .ret x=>P (.ret x) t2
 | false=>P .next t1):∀(fuel n:Nat) (t:T),n < fuel->I n t->W (CY f b fuel) t P
 | 0,n,t,h,_=>absurd h (Nat.not_lt_zero _)
 | fuel + 1,n,t,h,i=>by
   obtain ⟨k,t1,e1,p⟩:=turn n t i
   cases k with
   | false=>exact ⟨_,_,by simp only [CY,e1],p⟩
   | true=>
     obtain ⟨m,rfl,o,t2,e2,p⟩:=p
     cases o with
     | next=>obtain ⟨o,t',e',p⟩:=Ik I turn fuel m t2 (by lia) p;exact ⟨o,t',by simp only [CY,e1,e2];exact e',p⟩
     | cont=>obtain ⟨o,t',e',p⟩:=Ik I turn fuel m t2 (by lia) p;exact ⟨o,t',by simp only [CY,e1,e2];exact e',p⟩
     | brk=>exact ⟨_,_,by simp only [CY,e1,e2],p⟩
     | ret x=>exact ⟨_,_,by simp only [CY,e1,e2],p⟩
noncomputable def wid (n:Nat):Nat:=if n=0 then 0 else n.log2 / 8 + 1
theorem Qd (h:2<=n):n.log2=(n / 2).log2 + 1:=by rw [Nat.log2_def,if_pos h]
theorem Sf (h:n < 2):n.log2=0:=by rw [Nat.log2_def,if_neg (by lia)]
theorem Mn:∀(k:Nat) {n:Nat},2 ^ k<=n->n.log2=(n / 2 ^ k).log2 + k
 | 0,n,_=>by rw [Nat.pow_zero,Nat.div_one,Nat.add_zero]
 | k + 1,n,h=>by
   have h2:2 ^ k * 2<=n:=by rw [<-ul2];exact h
   have h3:2<=n / 2 ^ k:=(Nat.le_div_iff_mul_le (Nat.pow_pos (by decide))).mpr (by rw [Nat.mul_comm];exact h2);rw [Mn k (uk7 (Nat.le_mul_of_pos_right _ (by decide)) h2),Qd h3,uc4,<-ul2,uk1,Nat.add_comm 1 k]
theorem Sd (h:256<=n):n.log2=(n / 256).log2 + 8:=Mn 8 h
theorem Se (h:n < 256):n.log2 < 8:=by
 by_cases z:n=0
 ·subst z;rw [Sf (by lia)];lia
 ·exact (Nat.log2_lt z).mpr h
theorem IL (h:0 < n):wid n=wid (n / 256) + 1:=by
 unfold wid;rw [if_neg (by lia)]
 by_cases z:n < 256
 ·have:=Se z;rw [if_pos (by lia)];lia
 ·rw [if_neg (by lia),Sd (by lia)];lia
theorem JE:∀(k n:Nat),n < 256 ^ k->wid n<=k
 | 0,n,h=>by
   have:n=0:=by simpa using h
   subst this;decide
 | k + 1,n,h=>by
   by_cases z:n=0
   ·subst z;exact ul6 _
   ·rw [IL (by lia)];have:=JE k (n / 256) (Nat.div_lt_of_lt_mul (by rw [ul2] at h;lia));lia
theorem Rk (n:Nat):((Builtin.Int.intBits (n:Int):Nat) + 7) / 8=wid n:=by
 unfold Builtin.Int.intBits wid
 by_cases z:n=0
 ·subst z;rfl
 ·have:((n:Int) == 0)=false:=by simp;exact z
  rw [this,if_neg (by simp),if_neg z,Int.natAbs_natCast];lia
noncomputable def nb:Nat->Nat->List D
 | 0,_=>[]
 | w + 1,n=>nb w (n / 256)++[.int ((n % 256:Nat):Int)]
theorem Mq:∀w n,(nb w n).length=w
 | 0,n=>rfl
 | w + 1,n=>by rw [nb,ue3,Mq];rfl
theorem Qm:∀w n:Nat,(List.range w).map (λk=>D.int ((n / 2 ^ (8 * (w - 1 - k)) % 256:Nat):Int))=nb w n
 | 0,n=>rfl
 | w + 1,n=>by
   rw [List.range_succ,ui4,nb,<-Qm w (n / 256)]
   congr 1
   ·refine ud7 λk hk=>?_;rw [ui9] at hk;have e:8 * (w + 1 - 1 - k)=8 + 8 * (w - 1 - k):=by lia
    rw [e,Nat.pow_add,uc4]
   ·simp
mutual
def AN:Sh->D->List D
 | .nothing,_=>[]
 | .number lo hi,d=>match d with
   | .int i=>nb (wid (hi - lo).toNat) (i - lo).toNat
   | _=>[]
 | .text _,d=>match d with
   | .str x=>.int (x.length:Nat) :: x.cps.toList.map λn=>D.int (n:Nat)
   | _=>[]
 | .list s _,d=>match d with
   | .lst ds=>.int (ds.length:Nat) :: (ds.map λd=>AN s d).flatten
   | _=>[]
 | .pair s r,d=>match d with
   | .tup [a,b]=>AN s a++AN r b
   | _=>[]
 | .choice ss,d=>match d with
   | .tup [_,.int k,x]=>.int k :: IV ss k.toNat x
   | _=>[]
def IV:List Sh->Nat->D->List D
 | [],_,_=>[]
 | s :: _,0,d=>AN s d
 | _ :: r,k + 1,d=>IV r k d
end
theorem EI:∀(ss:List Sh) (k:Nat) (s:Sh) (d:D),ss[k]?=some s->IV ss k d=AN s d
 | [],k,s,d,h=>by simp at h
 | s :: r,0,s',d,h=>by simp at h;subst h;simp [IV]
 | s :: r,k + 1,s',d,h=>by rw [IV];exact EI r k s' d (by simpa using h)
def GR (f:Fn):Prop:=∀(n j:Nat),j<=1000->Pure1 f [.int n,.int j] (.int ((n / 2 ^ (8 * j):Nat):Int))
theorem UQ:GR (fnOf 2 2 Hj):=by
 intro n j hj S;refine Ao rfl ?_;unfold Hj;right;refine O4 (UU (by decide) (by decide)) ?_;refine bw (by lia) ?_;refine ⟨?_,rfl⟩;have:(8 * (j:Int)).toNat=8 * j:=by lia
 rw [this];simp
def IT (f:Fn):Prop:=∀n:Nat,n < 256 ^ 9->Pure1 f [.int n] (.int (wid n:Nat))
theorem Ts:IT (fnOf 1 1 E3):=by
 intro n _ S;refine Ao rfl ?_;unfold E3;right;refine Zr ?_;right;refine ⟨?_,rfl⟩;rw [<-Rk];simp
def LD (f:Fn):Prop:=∀(n w:Nat),w<=1000->Pure1 f [.int n,.int w] (.lst (nb w n))
theorem NN (i:Int)(n:Nat):Bd i n=(List.range n).map λk:Nat=>D.int (i + k):=by
 rfl
variable {c:Fn}
theorem UX (hc:GR c):LD (fnOf 2 2 (EB c)):=by
 intro n w hw S;have hL:LIM=100000:=rfl;refine Ao rfl ?_;unfold EB;refine GN ?_;right;refine Yy (by rw [CV (by decide) (by decide),CV (by lia) (by lia)];rfl) ?_;refine (FF (f:=λd=>match d with | .int k=>.int ((n / 2 ^ (8 * (w - k.toNat)) % 256:Nat):Int) | _=>d) (fr:=[some (.val (.int n)),some (.val (.int w))]) ?_).mono ?_
 ·intro d m;rw [NN] at m;obtain ⟨k,hk,rfl⟩:=ul3.mp m;rw [ui9] at hk;right;have e:((w:Int) - (1 + (k:Int)))=((w - (1 + k):Nat):Int):=by lia
  rw [e];refine (hc n (w - (1 + k)) (by lia)).use ?_;right;refine ⟨?_,rfl⟩;have e2:(1 + (k:Int)).toNat=1 + k:=by lia
  dsimp only;rw [e2];simp
 ·rintro xs t' ⟨rfl,hS⟩;have hn:((w:Int) + 1 - 1).toNat=w:=by lia
  rw [NN,hn];refine DG (by simp only [uh6,List.length_range,hL];lia) ?_;refine ⟨?_,hS⟩;rw [<-Qm w n,List.map_map]
  congr 1
  refine ud7 λk hk=>?_;rw [ui9] at hk;have e2:(1 + (k:Int)).toNat=1 + k:=by lia
  have e3:w - (1 + k)=w - 1 - k:=by lia
  simp only [Function.comp,e2,e3]
theorem NT {lo hi:Int}(h:wf (.number lo hi)=true):(hi - lo).toNat < 256 ^ 9:=by
 simp only [wf,ug5,uf8] at h;have:(256:Nat) ^ 9=4722366482869645213696:=by decide
 lia
theorem Jt (a:Int)(n:Nat):(Bd a n).length=n:=by simp [Bd]
variable {j:Nat}{r:List D}
theorem Kg {a:Int}{d:D}(e:d :: r=(Bd a n).drop j):d = .int (a + j)/\r=(Bd a n).drop (j + 1)/\j < n:=by
 have hj:j < (Bd a n).length:=by
  rcases Nat.lt_or_ge j (Bd a n).length with h | h
  ·exact h
  ·rw [List.drop_eq_nil_of_le h] at e;cases e
 rw [ub1 hj] at e;injection e with e1 e2
 rw [Jt] at hj;refine ⟨?_,e2,hj⟩;rw [e1];simp [Bd]
noncomputable def sgs:Str:=" !\"#$ &'()*+,-./0123456789:;<=>?@ABCDEFGHIJKLMNOPQRSTUVWXYZ[\\]^_`abcdefghijklmnopqrstuvwxyz{|}~"
theorem Yc {c:Nat}(h:BT c=true):atI sgs.cps.toList ((c:Int) - 32)=some c:=by
 have hl:sgs.cps.toList.length=95:=by decide +kernel
 have hall:(List.range 127).all (λc=>!BT c || decide (sgs.cps.toList[c - 32]?=some c))=true:=by decide +kernel
 have h':=h;simp only [BT,ug5,uf8] at h';have:=ug9.mp hall c (ui9.mpr (by lia));rw [h,Bool.not_true,Bool.false_or,uf8] at this;rw [show ((c:Int) - 32)=((c - 32:Nat):Int) by lia];exact HF this
variable {n' m:Str}
section
variable {t:T}{P:D->T->Prop}{R:Out->T->Prop}
def Tj (h:D->M Out)(R:Out->T->Prop)(o:Out)(t1:T):Prop:=match o with
 | .ret (.exc n ds)=>n∈Bc/\W (h (.exc n ds)) t1 R
 | o=>R o t1
theorem bA {b:M Out}{h:D->M Out}(w:W b t (Tj h R)):W (D3 b h) t R:=by
 obtain ⟨o,t1,e,q⟩:=w;have rest:∀d,A9 d=false->o = .ret d->W (D3 b h) t R:=λd hd ho=>by
  subst ho;refine ⟨.ret d,t1,?_,?_⟩
  ·unfold D3;rw [e];cases d <;> first | rfl | cases hd
  ·cases d <;> first | exact q | cases hd
 cases o with
 | next=>exact ⟨.next,t1,by unfold D3;rw [e],q⟩
 | brk=>exact ⟨.brk,t1,by unfold D3;rw [e],q⟩
 | cont=>exact ⟨.cont,t1,by unfold D3;rw [e],q⟩
 | ret d=>
   cases d with
   | exc n ds=>
     obtain ⟨hn,o2,t2,e2,q2⟩:=q;exact ⟨o2,t2,by unfold D3;rw [e];dsimp only;rw [if_pos hn,e2],q2⟩
   | _=>exact rest _ rfl rfl
theorem QW {h:D->M Out}(q:R .next t1):Tj h R .next t1:=q
theorem VT {h:D->M Out}{n:Str}(e:n∈Bc)(q:W (h (.exc n ds)) t1 R):Tj h R (.ret (.exc n ds)) t1:=⟨e,q⟩
def xK (d:D)(A B:Prop):Prop:=if A9 d=true then A else B
theorem ZV {d:D}{A B:Prop}(e:A9 d=false)(b:B):xK d A B:=by unfold xK;rw [if_neg (by rw [e];decide)];exact b
theorem ZU {d:D}{A B:Prop}(e:A9 d=true)(a:A):xK d A B:=by unfold xK;rw [if_pos e];exact a
theorem ZM (w:W f t λd t1=>xK d (R (.ret d) t1) (R .next ⟨t1.env.set i (some (.val d)),t1.S⟩)):W (Cd i f) t R:=by
 refine BH (w.mono λd t1 q=>?_);unfold xK at q
 split at q
 ·next h=>rw [if_pos h];exact ⟨_,_,rfl,q⟩
 ·next h=>rw [if_neg h];exact ⟨_,_,rfl,q⟩
theorem Ys (w:W f t λd t1=>xK d (R (.ret d) t1) (R .next t1)):W (Lm f) t R:=by
 refine BH (w.mono λd t1 q=>?_);unfold xK at q
 split at q
 ·next h=>rw [if_pos h];exact ⟨_,_,rfl,q⟩
 ·next h=>rw [if_neg h];exact ⟨_,_,rfl,q⟩
theorem wNx (w:W f t λd t1=>A9 d=false/\P d t1):W (nxD f) t P:=by
 refine BH (w.mono λd t1 z9=>?_);obtain ⟨h,q⟩:=z9;rw [if_neg (by rw [h];decide)];exact ⟨_,_,rfl,q⟩
theorem Zs {g:M D}{h:D->M D}(w:W g t λy t1=>xK y (P y t1) (W (h y) t1 λd t2=>A9 d=false/\P d t2)):W (JM g h) t P:=by
 refine BH (w.mono λy t1 q=>?_);unfold xK at q
 split at q
 ·next z=>rw [if_pos z];exact ⟨_,_,rfl,q⟩
 ·next z=>rw [if_neg z];exact wNx q
theorem Zq {g:M D}{h:D->D->M D}(w:W f t λx t1=>W (JM g (h x)) t1 P):W (HI f g h) t P:=BH w
theorem V2 {n:Str}{f:M (List D)}(w:W f t λds t1=>∃d,ds=[d]/\R (.ret (.exc n [d])) t1):W (Hr n f) t R:=
 BH (w.mono λds t1 ⟨d,e,q⟩=>by subst e;exact ⟨_,_,rfl,q⟩)
theorem V1 {n:Str}{f:M (List D)}(w:W f t λds t1=>ds.length<=1000/\R (.ret (.exc n [])) t1):W (Fy n f) t R:=
 BH (w.mono λds t1 ⟨e,q⟩=>by rw [if_pos e];exact ⟨_,_,rfl,q⟩)
theorem V3 {n:Str}(w:W f t λd t1=>R (.ret (.exc n [d])) t1):W (Hr n (Ab f Ad)) t R:=V2 (DE (w.mono λd t1 q=>Hv ⟨d,rfl,q⟩))
theorem V4 {n:Str}(w:W f t λ_ t1=>R (.ret (.exc n [])) t1):W (Fy n (Ab f Ad)) t R:=V1 (DE (w.mono λd t1 q=>Hv ⟨by show 1<=1000;decide,q⟩))
theorem aV {n:Str}{s:M Out}{r:D->M Out}(e:Ds n n'=true)(w:W s { t with env:=t.env.set i (some (.val (.exc n ds))) } λo t2=>R o (unE i t2)):W (hAs n' i s r (.exc n ds)) t R:=by
 obtain ⟨o,t2,e1,q⟩:=w;exact ⟨o,unE i t2,by unfold hAs;dsimp only;rw [if_pos e,e1],q⟩
theorem aW {n:Str}{s:M Out}{r:D->M Out}(e:Ds n n'=true)(w:W s t R):W (hNo n' s r (.exc n ds)) t R:=by
 obtain ⟨o,t2,e1,q⟩:=w;exact ⟨o,t2,by unfold hNo;dsimp only;rw [if_pos e,e1],q⟩
theorem Zw {n:Str}{s:M Out}{r:D->M Out}(e:Ds n n'=false)(w:W (r (.exc n ds)) t R):W (hNo n' s r (.exc n ds)) t R:=by
 obtain ⟨o,t2,e1,q⟩:=w;exact ⟨o,t2,by unfold hNo;dsimp only;rw [if_neg (by rw [e];decide),e1],q⟩
theorem Zx {n:Str}(e:m∈Bc)(q:P (.bl (Ds m n)) t):W (Cb n (.exc m ds)) t P:=⟨_,_,by unfold Cb;dsimp only;rw [if_pos e];rfl,q⟩
theorem Zp {n:Str}{d:D}(e:m∈Bc)(l:((Iv m).zip ds).lookup n=some d)(q:P d t):W (JL n (.exc m ds)) t P:=⟨_,_,by unfold JL;dsimp only;rw [if_pos e,l];rfl,q⟩
theorem HE {g:Fn}{Q:D->List Ob->Prop}(w:Wf g ds S λr S'=>A9 r=false/\Q r S'):Wf (DJ g) ds S Q:=by
 obtain ⟨r,S',e,h,q⟩:=w;exact ⟨r,S',by unfold DJ;rw [e];dsimp only;rw [if_neg (by rw [h];decide)],q⟩
end
theorem H9 {n:Str}{g:M D}{R:Out->T->Prop}(w:W f t λa t1=>W g t1 λb t2=>R (.ret (.exc n [a,b])) t2):W (Do n (Ab f (Ab g Ad))) t R:=
 BH (DE (w.mono λa t1 q=>DE (q.mono λb t2 q=>Hv ⟨_,_,rfl,q⟩)))
local macro_rules | `(tactic| walk_at "x1")=>`(tactic| first
 | walk_at "w1"
 | clear 31 bA ZM Ys wAsgX wNx Zq wBinY Zs wCallY QW
 | clear 33 VT | clear 32 ZV | clear 32 ZU
 | clear 31 V3 V4 | clear 33 aV | clear 33 wHAsN | clear 33 aW | clear 33 Zw
 | clear 33 Zx | clear 31 wIsiXN | ((with_reducible refine' Zp ?wv ?wu ?_);(case wv=>decide);(case wu=>exact rfl)))
local macro_rules | `(tactic| left)=>`(tactic| repeat (walk_at "x1"))
inductive Rd where
 | done (v:D)
 | need (ok:Nat->Bool) (nx:Nat->Rd)
inductive RR where
 | told (v:D) (a:Nat)
 | short
 | broken (a:Nat)
noncomputable def Rd.run:Rd->List Nat->Nat->RR
 | .done v,_,a=>.told v a
 | .need ok nx,w,a=>match w[a]? with
   | none=>.short
   | some b=>if ok b=true then (nx b).run w (a + 1) else .broken a
noncomputable def Rd.bnd:Rd->(D->Rd)->Rd
 | .done v,k=>k v
 | .need ok nx,k=>.need ok λb=>(nx b).bnd k
def RR.thn (r:RR)(w:List Nat)(k:D->Rd):RR:=match r with
 | .told v a=>(k v).run w a
 | .short=>.short
 | .broken a=>.broken a
variable {w:List Nat}{a:Nat}
theorem Cs {ok:Nat->Bool}{nx:Nat->Rd}(h:w[a]?=none):(Rd.need ok nx).run w a = .short:=by rw [Rd.run,h]
variable {b:Nat}
theorem Bs {ok:Nat->Bool}{nx:Nat->Rd}(h:w[a]?=some b):(Rd.need ok nx).run w a=if ok b=true then (nx b).run w (a + 1) else .broken a:=by rw [Rd.run,h]
theorem D7 (k:D->Rd)(w:List Nat):∀(p:Rd) (a:Nat),(p.bnd k).run w a=(p.run w a).thn w k:=by
 intro p
 induction p with
 | done v=>intro a;rfl
 | need ok nx ih=>
   intro a;rw [Rd.bnd]
   cases h:w[a]? with
   | none=>rw [Cs h,Cs h];rfl
   | some b=>
     rw [Bs h,Bs h]
     by_cases q:ok b=true
     ·rw [if_pos q,if_pos q];exact ih b (a + 1)
     ·rw [if_neg q,if_neg q];rfl
variable {v:D}
theorem Kl:∀(p:Rd) (a:Nat),a<=w.length->p.run w a = .told v b->a<=b/\b<=w.length:=by
 intro p
 induction p with
 | done v'=>intro a ha h;cases h;exact ⟨ul5 _,ha⟩
 | need ok nx ih=>
   intro a ha h
   cases e:w[a]? with
   | none=>rw [Cs e] at h;cases h
   | some c=>
     rw [Bs e] at h;have hl:=(ua9.mp e).1
     by_cases q:ok c=true
     ·rw [if_pos q] at h;have:=ih c (a + 1) hl h;lia
     ·rw [if_neg q] at h;cases h
def Rd.good:Rd->Prop
 | .done _=>True
 | .need ok nx=>(ok 0=true\/ok 32=true)/\∀b,ok b=true->(nx b).good
noncomputable def GF (lo:Int)(M:Nat):Nat->Nat->Rd
 | 0,x=>.done (.int (lo + x))
 | r + 1,x=>.need (λb=>decide (x * 256 + b<=M / 2 ^ (8 * r))) λb=>GF lo M r (x * 256 + b)
def Hn:Nat->List Nat->Rd
 | 0,cs=>.done (.str ⟨cs.toArray⟩)
 | n + 1,cs=>.need BT λc=>Hn n (cs++[c])
def GD (p:Rd):Nat->List D->Rd
 | 0,ds=>.done (.lst ds)
 | n + 1,ds=>p.bnd λv=>GD p n (ds++[v])
def pSh:Nat->Sh->Rd
 | 0,_=>.done .non
 | _ + 1,.nothing=>.done .non
 | _ + 1,.number lo hi=>GF lo (hi - lo).toNat (wid (hi - lo).toNat) 0
 | _ + 1,.text q=>.need (λb=>decide ((b:Int)<=q)) λb=>Hn b []
 | n + 1,.list s q=>.need (λb=>decide ((b:Int)<=q)) λb=>GD (pSh n s) b []
 | n + 1,.pair s r=>(pSh n s).bnd λv=>(pSh n r).bnd λu=>.done (.tup [v,u])
 | n + 1,.choice ss=>.need (λb=>decide (b < ss.length)) λb=>(pSh n (ss.getD b .nothing)).bnd λv=>.done (.tup [.str "of",.int b,v])
mutual
noncomputable def plD:D->Bool
 | .lst xs=>pls xs
 | .tup xs=>pls xs
 | .obj _=>false
 | .scr _=>false
 | .ty _=>false
 | .exc _ _=>false
 | .dic=>false
 | _=>true
noncomputable def pls:List D->Bool
 | []=>true
 | d :: r=>plD d && pls r
end
noncomputable def pos (i:Int):Int:=if 0 < i then i else 0
structure ValueRes2 (k c l:Nat)(S:List Ob)(s:Sh)(a b:Int)(r:D)(S':List Ob):Prop where
 fit:Ai s r=true
 lft:∃a' b':Int,S'[l]?=some (.lst [.int a',.int b'])/\((AN s r).length:Int)<=9 * (a - a') + (pos b - pos b')/\pos b'<=pos b/\1<=a - a'/\a - a'<=cnt s + (14 * (s.depth:Int)) * pos a
 deck:DeckAt k c S'
 kp:N1 k c l S S'
mutual
noncomputable def szE:D->Nat
 | .lst xs=>1 + Td xs
 | .tup xs=>1 + Td xs
 | _=>1
noncomputable def Td:List D->Nat
 | []=>0
 | d :: r=>szE d + Td r
end
structure VOk (s:Sh)(v:D):Prop where
 fit:Ai s v=true
 len:(AN s v).length<=14809
local macro_rules | `(tactic| walk_at "y1")=>`(tactic| first | walk_at "x1" | clear 31 H9)
local macro_rules | `(tactic| symm)=>`(tactic| repeat (walk_at "y1"))
noncomputable def wD (w:List Nat):List D:=w.map λ(n:Nat)=>D.int (n:Int)
theorem Bp (w:List Nat):(wD w).length=w.length:=by unfold wD;rw [uh6]
theorem Q2 (h:w[a]?=some b):(wD w)[a]?=some (.int (b:Int)):=by unfold wD;rw [uf1,h];rfl
abbrev exS:D:=.exc "Short" []
abbrev exB (a:Nat):D:=.exc "Broken" [.int (a:Int),.non]
noncomputable def rrD:RR->D
 | .told v b=>.tup [v,.int (b:Int)]
 | .short=>exS
 | .broken a=>exB a
noncomputable def byX:Option Nat->D
 | none=>exS
 | some b=>.int (b:Int)
noncomputable def upX (m:Int)(a:Nat):Option Nat->D
 | none=>exS
 | some b=>if (b:Int)<=m then .int (b:Int) else exB a
def sgX (a:Nat):Option Nat->D
 | none=>exS
 | some c=>if BT c=true then .str ⟨#[c]⟩ else exB a
def RX (c:Fn)(s:Sh)(p:Rd):Prop:=∀(w:List Nat) (a:Nat),a<=w.length->Pure1 c [s.d,.lst (wD w),.int (a:Int)] (rrD (p.run w a))
noncomputable def seg (w:List Nat)(a b:Nat):List Nat:=(w.drop a).take (b - a)
theorem Hu (x y:List Nat):wD (x++y)=wD x++wD y:=by unfold wD;rw [ui4]
theorem NE:∀(r y:Nat),nb (r + 1) y = .int ((y / 256 ^ r % 256:Nat):Int) :: nb r y
 | 0,y=>by rw [nb,nb,nb,Nat.pow_zero,Nat.div_one];rfl
 | r + 1,y=>by
   rw [show nb (r + 1 + 1) y=nb (r + 1) (y / 256)++[.int ((y % 256:Nat):Int)] from rfl,NE r (y / 256),List.cons_append,show nb (r + 1) y=nb r (y / 256)++[.int ((y % 256:Nat):Int)] from rfl,uc4,show 256 * 256 ^ r=256 ^ (r + 1) by rw [ul2,Nat.mul_comm]]
variable {kvs:List (Key×D)}
theorem O1 {x:Str}{d:D}(e:t.S[n]?=some (.dct kvs))(e2:By kvs (.inr x)=some d)(h:P d t):W (FI (.obj n) (.str x)) t P:=
 ⟨d,t,by simp only [FI,e,e2];rfl,h⟩
theorem MW {g:M D}{d:D}{U:Unit->T->Prop}(h:W f t λo t1=>W g t1 λi t2=>W (Ge o i d) t2 U):W (Jw f g d) t U:=BH (h.mono λo t1 h1=>BH h1)
theorem IK {x:Str}{d:D}{U:Unit->T->Prop}(e:t.S[n]?=some (.dct kvs))(hl:kvs.length < LIM)(h:U () ⟨t.env,t.S.set n (.dct (FM kvs (.inr x) d))⟩):W (Ge (.obj n) (.str x) d) t U:=
 ⟨(),_,by simp only [Ge,e,if_pos hl],h⟩
structure St where
 rest:Int
 mixed:Bool
 turn:Int
noncomputable def St.ob (s:St):Ob:=.dct [(.inr (Str.ofString "rest"),.int s.rest),(.inr (Str.ofString "mixed"),.bl s.mixed),(.inr (Str.ofString "turn"),.int s.turn)]
noncomputable def take (s:St)(m:Int):Int×St:=
 if s.mixed=false then (s.rest % m,⟨s.rest / m,s.mixed,s.turn⟩)
 else
  let stir:=(s.rest % 2147483579 + 70001 * (s.turn + 1)) % 2147483579
  let rest:=(stir * stir % 2147483563 * 50021 + 7) % 2147483579
  (rest / 5 % m,⟨rest,s.mixed,s.turn + 1⟩)
theorem D2 (a:Int)(n:Nat):(Bd a n).length=n:=by simp [Bd]
inductive GS where
 | fin
 | st (side:Str) (ws:List (Str×Sh×Int))
def wdD (w:Str×Sh×Int):D:=.tup [.str w.1,w.2.1.d,.int w.2.2]
def GS.d:GS->D
 | .fin=>.tup [.str (Str.ofString "end")]
 | .st side ws=>.tup [.str side,.lst (ws.map wdD)]
noncomputable def GS.isFin:GS->Bool
 | .fin=>true
 | _=>false
theorem MI {a:Int}{d:D}(e:d :: r=(Bd a n).drop j):d = .int (a + j)/\r=(Bd a n).drop (j + 1)/\j < n:=by
 have hj:j < (Bd a n).length:=by
  rcases Nat.lt_or_ge j (Bd a n).length with h | h
  ·exact h
  ·rw [List.drop_eq_nil_of_le h] at e;cases e
 rw [ub1 hj] at e;injection e with e1 e2
 rw [D2] at hj;refine ⟨?_,e2,hj⟩;rw [e1];simp [Bd]
structure WOk (n:Int)(w:Str×Sh×Int):Prop where
 ok:wf w.2.1=true
 dep:w.2.1.depth<=3
 lo:0<=w.2.2
 hi:w.2.2 < n
 nm:w.1.length<=90000
inductive GSOk (n:Int):GS->Prop
 | fin:GSOk n .fin
 | st {side:Str} {ws:List (Str×Sh×Int)}:(side=Str.ofString "left"\/side=Str.ofString "right")->0 < ws.length->ws.length<=9->(ws.map (·.1)).Nodup->(∀w∈ws,WOk n w)->GSOk n (.st side ws)
structure GOk (g:List GS):Prop where
 ne:0 < g.length
 le:g.length<=30
 all:∀x∈g,GSOk g.length x
def Hz (f:Fn):Prop:=∀(n:Int) (x:GS),GSOk n x->Pure1 f [x.d] (.bl x.isFin)
theorem P6:Hz (fnOf 1 1 Ix):=by
 intro n x hx S;refine Ao rfl ?_;unfold Ix
 cases hx with
 | fin=>
   rw [GS.d];right;exact ⟨by simp [GS.isFin],rfl⟩
 | st hs _ _ _ _=>
   rw [GS.d];right;refine ⟨?_,rfl⟩;rcases hs with rfl | rfl <;> simp [GS.isFin]
def GS.words:GS->D
 | .fin=>.tup []
 | .st _ ws=>.lst (ws.map wdD)
noncomputable def GS.ws:GS->List (Str×Sh×Int)
 | .fin=>[]
 | .st _ ws=>ws
def JI (f:Fn):Prop:=∀(n:Int) (x:GS),GSOk n x->Pure1 f [x.d] x.words
theorem Tu {ce:Fn}(he:Hz ce):JI (fnOf 1 1 (GA ce)):=by
 intro n x hx S;refine Ao rfl ?_;unfold GA
 cases x with
 | fin=>
   right;refine (he n .fin hx).use ?_;right;exact ⟨rfl,rfl⟩
 | st side ws=>
   right;refine (he n (.st side ws) hx).use ?_;rw [GS.d];right;exact ⟨rfl,rfl⟩
noncomputable def MA:Option Nat->D
 | some i=>.int i
 | none=>.non
def Gg (f:Fn):Prop:=∀(n:Int) (x:GS) (nm:Str),GSOk n x->Pure1 f [x.d,.str nm] (MA (x.ws.findIdx? λw=>w.1 == nm))
theorem Hc {α:Type}{p:α->Bool}{l:List α}(h:∀i (hi:i < l.length),i < j->p l[i]=false){x:α}(hx:l[j]?=some x)(hp:p x=true):l.findIdx? p=some j:=by
 obtain ⟨hj,e⟩:=ua9.mp hx;rw [ua0];exact ⟨hj,by rw [e];exact hp,λi hi=>by simpa using h i (by lia) hi⟩
variable {cw:Fn}
theorem Kf (hw:JI cw):Gg (fnOf 2 4 (E1 cw)):=by
 intro n x nm hx S;refine Ao rfl ?_;unfold E1;right;refine (hw n x hx).use ?_;have key:∀(ws:List (Str×Sh×Int)) (d:D),ws.length<=9->(∀(t:T) (P:D->T->Prop),P (.int ws.length) t->W (A4 [d]) t P)->(∀(t:T) (P:D->T->Prop) (i:Nat) (w:Str×Sh×Int),ws[i]?=some w->P (wdD w) t->W (ixD d (.int i)) t P)->
  W (Af (C4 (C8 (Ab (fB (Ab (Aa 2) Ad) A4) Ad)) (AF 3)
  (ifS (An (Ac (Ac (Ac (Aa 2) (Aa 3) ixD) (fC (.int 0)) ixD) (Aa 1) (eqS id)))
  (Ap (Aa 3))
  Ar))
 (Ap (fC .non))) ⟨[some (.val x.d),some (.val (.str nm)),some (.val d),none],S⟩ λo t=>match o with
   | .ret r=>r=MA (ws.findIdx? λw=>w.1 == nm)/\t.S=S
   | .next=>D.non=MA (ws.findIdx? λw=>w.1 == nm)/\t.S=S
   | _=>False:=by
   intro ws d hl len ix;right;refine len _ _ ?_;right;refine Hw (CV (by lia) (by lia)) ?_;refine EG (λr t=>∃(j:Nat) (e3:Option Sl),(∀i (hi:i < ws.length),i < j->(ws[i].1 == nm)=false)/\j<=ws.length/\r=(Bd 0 ((ws.length:Nat):Int).toNat).drop j/\t=⟨[some (.val x.d),some (.val (.str nm)),some (.val d),e3],S⟩) _ _ ⟨0,none,λi hi h=>absurd h (by lia),by lia,rfl,rfl⟩ ?_ ?_
   ·rintro d' r t ⟨j,e3,hj,hjl,hr,rfl⟩ _;obtain ⟨rfl,hr',hjn⟩:=MI hr;rw [uf2] at hjn;have e:ws[j]?=some ws[j]:=ub3 hjn;rw [Int.zero_add];right;refine ix _ _ j _ e ?_;unfold wdD;right;refine Cr (λq=>?_) λq=>?_
    ·right;refine ⟨?_,rfl⟩;rw [Hc hj e q];rfl
    ·right;refine ⟨j + 1,_,λi hi hij=>?_,by lia,hr',rfl⟩;rcases Nat.lt_or_ge i j with h | h
     ·exact hj i hi h
     ·have:i=j:=by lia
      subst this;exact q
   ·rintro t ⟨j,e3,hj,hjl,hr,rfl⟩;have hj':j=ws.length:=by
     have:=congrArg List.length hr;rw [ui2,ug4,D2,uf2] at this;lia
    subst hj';right;refine ⟨?_,rfl⟩;rw [List.findIdx?_eq_none_iff.mpr]
    ·rfl
    ·intro w hw';obtain ⟨i,hi,rfl⟩:=List.mem_iff_getElem.mp hw';exact hj i hi hi
 cases hx with
 | fin=>
   refine BR ?_;refine key [] (.tup []) (by decide) (λt P h=>T8 h) λt P i w e h=>?_;simp at e
 | @st side ws h1 h2 h3 h4 h5=>
   refine BR ?_;refine key ws (.lst (ws.map wdD)) h3 (λt P h=>O3 (by rw [uh6];exact h)) λt P i w e h=>?_;obtain ⟨hi,_⟩:=ua9.mp e;refine Bk ?_ h;unfold atI;rw [Et (by lia) (by rw [uh6];lia)];show (ws.map wdD)[(i:Int).toNat]?=_;rw [uf2,uf1,e];rfl
noncomputable def GS.side:GS->Str
 | .fin=>Str.ofString "end"
 | .st s _=>s
noncomputable def AD (g:List GS)(q:Nat):GS:=g.getD q .fin
def wdAt (g:List GS)(q p:Nat):Str×Sh×Int:=(AD g q).ws.getD p (Str.ofString "",.nothing,0)
def Bu (g:List GS)(q p:Nat):Nat:=(wdAt g q p).2.2.toNat
def OA (g:List GS)(q p:Nat)(v:D):D:=.tup [.str (AD g q).side,.str (wdAt g q p).1,v]
abbrev Mv:=Nat×D
def E7 (g:List GS):Nat->List Mv->Nat
 | q,[]=>q
 | q,(p,_) :: r=>E7 g (Bu g q p) r
def HS (g:List GS):Nat->List Mv->List D
 | _,[]=>[]
 | q,(p,v) :: r=>OA g q p v :: HS g (Bu g q p) r
structure MvOk (g:List GS)(q:Nat)(p:Nat)(v:D):Prop where
 lt:q < g.length
 pl:p < (AD g q).ws.length
 fit:Ai (wdAt g q p).2.1 v=true
def okQ (g:List GS):Nat->List Mv->Prop
 | _,[]=>True
 | q,(p,v) :: r=>MvOk g q p v/\okQ g (Bu g q p) r
variable {g:List GS}
theorem Dv (h:GOk g){q:Nat}(hq:q < g.length):GSOk g.length (AD g q):=by
 unfold AD;rw [ua8,ub3 hq];exact h.all _ (uh2 hq)
variable {q:Nat}
theorem Fk (hq:q < g.length):atI (g.map GS.d) q=some (AD g q).d:=by
 unfold atI;rw [Et (by lia) (by rw [uh6];lia)];show (g.map GS.d)[(q:Int).toNat]?=_;unfold AD;rw [uf2,uf1,ua8,ub3 hq];rfl
theorem FQ {p:Nat}(hp:p < (AD g q).ws.length):∃side ws,AD g q = .st side ws/\p < ws.length/\ws[p]?=some (wdAt g q p):=by
 unfold wdAt
 cases e:AD g q with
 | fin=>rw [e] at hp;simp [GS.ws] at hp
 | st side ws=>
   rw [e] at hp;have hp:p < ws.length:=hp;refine ⟨side,ws,rfl,hp,?_⟩;show ws[p]?=some (ws.getD p _);rw [ua8,ub3 hp];rfl
theorem EN {ws:List (Str×Sh×Int)}{p:Nat}{w:Str×Sh×Int}(e:ws[p]?=some w):atI (ws.map wdD) p=some (wdD w):=by
 obtain ⟨hp,_⟩:=ua9.mp e;unfold atI;rw [Et (by lia) (by rw [uh6];lia)];show (ws.map wdD)[(p:Int).toNat]?=_;rw [uf2,uf1,e];rfl
theorem GO (h:GOk g){q p:Nat}(hq:q < g.length)(hp:p < (AD g q).ws.length):WOk g.length (wdAt g q p):=by
 obtain ⟨side,ws,e,hp',e2⟩:=FQ hp;have:=Dv h hq;rw [e] at this
 cases this with
 | st _ _ _ _ h5=>exact h5 _ (ud2 e2)
theorem Kb (h:GOk g){q p:Nat}(hq:q < g.length)(hp:p < (AD g q).ws.length):Bu g q p < g.length:=by
 have:=GO h hq hp;unfold Bu;have h1:=this.lo;have h2:=this.hi;lia
theorem On {ws:List (Str×Sh×Int)}(nd:(ws.map (·.1)).Nodup){p:Nat}{w:Str×Sh×Int}(e:ws[p]?=some w):(ws.findIdx? λx=>x.1 == w.1)=some p:=by
 obtain ⟨hp,ep⟩:=ua9.mp e;refine Hc (λi hi hip=>?_) e (by simp);rw [<-ep];have hne:¬ws[i].1=ws[p].1:=λz=>by
  have h1:i < (ws.map (·.1)).length:=by rw [uh6];exact hi
  have h2:p < (ws.map (·.1)).length:=by rw [uh6];exact hp
  have:(ws.map (·.1))[i]=(ws.map (·.1))[p]:=by rw [List.getElem_map,List.getElem_map];exact z
  have:=(ug0 nd).mp this;lia
 simpa using hne
def LC (f:Fn):Prop:=∀(g:List GS) (q p:Nat),GOk g->q < g.length->p < (AD g q).ws.length->Pure1 f [.lst (g.map GS.d),.tup [.int q,.int p]] (.int (Bu g q p))
theorem UW:LC (fnOf 2 2 Fq):=by
 intro g q p hg hq hp S;refine Ao rfl ?_;unfold Fq;obtain ⟨side,ws,e,hpl,ew⟩:=FQ hp;have hw:=GO hg hq hp;have hlo:=hw.lo;right;refine Bk (Fk hq) ?_;rw [e,GS.d];right;refine Bk (EN ew) ?_;unfold wdD;right;refine ⟨?_,rfl⟩;unfold Bu
 congr 1
 lia
abbrev kR:Key:=.inr (Str.ofString "rest")
abbrev kM:Key:=.inr (Str.ofString "mixed")
abbrev kC:Key:=.inr (Str.ofString "count")
abbrev Y7 (a b c:D):List (Key×D):=[(kR,a),(kM,b),(kC,c)]
def Room (k r:Nat)(S:List Ob):Prop:=∃(a c:Int) (b:Bool),S[k]?=some (.dct (Y7 (.int a) (.bl b) (.int c)))/\0<=c/\c + r<=1000000000000000000000000000000
theorem Bf {k:Nat}{o o':Ob}(h:S[k]?=some o):(S.set k o')[k]?=some o':=JV h
theorem CZ {x:Ob}:(S++[x])[S.length]?=some x:=by simp
noncomputable def cs:Nat->Nat
 | 0=>10
 | d + 1=>10 + 3 * cs d
structure Drawn (k r:Nat)(dp:Nat)(v:D)(S':List Ob):Prop where
 ex:∃s:Sh,v=s.d/\s.depth<=dp/\wf s=true
 pool:Room k r S'
variable {ss:List Sh}
theorem Zb {k:Nat}(h:k < ss.length):atI (shD ss) (k:Int)=some (ss[k]).d:=by
 unfold atI;rw [Et (by lia) (by rw [DC];lia)];show (shD ss)[(k:Int).toNat]?=_;rw [uf2,Gc,ub3 h];rfl
noncomputable def vB:Nat->Nat
 | 0=>10
 | m + 1=>10 + vB m * 3
structure Val (k r:Nat)(s:Sh)(c:Nat)(v:D)(S':List Ob):Prop where
 fit:Ai s v=true
 len:(AN s v).length<=c
 pool:Room k r S'
def hd1 (x:Str):Option Nat:=x.cps.toList.head?
def okB (g:List GS):Nat->List Mv->Prop
 | _,[]=>True
 | q,(p,v) :: r=>(AN (wdAt g q p).2.1 v).length<=400/\okB g (Bu g q p) r
structure TOk (g:List GS)(mv:List Mv):Prop where
 ok:okQ g 0 mv
 bd:okB g 0 mv
 len:mv.length<=60
theorem JC {k:Nat}{h:List D->List D->Option (List D)}{g:M (List D)}(w:W f t λo t1=>o = .obj k/\∃xs0,t1.S[k]?=some (.lst xs0)/\W g t1 λds t2=>∃xs ys,t2.S[k]?=some (.lst xs)/\h xs ds=some ys/\P .non ⟨t2.env,t2.S.set k (.lst ys)⟩):W (objM h f g) t P:=by
 unfold objM;refine W_bnd.mpr (w.mono λo t1 z9=>?_);obtain ⟨e,xs0,e1,w⟩:=z9;subst e;obtain ⟨ds,t2,e2,xs,ys,e3,e4,p⟩:=w;refine ⟨_,_,?_,p⟩;simp only [e1,bnd,e2,e3,e4];rfl
def Bm (g:List GS)(sd:Str):Nat->List Mv->List D
 | _,[]=>[]
 | q,(p,v) :: r=>(if (AD g q).side=sd then .int p :: AN (wdAt g q p).2.1 v else [])++Bm g sd (Bu g q p) r
abbrev kL:Key:=.inr (Str.ofString "left")
abbrev kRt:Key:=.inr (Str.ofString "right")
theorem kLR:¬kL=kRt:=by intro h;injection h with h;rw [Hm] at h;exact absurd h (by decide)
theorem sLR:¬Str.ofString "left" = Str.ofString "right":=λh=>kLR (congrArg Sum.inr h)
abbrev sL:Str:=Str.ofString "left"
abbrev sR:Str:=Str.ofString "right"
structure Wr (K A B:Nat)(S:List Ob)(xs ys:List D):Prop where
 k:S[K]?=some (.dct [(kL,.obj A),(kRt,.obj B)])
 a:S[A]?=some (.lst xs)
 b:S[B]?=some (.lst ys)
 ab:A≠B
 ka:K≠A
 kb:K≠B
def FrO (F:List (Nat×Ob))(k:Nat)(S:List Ob):Prop:=∀p∈F,p.1≠k/\S[p.1]?=some p.2
def bW (F:List (Nat×Ob))(S:List Ob):Prop:=∀p∈F,S[p.1]?=some p.2
def YE (F:List (Nat×Ob))(k r:Nat)(S:List Ob):Prop:=Room k r S/\FrO F k S
structure ValF (F:List (Nat×Ob))(k r:Nat)(s:Sh)(c:Nat)(v:D)(S':List Ob):Prop where
 fit:Ai s v=true
 len:(AN s v).length<=c
 pool:YE F k r S'
noncomputable def GS.sd:GS->Str
 | .fin=>Str.ofString "end"
 | .st s _=>s
inductive Odd (x:GS):D->Prop
 | non:Odd x .non
 | lst {ds:List D}:Odd x (.lst ds)
 | two {a b:D}:Odd x (.tup [a,b])
 | four {a b c d:D}:Odd x (.tup [a,b,c,d])
 | sideN {b c:D}:Odd x (.tup [.non,b,c])
 | side {s:Str} {b c:D}:¬s=x.sd->Odd x (.tup [.str s,b,c])
 | nmN {s:Str} {c:D}:Odd x (.tup [.str s,.non,c])
 | nmI {s:Str} {i:Int} {c:D}:Odd x (.tup [.str s,.int i,c])
 | nm {s nm:Str} {c:D}:(x.ws.findIdx? λw=>w.1 == nm)=none->Odd x (.tup [.str s,.str nm,c])
 | val {s nm:Str} {c:D} {p:Nat} {w:Str×Sh×Int}:(x.ws.findIdx? λw=>w.1 == nm)=some p->x.ws[p]?=some w->okD c=true->Ai w.2.1 c=false->Odd x (.tup [.str s,.str nm,c])
def Rq (n:Nat)(d:D):Prop:=∀m,n<=m->eqN m d d=some true
theorem X3 {i:Int}:Rq n (.int i):=λm _=>by cases m <;> (show some (i == i)=some true;rw [uh3])
theorem X4 (h:∀x∈xs,Rq n x):Rq (n + 1) (.lst xs):=λm hm=>by
 obtain ⟨k,rfl⟩:∃k,m=k + 1:=Nat.exists_eq_add_of_le' (by lia);rw [eqN,if_pos rfl];exact KF λx hx=>h x hx k (by lia)
def mB:Nat->Nat
 | 0=>0
 | m + 1=>10 + vB m * 2 + mB m * 2
structure Mis (n:Nat)(s:Sh)(v:D):Prop where
 ok:okD v=true
 no:Ai s v=false
 rq:Rq n v
structure Fit (n:Nat)(s:Sh)(v:D):Prop where
 ok:okD v=true
 fit:Ai s v=true
 rq:Rq n v
def Gr (S S':List Ob):Prop:=S.length<=S'.length/\∀i,i < S.length->S'[i]?=S[i]?
theorem Gr.app {ex:List Ob}:Gr S (S++ex):=⟨by rw [ue3];lia,λi h=>ub0 h⟩
theorem Gr.set {S S':List Ob}{k:Nat}{o:Ob}(a:Gr S S')(h:S.length<=k):Gr S (S'.set k o):=⟨by rw [ui5];exact a.1,λi hi=>by rw [ud1 (by lia)];exact a.2 i hi⟩
theorem Gr.get {S S':List Ob}{k:Nat}{o:Ob}(a:Gr S S')(h:S[k]?=some o):S'[k]?=some o:=by rw [a.2 k (ua9.mp h).1];exact h
abbrev lr (a b:D):List (Key×D):=[(kL,a),(kRt,b)]
abbrev dP (a b:Nat):List (Key×D):=lr (.int a) (.int b)
noncomputable def onS {α:Type}(s:Str)(a b:α):α:=if s=sL then a else b
inductive Sr where
 | stop
 | brk (k:Nat) (s:Str)
 | next (m:D) (h a b:Nat)
def msgR (side:Str)(ws:List (Str×Sh×Int))(w:List Nat)(p:Nat):RR×Nat:=match w[p]? with
 | none=>(.short,0)
 | some c=>match ws[c]? with
   | none=>(.broken p,0)
   | some wd=>((pSh 3 wd.2.1).run w (p + 1),c)
def E4 (side:Str)(ws:List (Str×Sh×Int))(w:List Nat)(p:Nat):D:=match msgR side ws w p with
 | (.short,_)=>.non
 | (.broken k,_)=>.exc "Broken" [.int k,.str side]
 | (.told v e,c)=>.tup [.tup [.str side,.str (ws.getD c (Str.ofString "",.nothing,0)).1,v],.int (ws.getD c (Str.ofString "",.nothing,0)).2.2,.int e]
def EH (g:List GS)(wl wr:List Nat)(h a b:Nat):Sr:=match AD g h with
 | .fin=>.stop
 | .st side ws=>match msgR side ws (onS side wl wr) (onS side a b) with
   | (.short,_)=>.stop
   | (.broken k,_)=>.brk k side
   | (.told v e,c)=>.next (.tup [.str side,.str (ws.getD c (Str.ofString "",.nothing,0)).1,v]) (ws.getD c (Str.ofString "",.nothing,0)).2.2.toNat (onS side e a) (onS side b e)
abbrev Rs:=List D×Nat×Nat×Nat×Option (Nat×Str)
def Ek (g:List GS)(wl wr:List Nat):Nat->Nat->Nat->Nat->List D->Rs
 | 0,h,a,b,t=>(t,h,a,b,none)
 | f + 1,h,a,b,t=>match EH g wl wr h a b with
   | .stop=>(t,h,a,b,none)
   | .brk k s=>(t,h,a,b,some (k,s))
   | .next m h' a' b'=>Ek g wl wr f h' a' b' (t++[m])
structure Pl (g:List GS)(wl wr:List Nat)(h a b:Nat):Prop where
 h:h < g.length
 a:a<=wl.length
 b:b<=wr.length
variable {h:Nat}
theorem QN {wl wr:List Nat}(hg:GOk g)(p:Pl g wl wr h a b){m:D}{h' a' b':Nat}(e:EH g wl wr h a b = .next m h' a' b'):Pl g wl wr h' a' b'/\a + b < a' + b':=by
 have hgs:=Dv hg p.h;unfold EH at e
 cases eg:AD g h with
 | fin=>rw [eg] at e;cases e
 | st side ws=>
   rw [eg] at e hgs
   cases hgs with
   | @st _ _ hs1 hs2 hs3 hs4 hs5=>
   dsimp only at e;unfold msgR at e
   cases hb:(onS side wl wr)[onS side a b]? with
   | none=>rw [hb] at e;cases e
   | some c=>
     rw [hb] at e;dsimp only at e
     cases hw:ws[c]? with
     | none=>rw [hw] at e;cases e
     | some wd=>
       rw [hw] at e;dsimp only at e;obtain ⟨hpl,_⟩:=ua9.mp hb;have hwo:=hs5 wd (ud2 hw);have hlo:=hwo.lo;have hhi:=hwo.hi;have hgd:ws.getD c (Str.ofString "",.nothing,0)=wd:=by rw [ua8,hw];rfl
       cases er:(pSh 3 wd.2.1).run (onS side wl wr) (onS side a b + 1) with
       | short=>rw [er] at e;cases e
       | broken k=>rw [er] at e;cases e
       | told v x=>
         rw [er] at e;dsimp only at e;rw [hgd] at e;injection e with e1 e2 e3 e4
         obtain ⟨l1,l2⟩:=Kl _ _ hpl er;have pa:=p.a;have pb:=p.b;subst e2;unfold onS at e3 e4 l1 l2
         by_cases q:side=sL
         ·rw [if_pos q] at e3 e4 l1 l2;exact ⟨⟨by lia,by lia,by lia⟩,by lia⟩
         ·rw [if_neg q] at e3 e4 l1 l2;exact ⟨⟨by lia,by lia,by lia⟩,by lia⟩
theorem Yv {x:Str}{neg:Bool}(e:t.S[n]?=some (.dct kvs))(h:P (.bl (if neg then !(By kvs (.inr x)).isSome else (By kvs (.inr x)).isSome)) t):W (inS neg (.str x) (.obj n)) t P:=
 ⟨_,_,by simp only [inS,e],h⟩
theorem Yr (e:t.S[n]?=some (.dct kvs))(h:P (.obj t.S.length) ⟨t.env,t.S++[.dct kvs]⟩):W (HH [.obj n]) t P:=
 ⟨_,_,by simp only [HH,e],h⟩
theorem t9 {a0 a1 a2 a3 a6 e7 e8:Option Sl}{X Y:List D}{x y:D}(h1:X=Y)(h2:x=y):(⟨[a0,a1,a2,a3,some (.own X),some (.val x),a6,e7,e8],S⟩:T)=⟨[a0,a1,a2,a3,some (.own Y),some (.val y),a6,e7,e8],S⟩:=by subst h1 h2;rfl
def isB (l:List D):Prop:=∀d∈l,∃x:Nat,d = .int (x:Int)/\x < 256
theorem P4:∀{l:List D},isB l->∃w:List Nat,l=wD w/\∀x∈w,x < 256
 | [],_=>⟨[],rfl,λx z=>nomatch z⟩
 | d :: r,h=>by
   obtain ⟨x,rfl,hx⟩:=h d ud9;obtain ⟨w,rfl,hw⟩:=P4 λd m=>h d (uc9 _ m);refine ⟨x :: w,rfl,λy hy=>?_⟩;rcases uj5.mp hy with rfl | hy
   ·exact hx
   ·exact hw y hy
theorem JX {a b:List D}(ha:isB a)(hb:isB b):isB (a++b):=λd h=>(uh4.mp h).elim (ha d) (hb d)
theorem Fl {x:Nat}{b:List D}(hx:x < 256)(hb:isB b):isB (.int (x:Int) :: b):=λd h=>by
 rcases uj5.mp h with rfl | h
 ·exact ⟨x,rfl,hx⟩
 ·exact hb d h
theorem Ql:∀(w n:Nat),isB (nb w n)
 | 0,n=>λd h=>nomatch h
 | w + 1,n=>JX (Ql w _) (Fl (Nat.mod_lt _ (by decide)) λd h=>nomatch h)
theorem Ff:∀(n:Nat) (s:Sh),s.depth<=n->wf s=true->∀v,Ai s v=true->isB (AN s v)
 | 0,s,h,_,_,_=>absurd s.depth_pos (by lia)
 | n + 1,s,hs,hw,v,hf=>by
   cases s with
   | nothing=>rw [AN];exact λd h=>nomatch h
   | number lo hi=>
     cases v <;> simp [Ai] at hf
     rw [AN];exact Ql _ _
   | text q=>
     simp only [wf,ug5,uf8] at hw
     cases v <;> simp only [Ai,ue4] at hf
     rename_i x;simp only [ug5,uf8,ug9] at hf;rw [AN];refine Fl (by lia) λd h=>?_;obtain ⟨c,hc,rfl⟩:=ul3.mp h;have:=hf.2 c hc;simp only [BT,ug5,uf8] at this;exact ⟨c,rfl,by lia⟩
   | list s q=>
     simp only [wf,ug5,uf8] at hw;rw [Sh.depth] at hs
     cases v <;> simp only [Ai,ue4] at hf
     rename_i ds;simp only [ug5,uf8,ug9] at hf;rw [AN];refine Fl (by lia) λd h=>?_;obtain ⟨l,hl,hd⟩:=List.mem_flatten.mp h;obtain ⟨e,he,rfl⟩:=ul3.mp hl;exact Ff n s (by lia) hw.2 e (hf.2 e he) d hd
   | pair s r=>
     simp only [wf,ug5] at hw;rw [Sh.depth] at hs;unfold Ai at hf
     split at hf
     ·rw [ug5] at hf;rw [AN];exact JX (Ff n s (by lia) hw.1 _ hf.1) (Ff n r (by lia) hw.2 _ hf.2)
     ·cases hf
   | choice ss=>
     simp only [wf,ug5,uf8] at hw;rw [Sh.depth] at hs;unfold Ai at hf
     split at hf
     ·next o k x=>
      simp only [ug5,uf8] at hf;obtain ⟨j,rfl⟩:=ub7 hf.1.2.1;have hj:j < ss.length:=by have:=hf.1.2.2;lia
      have e1:ss[j]?=some ss[j]:=ub3 hj;have h2:=hf.2;rw [uf2,CA ss _ _ _ e1] at h2;rw [AN,uf2,EI ss _ _ _ e1];exact Fl (by lia) (Ff n _ (uk7 (CB ss _ _ e1) (by lia)) (D9 hw.2 _ (uh2 hj)) x h2)
     ·cases hf
theorem L7:Ca (wD w) (some (a:Int)) none=wD (w.drop a):=by
 unfold Ca;rw [HT.Vr,HT.ST];unfold wD;rw [List.map_drop,uh6,uc3 (by rw [ug4,uh6];lia)]
 by_cases h:a<=w.length
 ·rw [Nat.min_eq_left h]
 ·rw [Nat.min_eq_right (by lia),List.drop_of_length_le (by rw [uh6];lia),List.drop_of_length_le (by rw [uh6];lia)]
structure Mvs (g:List GS)(wl wr:List Nat)(mv:List Mv)(h a b:Nat)(t:List D):Prop where
 t:t=HS g 0 mv
 ok:okQ g 0 mv
 h:E7 g 0 mv=h
 a:Bm g sL 0 mv=wD (wl.take a)
 b:Bm g sR 0 mv=wD (wr.take b)
def Agr (c:Nat)(w w2:List Nat):Prop:=∀i,i < c->w2[i]?=w[i]?
def At (w:List Nat)(a:Nat)(xs:List D):Prop:=∃p q,wD w=p++(xs++q)/\p.length=a
theorem At.left (h:At w a (xs++ys)):At w a xs:=by
 obtain ⟨p,q,e,l⟩:=h;exact ⟨p,ys++q,by rw [e,uf4],l⟩
theorem At.right (h:At w a (xs++ys)):At w (a + xs.length) ys:=by
 obtain ⟨p,q,e,l⟩:=h;exact ⟨p++xs,q,by rw [e,uf4,uf4],by rw [ue3,l]⟩
theorem At.head {c:Nat}(h:At w a (.int (c:Int) :: xs)):w[a]?=some c/\At w (a + 1) xs:=by
 refine ⟨?_,At.right (xs:=[.int (c:Int)]) h⟩;obtain ⟨p,q,e,l⟩:=h;have e1:(wD w)[a]?=some (.int (c:Int)):=by rw [e,ua5 (by lia),l,ul4];rfl
 unfold wD at e1;rw [uf1] at e1
 cases e2:w[a]? with
 | none=>rw [e2] at e1;cases e1
 | some x=>
   rw [e2] at e1;injection e1 with e1
   injection e1 with e1
   rw [show x=c by lia]
theorem Mr {lo:Int}{M:Nat}{w:List Nat}:∀(r x y a:Nat),y / 256 ^ r=x->y<=M->At w a (nb r y)->(GF lo M r x).run w a = .told (.int (lo + y)) (a + r)
 | 0,x,y,a,hx,hy,h=>by
   rw [Nat.pow_zero,Nat.div_one] at hx;subst hx;rfl
 | r + 1,x,y,a,hx,hy,h=>by
   rw [NE] at h;obtain ⟨h1,h2⟩:=h.head;have e:x * 256 + y / 256 ^ r % 256=y / 256 ^ r:=by
    rw [<-hx,ul2,<-uc4];lia
   rw [GF,Bs h1,if_pos (uj3 (by rw [e,Nat.pow_mul];exact Nat.div_le_div_right hy)),Mr r _ y (a + 1) e.symm hy h2]
   congr 1
   lia
theorem MN {w:List Nat}:∀(xs cs:List Nat) (a:Nat),(∀c∈xs,BT c=true)->At w a (xs.map λ(n:Nat)=>D.int (n:Int))->(Hn xs.length cs).run w a = .told (.str ⟨(cs++xs).toArray⟩) (a + xs.length)
 | [],cs,a,_,_=>by rw [uh8];rfl
 | x :: r,cs,a,hs,h=>by
   obtain ⟨h1,h2⟩:=At.head h;rw [ug1,Hn,Bs h1,if_pos (hs x ud9),MN r (cs++[x]) (a + 1) (λc hc=>hs c (uc9 _ hc)) h2,uf4]
   congr 1
   lia
theorem Mo {w:List Nat}{s:Sh}{p:Rd}(hp:∀(v:D) (a:Nat),Ai s v=true->At w a (AN s v)->p.run w a = .told v (a + (AN s v).length)):∀(es ds:List D) (a:Nat),(∀e∈es,Ai s e=true)->At w a (es.map λd=>AN s d).flatten->(GD p es.length ds).run w a = .told (.lst (ds++es)) (a + ((es.map λd=>AN s d).flatten).length)
 | [],ds,a,_,_=>by rw [uh8];rfl
 | e :: r,ds,a,hf,h=>by
   rw [uj6,uf3] at h;rw [ug1,GD,D7,hp e a (hf e ud9) h.left,RR.thn,Mo hp r (ds++[e]) _ (λx hx=>hf x (uc9 _ hx)) h.right,uf4,uj6,uf3,ue3]
   congr 1
   lia
theorem Q4:∀(k n:Nat),wid n<=k->n < 256 ^ k
 | 0,n,h=>by
   by_cases z:n=0
   ·subst z;decide
   ·rw [IL (by lia)] at h;lia
 | k + 1,n,h=>by
   by_cases z:n=0
   ·subst z;exact Nat.pow_pos (by decide)
   ·rw [IL (by lia)] at h;have:=Q4 k (n / 256) (by lia);rw [Nat.div_lt_iff_lt_mul (by decide)] at this;rw [ul2];exact this
theorem UM {o:Str}(h:Hf o=true):o=Str.ofString "of":=by
 unfold Hf at h;simpa using h
theorem back:∀(n:Nat) (s:Sh),s.depth<=n->wf s=true->∀(w:List Nat) (v:D) (a:Nat),Ai s v=true->At w a (AN s v)->(pSh n s).run w a = .told v (a + (AN s v).length)
 | 0,s,hs,_,_,_,_,_,_=>absurd s.depth_pos (by lia)
 | n + 1,s,hs,hwf,w,v,a,hf,h=>by
   cases s with
   | nothing=>
     have:v = .non:=by cases v <;> simp [Ai,Gy] at hf <;> rfl
     subst this;rfl
   | number lo hi=>
     simp only [wf,ug5,uf8] at hwf
     cases v with
     | int i=>
       simp only [Ai,ug5,uf8] at hf;rw [AN] at h ⊢;rw [pSh,Mr (wid (hi - lo).toNat) 0 (i - lo).toNat a ?_ (by lia) h,Mq]
       ·congr 2;lia
       ·exact Nat.div_eq_of_lt (Nat.lt_of_le_of_lt (show (i - lo).toNat<=(hi - lo).toNat by lia) (Q4 _ _ (ul5 _)))
     | _=>simp [Ai] at hf
   | text q=>
     cases v with
     | str x=>
       simp only [Ai,ug5,uf8,ug9] at hf;rw [AN] at h ⊢;obtain ⟨h1,h2⟩:=At.head h;rw [pSh,Bs h1,if_pos (uj3 hf.1)];have hl:x.length=x.cps.toList.length:=rfl;rw [hl,MN x.cps.toList [] (a + 1) hf.2 h2,ui6,ug1,uh6]
       congr 1
       lia
     | _=>simp [Ai] at hf
   | list s q=>
     simp only [wf,ug5,uf8] at hwf;rw [Sh.depth] at hs
     cases v with
     | lst ds=>
       rw [Ai,ug5,uf8,ug9] at hf;rw [AN] at h ⊢;obtain ⟨h1,h2⟩:=At.head h;rw [pSh,Bs h1,if_pos (uj3 hf.1),Mo (λv a=>back n s (by lia) hwf.2 w v a) ds [] (a + 1) hf.2 h2,ui6,ug1]
       congr 1
       lia
     | _=>simp [Ai] at hf
   | pair s r=>
     simp only [wf,ug5] at hwf;rw [Sh.depth] at hs;unfold Ai at hf
     split at hf
     ·rw [ug5] at hf;rw [AN] at h ⊢;rw [pSh,D7,back n s (by lia) hwf.1 w _ a hf.1 h.left,RR.thn,D7,back n r (by lia) hwf.2 w _ _ hf.2 h.right,RR.thn,Rd.run,ue3,uk1]
     ·cases hf
   | choice ss=>
     simp only [wf,ug5,uf8] at hwf;rw [Sh.depth] at hs;unfold Ai at hf
     split at hf
     ·next o k x=>
      simp only [ug5,uf8] at hf;obtain ⟨j,rfl⟩:=ub7 hf.1.2.1;have hj:j < ss.length:=by have:=hf.1.2.2;lia
      have e1:ss[j]?=some ss[j]:=ub3 hj;have h2:=hf.2;rw [uf2,CA ss _ _ _ e1] at h2;rw [AN,uf2,EI ss _ _ _ e1] at h ⊢;obtain ⟨h3,h4⟩:=At.head h;have ho:o=Str.ofString "of":=UM hf.1.1;subst ho;rw [pSh,Bs h3,if_pos (uj3 hj),ua8,e1,Option.getD_some,D7,back n _ (uk7 (CB ss _ _ e1) (by lia)) (D9 hwf.2 _ (uh2 hj)) w x (a + 1) h2 h4,RR.thn,Rd.run,ug1]
      congr 1
      lia
     ·cases hf
theorem Ti {c:Nat}:∀(p:Rd) (a:Nat),p.run w a = .told v b->a<=c->c < b->p.run (w.take c) a = .short:=by
 intro p
 induction p with
 | done v'=>intro a h h1 h2;rw [Rd.run] at h;cases h;lia
 | need ok nx ih=>
   intro a h h1 h2
   cases e:w[a]? with
   | none=>rw [Cs e] at h;cases h
   | some x=>
     rw [Bs e] at h
     by_cases q:ok x=true
     ·rw [if_pos q] at h
      by_cases hac:a < c
      ·rw [Bs (b:=x) (by rw [ue7,if_pos hac];exact e),if_pos q];exact ih x (a + 1) h hac h2
      ·exact Cs (by rw [ue7,if_neg hac])
     ·rw [if_neg q] at h;cases h
theorem Hx {wl wr:List Nat}{t:List D}(e:EH g wl wr h a b = .stop):∀F,Ek g wl wr F h a b t=(t,h,a,b,none)
 | 0=>rfl
 | F + 1=>by unfold Ek;rw [e]
def Wir (S:List Ob)(d:D)(w:List Nat):Prop:=d = .lst (wD w)\/∃k,d = .obj k/\S[k]?=some (.lst (wD w))
def PureS (S:List Ob)(f:Fn)(ds:List D)(r:D):Prop:=Wf f ds S λr' S'=>r'=r/\S'=S
theorem PureS.use {f:Fn}{r:D}(h:PureS S f ds r){P:D->List Ob->Prop}(p:P r S):Wf f ds S P:=h.mono λ_ _ ⟨e1,e2⟩=>by subst e1 e2;exact p
theorem Lw {d:D}(h:Wir t.S d w)(p:P (.int (w.length:Nat)) t):W (A4 [d]) t P:=by
 rcases h with rfl | ⟨k,rfl,e⟩
 ·refine O3 ?_;rw [Bp];exact p
 ·refine GM e ?_;rw [Bp];exact p
theorem Tp {d:D}(h:Wir t.S d w)(e:w[a]?=some b)(p:P (.int (b:Int)) t):W (ixD d (.int (a:Int))) t P:=by
 rcases h with rfl | ⟨k,rfl,e'⟩
 ·exact Bk (HF (Q2 e)) p
 ·exact W_ix_obj.mpr ⟨_,e',_,HF (Q2 e),p⟩
def BXw (f:Fn):Prop:=∀(S:List Ob) (wv:D) (w:List Nat) (a:Nat),Wir S wv w->PureS S f [wv,.int (a:Int)] (byX w[a]?)
theorem Wt:BXw (fnOf 2 2 Fm):=by
 intro S wv w a hv;refine Ao rfl ?_;unfold Fm;have hl:=Bp w
 cases h:w[a]? with
 | none=>
   have:=ub2.mp h;symm;refine Lw hv ?_;symm;refine EX (uj3 (by lia)) ?_;symm;exact ⟨rfl,rfl⟩
 | some b=>
   obtain ⟨hj,_⟩:=ua9.mp h;symm;refine Lw hv ?_;symm;refine Dg (ui8 (by lia)) ?_;symm;refine Tp hv h ?_;exact ⟨rfl,rfl,rfl⟩
def UXw (f:Fn):Prop:=∀(S:List Ob) (wv:D) (m:Int) (w:List Nat) (a:Nat),Wir S wv w->PureS S f [.int m,wv,.int (a:Int)] (upX m a w[a]?)
theorem Yo (hc:BXw c):UXw (fnOf 3 4 (Ei c)):=by
 intro S wv m w a hv;refine Ao rfl ?_;unfold Ei;have hb:=hc S wv w a hv
 cases h:w[a]? with
 | none=>
   rw [h,byX] at hb;symm;refine hb.use ?_;symm;exact ⟨rfl,rfl⟩
 | some b=>
   rw [h,byX] at hb;symm;refine hb.use ?_;symm;rw [upX]
   by_cases q:(b:Int)<=m
   ·rw [if_pos q];refine Dg (ui8 (by lia)) ?_;symm;exact ⟨rfl,rfl,rfl⟩
   ·rw [if_neg q];refine EX (uj3 (by lia)) ?_;symm;exact ⟨rfl,rfl⟩
def SXw (f:Fn):Prop:=∀(S:List Ob) (wv:D) (w:List Nat) (a:Nat),Wir S wv w->PureS S f [wv,.int (a:Int)] (sgX a w[a]?)
variable {cb:Fn}
theorem Yg {cs:Fn}(hs:IP cs)(hb:BXw cb):SXw (fnOf 2 3 (Fp cs cb)):=by
 intro S wv w a hv;refine Ao rfl ?_;unfold Fp;have hb:=hb S wv w a hv
 cases h:w[a]? with
 | none=>
   rw [h,byX] at hb;symm;refine hb.use ?_;symm;exact ⟨rfl,rfl⟩
 | some c=>
   rw [h,byX] at hb;symm;refine hb.use ?_;symm;refine (hs c).use ?_;rw [sgX]
   by_cases q:BT c=true
   ·rw [if_pos q,q];symm;refine W_ix_str.mpr ⟨by decide +kernel,c,Yc q,?_⟩;exact ⟨rfl,rfl,rfl⟩
   ·have q':BT c=false:=by simpa using q
    rw [if_neg q,q'];symm;exact ⟨rfl,rfl⟩
variable {cl:Fn}
theorem X2 (hl:GR cl)(hb:BXw cb)(hw:IT cw){lo hi:Int}(hwf:wf (.number lo hi)=true)(w:List Nat)(a:Nat){S:List Ob}{wv:D}(hv:Wir S wv w):PureS S (fnOf 3 7 (CN cl cb cw)) [(Sh.number lo hi).d,wv,.int (a:Int)] (rrD ((GF lo (hi - lo).toNat (wid (hi - lo).toNat) 0).run w a)):=by
 have hsp:=NT hwf;have hwd:=JE 9 _ hsp;refine Ao rfl ?_;unfold CN;rw [Sh.d];have em:hi - lo=(((hi - lo).toNat:Nat):Int):=by
  simp only [wf,ug5,uf8] at hwf;lia
 have hww:=λS P p=>(hw (hi - lo).toNat hsp).use (S:=S) (P:=P) p;rw [<-em] at hww;generalize (hi - lo).toNat=M at *;generalize hW:wid M=n at *;symm;refine hww _ _ ?_;rw [em];symm;refine Hw (CV (by lia) (by lia)) ?_;refine EG (λr t=>∃(j x:Nat) (e6:Option Sl),j<=n/\r=(Bd 0 ((n:Nat):Int).toNat).drop j/\(GF lo M n 0).run w a=(GF lo M (n - j) x).run w (a + j)/\t=⟨[some (.val (.tup [.str "number",.int lo,.int hi])),some (.val wv),some (.val (.int a)),some (.val (.int M)),some (.val (.int n)),some (.val (.int x)),e6],S⟩) _ _ ⟨0,0,none,ul6 _,rfl,rfl,rfl⟩ ?_ ?_
 ·rintro d r t ⟨j,x,e6,hj,hr,hrun,rfl⟩ _;obtain ⟨rfl,hr',hjn⟩:=Kg hr;rw [uf2] at hjn;rw [Int.zero_add];obtain ⟨e,he⟩:∃e,n - j=e + 1:=⟨n - j - 1,by lia⟩;rw [he,GF] at hrun;have hby:=hb S wv w (a + j) hv;symm;refine O4 (ND (by decide) (by decide)) ?_;symm;rw [show ((a:Int) + (j:Int))=((a + j:Nat):Int) by lia]
  cases h:w[a + j]? with
  | none=>
    rw [h,byX] at hby;rw [Cs h] at hrun;refine hby.use ?_;symm;exact ⟨by rw [hrun];rfl,rfl⟩
  | some b=>
    rw [h,byX] at hby;rw [Bs h] at hrun;refine hby.use ?_;symm;refine ⟨rfl,?_⟩;symm;rw [show ((n:Int) - 1 - (j:Int))=((e:Nat):Int) by lia,show ((x:Int) * 256 + (b:Int))=((x * 256 + b:Nat):Int) by lia];refine (hl M e (by lia)).use ?_;symm
    by_cases q:x * 256 + b<=M / 2 ^ (8 * e)
    ·rw [if_pos (uj3 q)] at hrun;refine Dg (ui8 (by lia)) ?_;symm;exact ⟨j + 1,x * 256 + b,_,hjn,hr',by rw [show n - (j + 1)=e by lia,hrun,uk1],rfl⟩
    ·rw [if_neg (by rw [uf8];exact q)] at hrun;refine EX (uj3 (by lia)) ?_;symm;exact ⟨by rw [hrun];rfl,rfl⟩
 ·rintro t ⟨j,x,e6,hj,hr,hrun,rfl⟩;have hj':j=n:=by
   have:=congrArg List.length hr;rw [ui2,ug4,Jt,uf2] at this;lia
  subst hj';rw [ul4,GF,Rd.run] at hrun;symm;exact ⟨rfl,by rw [hrun];rfl,rfl⟩
variable {cu:Fn}
theorem Vp {ca:Fn}(ha:SXw ca)(hu:UXw cu){q:Int}(hwf:wf (.text q)=true)(n:Nat)(w:List Nat)(a:Nat){S:List Ob}{wv:D}(hv:Wir S wv w):PureS S (fnOf 3 7 (DA ca cu)) [(Sh.text q).d,wv,.int (a:Int)] (rrD ((pSh (n + 1) (.text q)).run w a)):=by
 have hL:LIM=100000:=rfl;refine Ao rfl ?_;unfold DA;rw [Sh.d,pSh];simp only [wf,ug5,uf8] at hwf;have hup:=hu S wv q w a hv;symm
 cases h:w[a]? with
 | none=>
   rw [h,upX] at hup;rw [Cs h];refine hup.use ?_;symm;exact ⟨rfl,rfl⟩
 | some b=>
   rw [h,upX] at hup;rw [Bs h]
   by_cases hb:(b:Int)<=q
   ·rw [if_pos hb] at hup;rw [if_pos (uj3 hb)];refine hup.use ?_;symm;refine Hw (CV (by lia) (by lia)) ?_;refine EG (λr t=>∃(j:Nat) (y:Str) (e6:Option Sl),j<=b/\r=(Bd 0 ((b:Nat):Int).toNat).drop j/\y.cps.toList.length=j/\(Hn b []).run w (a + 1)=(Hn (b - j) y.cps.toList).run w (a + 1 + j)/\t=⟨[some (.val (.tup [.str "text",.int q])),some (.val wv),some (.val (.int a)),some (.val (.int b)),some (.val (.int ((a:Int) + 1))),some (.val (.str y)),e6],S⟩) _ _ ⟨0,Str.ofString "",none,ul6 _,rfl,by decide +kernel,by rw [Nat.sub_zero,Nat.add_zero,show (Str.ofString "").cps.toList=[] by decide +kernel],rfl⟩ ?_ ?_
    ·rintro d r t ⟨j,y,e6,hj,hr,hyl,hrun,rfl⟩ _;obtain ⟨rfl,hr',hjn⟩:=Kg hr;rw [uf2] at hjn;rw [Int.zero_add];obtain ⟨e,he⟩:∃e,b - j=e + 1:=⟨b - j - 1,by lia⟩;rw [he,Hn] at hrun;have hsg:=ha S wv w (a + 1 + j) hv;symm;rw [show ((a:Int) + 1 + (j:Int))=((a + 1 + j:Nat):Int) by lia]
     cases h2:w[a + 1 + j]? with
     | none=>
       rw [h2,sgX] at hsg;rw [Cs h2] at hrun;refine hsg.use ?_;symm;exact ⟨by rw [hrun];rfl,rfl⟩
     | some c=>
       rw [h2,sgX] at hsg;rw [Bs h2] at hrun
       by_cases hc:BT c=true
       ·rw [if_pos hc] at hsg hrun;refine hsg.use ?_;symm;refine DG (by rw [FN y,hyl,hL];show j + 1<=_;lia) ?_;refine ⟨rfl,?_⟩;symm;refine ⟨j + 1,_,_,hjn,hr',?_,?_,rfl⟩
        ·rw [Kq,ue3,hyl];rfl
        ·rw [hrun,Kq,show b - (j + 1)=e by lia,uk1 (a + 1)]
       ·rw [if_neg hc] at hsg hrun;refine hsg.use ?_;symm;exact ⟨by rw [hrun];rfl,rfl⟩
    ·rintro t ⟨j,y,e6,hj,hr,hyl,hrun,rfl⟩;have hj':j=b:=by
      have:=congrArg List.length hr;rw [ui2,ug4,Jt,uf2] at this;lia
     subst hj';rw [ul4,Hn,Rd.run] at hrun;have ey:(⟨y.cps.toList.toArray⟩:Str)=y:=VQ (by simp);rw [ey] at hrun;symm;refine ⟨rfl,?_,rfl⟩;rw [hrun,rrD,show ((a:Int) + 1 + (j:Int))=((a + 1 + j:Nat):Int) by lia]
   ·rw [if_neg hb] at hup;rw [if_neg (by rw [uf8];exact hb)];refine hup.use ?_;symm;exact ⟨rfl,rfl⟩
def RXw (c:Fn)(s:Sh)(p:Rd):Prop:=∀(S:List Ob) (wv:D) (w:List Nat) (a:Nat),Wir S wv w->a<=w.length->PureS S c [s.d,wv,.int (a:Int)] (rrD (p.run w a))
variable {s:Sh}
theorem Vn {p:Rd}{q:Int}(hu:UXw cu)(hq2:q<=250)(hc:RXw c s p)(w:List Nat)(a:Nat){S:List Ob}{wv:D}(hv:Wir S wv w):PureS S (fnOf 3 8 (Dy c cu)) [(Sh.list s q).d,wv,.int (a:Int)] (rrD ((Rd.need (λb=>decide ((b:Int)<=q)) λb=>GD p b []).run w a)):=by
 have hL:LIM=100000:=rfl;refine Ao rfl ?_;unfold Dy;rw [Sh.d];have hup:=hu S wv q w a hv;symm
 cases h:w[a]? with
 | none=>
   rw [h,upX] at hup;rw [Cs h];refine hup.use ?_;symm;exact ⟨rfl,rfl⟩
 | some b=>
   have hal:=(ua9.mp h).1;rw [h,upX] at hup;rw [Bs h]
   by_cases hb:(b:Int)<=q
   ·rw [if_pos hb] at hup;rw [if_pos (uj3 hb)];refine hup.use ?_;symm;refine Hw (CV (by lia) (by lia)) ?_;refine EG (λr t=>∃(j a':Nat) (ds:List D) (e6 e7:Option Sl),j<=b/\r=(Bd 0 ((b:Nat):Int).toNat).drop j/\ds.length=j/\a'<=w.length/\(GD p b []).run w (a + 1)=(GD p (b - j) ds).run w a'/\t=⟨[some (.val (.tup [.str "list",s.d,.int q])),some (.val wv),some (.val (.int a)),some (.val (.int b)),some (.val (.int (a':Int))),some (.own ds),e6,e7],S⟩) _ _ ⟨0,a + 1,[],none,none,ul6 _,rfl,rfl,hal,rfl,rfl⟩ ?_ ?_
    ·rintro d r t ⟨j,a',ds,e6,e7,hj,hr,hdl,ha',hrun,rfl⟩ _;obtain ⟨rfl,hr',hjn⟩:=Kg hr;rw [uf2] at hjn;obtain ⟨e,he⟩:∃e,b - j=e + 1:=⟨b - j - 1,by lia⟩;rw [he,GD,D7] at hrun;have hcc:=hc S wv w a' hv ha'
     cases h2:p.run w a' with
     | short=>
       rw [h2] at hrun hcc;symm;refine hcc.use ?_;rw [rrD];symm;exact ⟨by rw [hrun];rfl,rfl⟩
     | broken k=>
       rw [h2] at hrun hcc;symm;refine hcc.use ?_;rw [rrD];symm;exact ⟨by rw [hrun];rfl,rfl⟩
     | told v a2=>
       have hle:=Kl p a' ha' h2;rw [h2] at hrun hcc;symm;refine hcc.use ?_;rw [rrD];symm;refine DG (by rw [hdl,hL];lia) ?_;symm;exact ⟨j + 1,a2,ds++[v],_,_,hjn,hr',by rw [ue3,hdl];rfl,hle.2,by rw [hrun,show b - (j + 1)=e by lia];rfl,rfl⟩
    ·rintro t ⟨j,a',ds,e6,e7,hj,hr,hdl,ha',hrun,rfl⟩;have hj':j=b:=by
      have:=congrArg List.length hr;rw [ui2,ug4,Jt,uf2] at this;lia
     subst hj';rw [ul4,GD,Rd.run] at hrun;symm;exact ⟨rfl,by rw [hrun];rfl,rfl⟩
   ·rw [if_neg hb] at hup;rw [if_neg (by rw [uf8];exact hb)];refine hup.use ?_;symm;exact ⟨rfl,rfl⟩
theorem Vo {r:Sh}{p p':Rd}(hs:RXw c s p)(hr:RXw c r p')(w:List Nat)(a:Nat){S:List Ob}{wv:D}(hv:Wir S wv w)(ha:a<=w.length):PureS S (fnOf 3 5 (Dz c)) [(Sh.pair s r).d,wv,.int (a:Int)] (rrD ((p.bnd λv=>p'.bnd λu=>.done (.tup [v,u])).run w a)):=by
 refine Ao rfl ?_;unfold Dz;rw [Sh.d,D7];have h1:=hs S wv w a hv ha
 cases e1:p.run w a with
 | short=>
   rw [e1] at h1;symm;refine h1.use ?_;rw [rrD];symm;exact ⟨rfl,rfl⟩
 | broken k=>
   rw [e1] at h1;symm;refine h1.use ?_;rw [rrD];symm;exact ⟨rfl,rfl⟩
 | told v a'=>
   have hle:=Kl p a ha e1;rw [e1] at h1;have h2:=hr S wv w a' hv hle.2;rw [RR.thn,D7];symm;refine h1.use ?_;rw [rrD];symm;refine h2.use ?_
   cases e2:p'.run w a' with
   | short=>rw [rrD];symm;exact ⟨rfl,rfl⟩
   | broken k=>rw [rrD];symm;exact ⟨rfl,rfl⟩
   | told u a2=>rw [rrD];symm;exact ⟨rfl,rfl,rfl⟩
theorem QA {p:Nat->Rd}(hu:UXw cu)(hc:∀(k:Nat) (h:k < ss.length),RXw c ss[k] (p k))(w:List Nat)(a:Nat){S:List Ob}{wv:D}(hv:Wir S wv w):PureS S (fnOf 3 5 (CL c cu)) [(Sh.choice ss).d,wv,.int (a:Int)] (rrD ((Rd.need (λb=>decide (b < ss.length)) λb=>(p b).bnd λv=>.done (.tup [.str "of",.int b,v])).run w a)):=by
 refine Ao rfl ?_;unfold CL;rw [Sh.d];have hup:=hu S wv ((ss.length:Int) - 1) w a hv;symm;rw [DC];refine hup.use ?_
 cases h:w[a]? with
 | none=>
   rw [Cs h,upX];symm;exact ⟨rfl,rfl⟩
 | some b=>
   have hal:=(ua9.mp h).1;rw [Bs h,upX]
   by_cases hb:b < ss.length
   ·rw [if_pos (show (b:Int)<=(ss.length:Int) - 1 by lia),if_pos (uj3 hb),D7];have e0:ss[b]?=some ss[b]:=ub3 hb;have hsd:atI (shD ss) (b:Int)=some ss[b].d:=HF (by rw [Gc,e0];rfl);have h2:=hc b hb S wv w (a + 1) hv hal;symm;refine EE hsd ?_;symm;rw [show ((a:Int) + 1)=((a + 1:Nat):Int) by lia];refine h2.use ?_
    cases e2:(p b).run w (a + 1) with
    | short=>rw [rrD];symm;exact ⟨rfl,rfl⟩
    | broken k=>rw [rrD];symm;exact ⟨rfl,rfl⟩
    | told u a2=>rw [rrD];symm;exact ⟨rfl,rfl,rfl⟩
   ·rw [if_neg (show ¬(b:Int)<=(ss.length:Int) - 1 by lia),if_neg (by rw [uf8];exact hb)];symm;exact ⟨rfl,rfl⟩
def GV (f:Fn)(n:Nat):Prop:=∀s:Sh,s.depth<=n->wf s=true->RXw f s (pSh n s)
variable {cc cp ct cn:Fn}
theorem QB (hn:∀lo hi,wf (.number lo hi)=true->RXw cn (.number lo hi) (pSh (n + 1) (.number lo hi)))(ht:∀q,wf (.text q)=true->RXw ct (.text q) (pSh (n + 1) (.text q)))
 (hl:∀s q,q<=250->s.depth<=n->wf s=true->RXw cl (.list s q) (pSh (n + 1) (.list s q))) (hp:∀s r,s.depth<=n->r.depth<=n->wf s=true->wf r=true->RXw cp (.pair s r) (pSh (n + 1) (.pair s r)))
 (hc:∀ss:List Sh,(∀(k:Nat) (h:k < ss.length),ss[k].depth<=n/\wf ss[k]=true)->RXw cc (.choice ss) (pSh (n + 1) (.choice ss))):GV (fnOf 3 4 (Da cc cp cl ct cn)) (n + 1):=by
 intro s hs hwf S wv w a hv ha;refine Ao rfl ?_;unfold Da
 cases s with
 | nothing=>
   rw [Sh.d,pSh,Rd.run,rrD];symm;exact ⟨rfl,rfl,rfl⟩
 | number lo hi=>
   have h:=hn lo hi hwf S wv w a hv ha;rw [Sh.d] at h ⊢;symm;exact h.use ⟨rfl,rfl⟩
 | text q=>
   have h:=ht q hwf S wv w a hv ha;rw [Sh.d] at h ⊢;symm;exact h.use ⟨rfl,rfl⟩
 | list s q=>
   simp only [wf,ug5,uf8] at hwf;rw [Sh.depth] at hs;have h:=hl s q hwf.1.2 (by lia) hwf.2 S wv w a hv ha;rw [Sh.d] at h ⊢;symm;exact h.use ⟨rfl,rfl⟩
 | pair s r=>
   simp only [wf,ug5] at hwf;rw [Sh.depth] at hs;have h:=hp s r (by lia) (by lia) hwf.1 hwf.2 S wv w a hv ha;rw [Sh.d] at h ⊢;symm;exact h.use ⟨rfl,rfl⟩
 | choice ss=>
   simp only [wf,ug5,uf8] at hwf;rw [Sh.depth] at hs;have h:=hc ss (λk hk=>⟨uk7 (CB ss _ _ (ub3 hk)) (by lia),D9 hwf.2 _ (uh2 hk)⟩) S wv w a hv ha;rw [Sh.d] at h ⊢;symm;exact h.use ⟨rfl,rfl⟩
theorem OP {ca cl':Fn}(e1:cc=fnOf 3 5 (CL c cu))(e2:cp=fnOf 3 5 (Dz c))(e3:cl=fnOf 3 8 (Dy c cu))(e4:ct=fnOf 3 7 (DA ca cu))(e5:cn=fnOf 3 7 (CN cl' cb cw))
 (hu:UXw cu) (ha:SXw ca) (hl':GR cl') (hb:BXw cb) (hw:IT cw) (hc:GV c n):GV (fnOf 3 4 (Da cc cp cl ct cn)) (n + 1):=by
 subst e1 e2 e3 e4 e5;refine QB (λlo hi h S wv w a hv _=>?_) (λq h S wv w a hv _=>Vp ha hu h n w a hv) (λs q h2 hd h S wv w a hv _=>?_) (λs r d1 d2 w1 w2 S wv w a hv ha=>?_) λss h S wv w a hv _=>?_
 ·rw [pSh];exact X2 hl' hb hw h w a hv
 ·rw [pSh];exact Vn hu h2 (hc s hd h) w a hv
 ·rw [pSh];exact Vo (hc s d1 w1) (hc r d2 w2) w a hv ha
 ·rw [pSh];refine QA hu (p:=λb=>pSh n (ss.getD b .nothing)) (λk hk=>?_) w a hv;show RXw c ss[k] (pSh n (ss.getD k .nothing));rw [ua8,ub3 hk,Option.getD_some];exact hc _ (h k hk).1 (h k hk).2
variable {S':List Ob}
theorem Wir.gr {d:D}(h:Wir S d w)(g:Gr S S'):Wir S' d w:=h.imp id λ⟨k,e1,e2⟩=>⟨k,e1,g.get e2⟩
def Q9 (f:Fn):Prop:=∀(S:List Ob) (wv:D) (n:Int) (side:Str) (ws:List (Str×Sh×Int)) (w:List Nat) (p:Nat),Wir S wv w->GSOk n (.st side ws)->p<=w.length->w.length<=50000->PureS S f [(GS.st side ws).d,wv,.int p] (E4 side ws w p)
theorem UR (hc:GV c 3):Q9 (fnOf 3 6 (EC c)):=by
 intro S wv n side ws w p hv hgs hp hwl
 cases hgs with
 | @st _ _ hs1 hs2 hs3 hs4 hs5=>
 refine Ao rfl ?_;unfold EC;rw [GS.d]
 cases hb:w[p]? with
 | none=>
   have hpl:¬p < w.length:=by rw [ub2] at hb;lia
   rw [show E4 side ws w p = .non by unfold E4 msgR;rw [hb]];symm;refine Lw hv ?_;symm;refine EX (by simp;lia) ?_;symm;refine ⟨rfl,?_⟩;symm;exact ⟨rfl,rfl⟩
 | some cc=>
   obtain ⟨hpl,_⟩:=ua9.mp hb;symm;refine Lw hv ?_;symm;refine Dg (by simp;lia) ?_;symm;refine Tp hv hb ?_;symm;rw [uh6]
   cases hw:ws[cc]? with
   | none=>
     have hcl:¬cc < ws.length:=by rw [ub2] at hw;lia
     rw [show E4 side ws w p = .exc "Broken" [.int p,.str side] by unfold E4 msgR;simp only [hb,hw]];refine EX (by simp;lia) ?_;symm;exact ⟨rfl,rfl⟩
   | some wd=>
     obtain ⟨hcl,_⟩:=ua9.mp hw;have hwo:=hs5 wd (ud2 hw);have hgd:ws.getD cc (Str.ofString "",.nothing,0)=wd:=by rw [ua8,hw];rfl
     have hrd:=hc wd.2.1 hwo.dep hwo.ok S wv w (p + 1) hv hpl;refine Dg (by simp;lia) ?_;symm;refine Tp hv hb ?_;symm;refine Bk (EN hw) ?_;unfold wdD;dsimp only;symm
     cases e:(pSh 3 wd.2.1).run w (p + 1) with
     | told v b=>
       rw [show E4 side ws w p = .tup [.tup [.str side,.str wd.1,v],.int wd.2.2,.int b] by unfold E4 msgR;simp only [hb,hw,e,hgd]];rw [e,rrD] at hrd;refine hrd.use ?_;symm;exact ⟨rfl,rfl,rfl⟩
     | short=>
       rw [show E4 side ws w p = .non by unfold E4 msgR;simp only [hb,hw,e]];rw [e,rrD] at hrd;refine hrd.use ?_;symm;refine ⟨rfl,?_⟩;symm;exact ⟨rfl,rfl⟩
     | broken k=>
       rw [show E4 side ws w p = .exc "Broken" [.int k,.str side] by unfold E4 msgR;simp only [hb,hw,e]];rw [e,rrD] at hrd;refine hrd.use ?_;symm;exact ⟨rfl,rfl⟩
abbrev Fu (wl wr:List Nat):Nat:=wl.length + wr.length + 1
def Rch (g:List GS)(vl vr:List Nat)(tk:List D)(h a b:Nat):Prop:=Pl g vl vr h a b/\∀xl xr:List Nat,Ek g (vl++xl) (vr++xr) (Fu (vl++xl) (vr++xr)) 0 0 0 []=Ek g (vl++xl) (vr++xr) (Fu (vl++xl) (vr++xr)) h a b tk
def Fed (g:List GS)(vl vr:List Nat)(tk:List D)(h a b:Nat)(fl:D):Prop:=Rch g vl vr tk h a b/\match Ek g vl vr (Fu vl vr) 0 0 0 [] with
 | (t',h',a',b',none)=>tk=t'/\h=h'/\a=a'/\b=b'/\fl = .non
 | (_,_,_,_,some (k,s))=>fl = .tup [.int (k:Nat),.str s]
section
variable {f:Str}{t:T}{P:D->T->Prop}{O:Out->T->Prop}{k:Nat}{n:Str}{fs:List (Str×D)}{v:D}
def RM (f:Str)(d:D):M D:=EU d λ_ _ fs t=>(fs.lookup f).map λv=>(v,t)
def Kk (f:Str)(v d:D):M Out:=EU d λk n fs t=>if fs.length < 1000 then some (.next,{ t with S:=t.S.set k (.ins n (Fv f v fs)) }) else none
theorem To {a:M D}(h:W a t λd t1=>W (RM f d) t1 P):W (BV f a) t P:=BH h
theorem Br (e:t.S[k]?=some (.ins n fs))(l:fs.lookup f=some v)(h:P v t):W (RM f (.obj k)) t P:=⟨_,_,by simp only [RM,EU,e,l];rfl,h⟩
theorem Ko {gv ga:M D}(h:W gv t λv t1=>W ga t1 λd t2=>W (Kk f v d) t2 O):W (BZ f gv ga) t O:=BH (h.mono λ_ _ z=>BH z)
theorem BI (e:t.S[k]?=some (.ins n fs))(l:fs.length < 1000)(h:O .next ⟨t.env,t.S.set k (.ins n (Fv f v fs))⟩):W (Kk f v (.obj k)) t O:=⟨_,_,by simp only [Kk,EU,e,if_pos l],h⟩
theorem T9 {g:Fn}{fl:M (List D)}(h:W fl t λds t1=>Wf g (.obj t1.S.length :: ds) (t1.S++[.ins n []]) λr S'=>r = .non/\P (.obj t1.S.length) ⟨t1.env,S'⟩):W (HJ n g fl) t P:=
 BH (h.mono λds t1 ⟨r,S',e,e2,p⟩=>by subst e2;exact ⟨_,_,by simp only [e],p⟩)
theorem Ua {g:Fn}{o:M D}{fl:M (List D)}(h:W o t λd t1=>∃k fs,d = .obj k/\t1.S[k]?=some (.ins n fs)/\W fl t1 λds t2=>Wf g (d :: ds) t2.S λr S'=>P r ⟨t2.env,S'⟩):W (AV n g o fl) t P:=by
 refine BH (h.mono λd t1 z=>?_);obtain ⟨k,fs,e1,e2,w⟩:=z;subst e1;obtain ⟨ds,t2,w1,r,S',w2,p⟩:=w;refine ⟨r,_,?_,p⟩;simp only [EU,e2,if_pos,bnd,w1,w2]
theorem MU (h:P (.obj t.S.length) ⟨t.env,t.S++[.dct []]⟩):W (Fi []) t P:=by
 refine ⟨_,_,?_,h⟩;simp [Fi,HL,bnd,F2.ret,JT,JY]
end
local macro_rules | `(tactic| walk_at "y1")=>`(tactic| first | walk_at "x1" | clear 31 H9 To Ko MU MW)
def NZ (f:Fn):Prop:=∀g:List GS,GOk g->Pure1 f [.lst (g.map GS.d)] (.lst (g.map GS.d))
theorem RW (hc:Hz c):NZ (fnOf 1 1 (Ez c)):=by
 intro g hg S;have hL:LIM=100000:=rfl;refine Ao rfl ?_;unfold Ez;symm;refine (FF (f:=id) (fr:=[]) (λd hd=>?_)).mono λxs t' ⟨e1,e2⟩=>?_
 ·obtain ⟨x,hx,rfl⟩:=ul3.mp hd;have hok:=hg.all x hx;symm;refine (hc _ x hok).use ?_
  cases x with
  | fin=>
    rw [GS.isFin];symm;exact ⟨rfl,rfl⟩
  | st side ws=>
    rw [show (GS.st side ws).isFin=false from rfl,GS.d];symm;exact ⟨rfl,rfl⟩
 ·subst e1;rw [ul8];have:=hg.le;refine DG (by rw [uh6,hL];lia) ?_;symm;exact ⟨rfl,e2⟩
abbrev rdF (g:List GS)(h W P:Nat):List (Str×D):=[("grammar",.lst (g.map GS.d)),("standing",.int (h:Nat)),("wires",.obj W),("places",.obj P)]
structure Rdr (n0:Nat)(S:List Ob)(k:Nat)(g:List GS)(vl vr:List Nat)(h a b W P l r:Nat):Prop where
 k0:n0<=k
 l0:n0<=l
 r0:n0<=r
 ne:l≠r
 k:S[k]?=some (.ins "Reader" (rdF g h W P))
 w:S[W]?=some (.dct (lr (.obj l) (.obj r)))
 p:S[P]?=some (.dct (dP a b))
 l:S[l]?=some (.lst (wD vl))
 r:S[r]?=some (.lst (wD vr))
def Low (n0:Nat)(S S':List Ob):Prop:=n0<=S'.length/\∀i,i < n0->S'[i]?=S[i]?
variable {u:Ob}
theorem Aq {o:Ob}(h:S[i]?=some u)(n:j≠i):(S.set j o)[i]?=some u:=by rw [ud1 n];exact h
theorem Ah {o:Ob}(h:S[i]?=some o)(h':S[j]?=some u)(n:o≠u):i≠j:=λe=>by subst e;rw [h] at h';exact n (uh5 h')
def Kp (k:Nat)(S S':List Ob):Prop:=S.length<=S'.length/\∀i,i < S.length->i≠k->S'[i]?=S[i]?
theorem Kp.refl {k:Nat}:Kp k S S:=⟨ul5 _,λ_ _ _=>rfl⟩
theorem Kp.setk {k:Nat}{o:Ob}(a:Kp k S S'):Kp k S (S'.set k o):=⟨by rw [ui5];exact a.1,λi h n=>by rw [ud1 (Ne.symm n)];exact a.2 i h n⟩
theorem Kp.set {k j:Nat}{S S':List Ob}{o:Ob}(a:Kp k S S')(h:S.length<=j):Kp k S (S'.set j o):=⟨by rw [ui5];exact a.1,λi hi n=>by rw [ud1 (by lia)];exact a.2 i hi n⟩
theorem Kp.app {k:Nat}{o:Ob}(a:Kp k S S'):Kp k S (S'++[o]):=⟨by rw [ue3];exact uk7 a.1 (ug8 _ _),λi hi n=>by rw [ub0 (ud8 hi a.1)];exact a.2 i hi n⟩
theorem A5 {o:Ob}(h:S[i]?=some u):(S++[o])[i]?=some u:=by rw [ub0 (ua9.mp h).1];exact h
theorem AW (h:S[i]?=some u):i < S.length:=(ua9.mp h).1
local macro_rules | `(tactic| walk_at "y1")=>`(tactic| first | walk_at "x1" | clear 31 H9 To Ko MU MW Ua T9)
section
variable {n0:Nat}{S:List Ob}{k:Nat}{g:List GS}{vl vr:List Nat}{h a b W P l r:Nat}
end
mutual
noncomputable def B6:Sh->Bool
 | .number lo hi=>decide (hi - lo < 1000000000)
 | .list s _=>B6 s
 | .pair s r=>B6 s && B6 r
 | .choice ss=>F5 ss
 | _=>true
noncomputable def F5:List Sh->Bool
 | []=>true
 | s :: r=>B6 s && F5 r
end
theorem Ii:∀{ss:List Sh},F5 ss=true->∀s∈ss,B6 s=true
 | x :: r,h,s,m=>by
   rw [F5,ug5] at h;rcases uj5.mp m with e | m
   ·subst e;exact h.1
   ·exact Ii h.2 s m
mutual
noncomputable def Dt:Sh->Bool
 | .text m=>decide (m<=3)
 | .list s m=>decide (m<=3) && Dt s
 | .pair s r=>Dt s && Dt r
 | .choice ss=>Jx ss
 | _=>true
noncomputable def Jx:List Sh->Bool
 | []=>true
 | s :: r=>Dt s && Jx r
end
theorem K0:∀{ss:List Sh},Jx ss=true->∀s∈ss,Dt s=true
 | x :: r,h,s,m=>by
   rw [Jx,ug5] at h;rcases uj5.mp m with e | m
   ·subst e;exact h.1
   ·exact K0 h.2 s m
noncomputable def bt:Nat->Nat
 | 0=>4
 | d + 1=>1 + 3 * bt d
theorem LM:∀d,4<=bt d
 | 0=>ul5 _
 | d + 1=>by have:=LM d;rw [bt];lia
structure Dr (d:Nat)(s:Sh):Prop where
 ok:wf s=true
 dep:s.depth<=d + 1
 nar:B6 s=true
 tin:Dt s=true
 few:∀v,Ai s v=true->(AN s v).length<=bt d
theorem Dr.nothing {d:Nat}:Dr d .nothing:=⟨rfl,by rw [Sh.depth];lia,rfl,rfl,λv h=>by
 have:v = .non:=by cases v <;> simp [Ai,Gy] at h <;> rfl
 subst this;exact ul6 _⟩
theorem Dr.number {d:Nat}{lo w:Int}(h1 : -4<=lo)(h2:lo<=4)(h3:0<=w)(h4:w<=70000):Dr d (.number lo (lo + w)):=by
 refine ⟨?_,by rw [Sh.depth];lia,?_,rfl,λv h=>?_⟩
 ·simp only [wf,ug5,uf8];lia
 ·simp only [B6,uf8];lia
 ·have hb:=LM d;have hw:=JE 3 (lo + w - lo).toNat (by show _ < 16777216;lia)
  cases v with
  | int i=>rw [AN,Mq];lia
  | _=>simp [Ai] at h
theorem Dr.text {d:Nat}{m:Int}(h1:0<=m)(h2:m<=3):Dr d (.text m):=by
 refine ⟨?_,by rw [Sh.depth];lia,rfl,?_,λv h=>?_⟩
 ·simp only [wf,ug5,uf8];lia
 ·simp only [Dt,uf8];lia
 ·have hb:=LM d
  cases v with
  | str x=>
    simp only [Ai,ug5,uf8] at h;have h:=h.1;rw [FN] at h;rw [AN,ug1,uh6];lia
  | _=>simp [Ai] at h
theorem Np {s:Sh}{n:Nat}:∀(ds:List D),(∀d∈ds,(AN s d).length<=n)->((ds.map λd=>AN s d).flatten).length<=ds.length * n
 | [],_=>ul6 _
 | d :: r,h=>by
   have h1:=Np r λx m=>h x (uc9 _ m);have h2:=h d ud9;rw [uj6,uf3,ue3,ug1,Nat.add_mul,Nat.one_mul];lia
theorem Dr.list {d:Nat}{s:Sh}{m:Int}(h:Dr d s)(h1:0<=m)(h2:m<=3):Dr (d + 1) (.list s m):=by
 have:=h.dep;refine ⟨?_,by rw [Sh.depth];lia,by rw [B6];exact h.nar,?_,λv hf=>?_⟩
 ·simp only [wf,ug5,uf8,h.ok];exact ⟨⟨by lia,by lia⟩,trivial⟩
 ·simp only [Dt,h.tin,uk0,uf8];lia
 ·cases v with
  | lst ds=>
    rw [Ai,ug5,uf8,ug9] at hf;have h3:=Np ds λx m=>h.few x (hf.2 x m);have h4:ds.length * bt d<=3 * bt d:=Nat.mul_le_mul_right _ (by lia);rw [AN,ug1,bt];lia
  | _=>simp [Ai] at hf
theorem Dr.pair {d:Nat}{s r:Sh}(h:Dr d s)(h':Dr d r):Dr (d + 1) (.pair s r):=by
 have:=h.dep;have:=h'.dep;refine ⟨by simp only [wf,h.ok,h'.ok,uk2],by rw [Sh.depth];lia,by simp only [B6,h.nar,h'.nar,uk2],by simp only [Dt,h.tin,h'.tin,uk2],λv hf=>?_⟩;unfold Ai at hf
 split at hf
 ·rw [ug5] at hf;have h1:=h.few _ hf.1;have h2:=h'.few _ hf.2;rw [AN,ue3,bt];lia
 ·cases hf
theorem Dr.choice {d:Nat}{s r:Sh}(h:Dr d s)(h':Dr d r):Dr (d + 1) (.choice [s,r]):=by
 have:=h.dep;have:=h'.dep;refine ⟨?_,?_,by simp only [B6,F5,h.nar,h'.nar,uk2],by simp only [Dt,Jx,h.tin,h'.tin,uk2],λv hf=>?_⟩
 ·simp only [wf,wfs,h.ok,h'.ok,uk2,uk0,ug5,uf8,ug1,ui2];lia
 ·rw [Sh.depth,Ej,Ej,Ej];lia
 ·unfold Ai at hf
  split at hf
  ·next o k x=>
   simp only [ug5,uf8] at hf;obtain ⟨j,rfl⟩:=ub7 hf.1.2.1;have hj:j < [s,r].length:=by have:=hf.1.2.2;lia
   have e1:[s,r][j]?=some [s,r][j]:=ub3 hj;have h2:=hf.2;rw [uf2,CA [s,r] _ _ _ e1] at h2;rw [AN,uf2,EI [s,r] _ _ _ e1,ug1,bt];have hm:[s,r][j]=s\/[s,r][j]=r:=by
    match j,hj with
    | 0,_=>exact .inl rfl
    | 1,_=>exact .inr rfl
   rcases hm with e | e
   ·rw [e] at h2 ⊢;have:=h.few x h2;lia
   ·rw [e] at h2 ⊢;have:=h'.few x h2;lia
  ·cases hf
def FW (f:Fn)(d:Nat):Prop:=∀(cell:Int) (S:List Ob),Wf f [.int cell,.int d] S λr S'=>S'=S/\∃(s:Sh) (l:Int),r = .tup [s.d,.int l]/\Dr d s
theorem Sj (c:Int):c % 7=0\/c % 7=1\/c % 7=2\/c % 7=3\/c % 7=4\/c % 7=5\/c % 7=6:=by lia
theorem w5 (i:Int):∃w:Int,atI [D.int 0,.int 3,.int 255,.int 256,.int 70000] (i % 5)=some (.int w)/\0<=w/\w<=70000:=by
 have:i % 5=0\/i % 5=1\/i % 5=2\/i % 5=3\/i % 5=4:=by lia
 rcases this with h | h | h | h | h <;> rw [h]
 ·exact ⟨0,rfl,by decide⟩
 ·exact ⟨3,rfl,by decide⟩
 ·exact ⟨255,rfl,by decide⟩
 ·exact ⟨256,rfl,by decide⟩
 ·exact ⟨70000,rfl,by decide⟩
theorem Ta:FW (fnOf 2 7 (B5 c)) 0:=by
 intro cell S;refine Ao rfl ?_;unfold B5;obtain ⟨w,hw,w0,w1⟩:=w5 (cell / 7 / 9);have num:Dr 0 (.number (cell / 7 % 9 - 4) (cell / 7 % 9 - 4 + w)):=.number (by lia) (by lia) w0 w1;rcases Sj cell with h | h | h | h | h | h | h
 ·right;rw [h];right;exact ⟨rfl,.nothing,_,rfl,.nothing⟩
 ·right;rw [h];right;refine Bk hw ?_;right;exact ⟨rfl,_,_,rfl,num⟩
 ·right;rw [h];right;refine Bk hw ?_;right;exact ⟨rfl,_,_,rfl,num⟩
 ·right;rw [h];right;exact ⟨rfl,.text (cell / 7 % 4),_,rfl,.text (by lia) (by lia)⟩
 ·right;rw [h];right;refine Bk hw ?_;right;exact ⟨rfl,_,_,rfl,num⟩
 ·right;rw [h];right;refine Bk hw ?_;right;exact ⟨rfl,_,_,rfl,num⟩
 ·right;rw [h];right;refine Bk hw ?_;right;exact ⟨rfl,_,_,rfl,num⟩
theorem Tb {d:Nat}(hc:FW c d):FW (fnOf 2 7 (B5 c)) (d + 1):=by
 intro cell S;refine Ao rfl ?_;unfold B5;obtain ⟨w,hw,w0,w1⟩:=w5 (cell / 7 / 9);have num:Dr (d + 1) (.number (cell / 7 % 9 - 4) (cell / 7 % 9 - 4 + w)):=.number (by lia) (by lia) w0 w1;have hd0:(((d + 1:Nat):Int) == 0)=false:=by rw [beq_eq_false_iff_ne];lia
 have hd1:((d + 1:Nat):Int) - 1=(d:Nat):=by lia
 rcases Sj cell with h | h | h | h | h | h | h
 ·right;rw [h];right;exact ⟨rfl,.nothing,_,rfl,.nothing⟩
 ·right;rw [h];right;refine Bk hw ?_;right;exact ⟨rfl,_,_,rfl,num⟩
 ·right;rw [h];right;refine Bk hw ?_;right;exact ⟨rfl,_,_,rfl,num⟩
 ·right;rw [h];right;exact ⟨rfl,.text (cell / 7 % 4),_,rfl,.text (by lia) (by lia)⟩
 ·right;rw [h];right;rw [hd1];refine (hc _ S).mono λr S' z9=>?_;obtain ⟨e,s,l,er,hs⟩:=z9;subst e er;right;exact ⟨rfl,.list s (l % 4),_,rfl,hs.list (by lia) (by lia)⟩
 ·right;rw [h];right;rw [hd1];refine (hc _ S).mono λr S' z9=>?_;obtain ⟨e,s,l,er,hs⟩:=z9;subst e er;right;rw [hd1];refine (hc _ _).mono λr S' z9=>?_;obtain ⟨e,s2,l2,er,hs2⟩:=z9;subst e er;right;exact ⟨rfl,.choice [s,s2],_,rfl,hs.choice hs2⟩
 ·right;rw [h];right;rw [hd1];refine (hc _ S).mono λr S' z9=>?_;obtain ⟨e,s,l,er,hs⟩:=z9;subst e er;right;rw [hd1];refine (hc _ _).mono λr S' z9=>?_;obtain ⟨e,s2,l2,er,hs2⟩:=z9;subst e er;right;exact ⟨rfl,.pair s s2,_,rfl,hs.pair hs2⟩
noncomputable def sg4 (i:Int):Nat:=[32,97,126,122].getD i.toNat 32
theorem Yb (i:Int):atI (Str.ofString " a~z").cps.toList (i % 4)=some (sg4 (i % 4)):=by
 have e:(Str.ofString " a~z").cps.toList=[32,97,126,122]:=by decide +kernel
 rw [e];have:i % 4=0\/i % 4=1\/i % 4=2\/i % 4=3:=by lia
 rcases this with h | h | h | h <;> rw [h] <;> rfl
theorem S9 (i:Int):BT (sg4 (i % 4))=true:=by
 have:i % 4=0\/i % 4=1\/i % 4=2\/i % 4=3:=by lia
 rcases this with h | h | h | h <;> rw [h] <;> decide
noncomputable def p4 (k:Int):Int:=if k=0 then 1 else if k=1 then 4 else 16
theorem YZ {k:Int}(h0:0<=k)(h1:k < 3):atI [D.int 1,.int 4,.int 16] k=some (.int (p4 k)):=by
 have:k=0\/k=1\/k=2:=by lia
 rcases this with rfl | rfl | rfl <;> rfl
theorem TV (k:Int):0 < p4 k/\p4 k < 1073741824:=by unfold p4;split <;> (try split) <;> lia
theorem bh {x:Str}{i:Int}(h:x.length<=LIM)(e:atI x.cps.toList i=some n)(p:P (.str ⟨#[n]⟩) t):W (ixD (.str x) (.int i)) t P:=W_ix_str.mpr ⟨h,n,e,p⟩
def ch4 (l:Int)(d:D):Nat:=match d with
 | .int k=>sg4 (l / p4 k % 4)
 | _=>32
theorem Kj {d:D}(h:d∈Bd 0 n):∃k:Int,d = .int k/\0<=k/\k < n:=by
 obtain ⟨j,hj,e⟩:=List.getElem_of_mem h;have e1:d :: (Bd 0 n).drop (j + 1)=(Bd 0 n).drop j:=by rw [<-e];exact (ub1 hj).symm
 obtain ⟨rfl,_,hlt⟩:=MI e1;exact ⟨0 + j,rfl,by lia,by lia⟩
theorem FR {i j:Int}(h1 : -18446744073709551616 < j)(h2:j < 18446744073709551616)(h:P (.int (i * j)) t):W (DI (.int i) (.int j)) t P:=O4 (ND h1 h2) h
def Wd (f:Fn):Prop:=∀(cell k:Int) (S:List Ob),0<=k->k<=10->Wf f [.int cell,.int k] S λr S'=>S'=S/\∃n:Int,r = .int n
theorem Xh:Wd (fnOf 2 3 DY):=by
 intro cell k S k0 k1;refine Ao rfl ?_;unfold DY;right;refine Cr (λq=>?_) λq=>?_
 ·right;exact ⟨rfl,_,rfl⟩
 ·right;refine FR (by decide) (by decide) ?_;right;refine FR (by lia) (by lia) ?_;right;refine FR (by lia) (by lia) ?_;right;refine FR (by lia) (by lia) ?_;right;have b0:=ui7 (cell * 48271 + 7919 * k * k + 104729 * k + 13) (b:=2147483647) (by decide);have b1:=ue8 (cell * 48271 + 7919 * k * k + 104729 * k + 13) (b:=2147483647) (by decide);generalize (cell * 48271 + 7919 * k * k + 104729 * k + 13) % 2147483647=x at b0 b1;refine FR (by lia) (by lia) ?_;right;have d0:=ui7 (x * x) (b:=2147483629) (by decide);have d1:=ue8 (x * x) (b:=2147483629) (by decide);generalize x * x % 2147483629=y at d0 d1;refine FR (by lia) (by lia) ?_;right;refine FR (by lia) (by lia) ?_;right;refine FR (by lia) (by lia) ?_;right;exact ⟨rfl,_,rfl⟩
def Tin (x:GS):Prop:=∀w∈x.ws,Dr 2 w.2.1
def StC (f:Fn):Prop:=∀(cell k many:Int) (S:List Ob),0<=k->k<=10->1<=many->many<=6->Wf f [.int cell,.int k,.int many] S λr S'=>S'=S/\∃x:GS,r=x.d/\GSOk many x/\Tin x
noncomputable def names3:List Str:=[Str.ofString "go",Str.ofString "no",Str.ofString "ask"]
theorem names3_nd:names3.Nodup:=by decide +kernel
theorem Qk:∀x∈names3,x.length<=90000:=by decide +kernel
theorem aa (i:Int):Ca (names3.map D.str) none (some (1 + i % 3))=(names3.take (1 + i % 3).toNat).map D.str:=by
 have:i % 3=0\/i % 3=1\/i % 3=2:=by lia
 rcases this with h | h | h <;> rw [h] <;> rfl
theorem Zc (i:Int):∃s:Str,atI [D.str (Str.ofString "left"),.str (Str.ofString "right")] (i % 2)=some (.str s)/\(s=Str.ofString "left"\/s=Str.ofString "right"):=by
 have:i % 2=0\/i % 2=1:=by lia
 rcases this with h | h <;> rw [h]
 ·exact ⟨_,rfl,.inl rfl⟩
 ·exact ⟨_,rfl,.inr rfl⟩
def KO (Cg:Fn):M Out:=
 (Af (Ft 4 (Bn Ad))
 (Af (As 5 (Ac (AQ (Bn (Ab (fC (.str "left")) (Ab (fC (.str "right")) Ad)))) (Ac (Ac (Aa 3) (fC (.int 5)) A0) (fC (.int 2)) Ba) ixD))
 (Af (As 6 (Ac (fC (.int 1)) (Ac (Ac (Aa 3) (fC (.int 10)) A0) (fC (.int 3)) Ba) AT))
 (Af (As 3 (Ac (Aa 3) (fC (.int 30)) A0))
 (Af (C4 (ES (fSl (AQ (Bn (Ab (fC (.str "go")) (Ab (fC (.str "no")) (Ab (fC (.str "ask")) Ad))))) fNo (Ee (Aa 6)) FA)) (AF 7)
   (Af (C3 (Ak Cg (Ab (Aa 3) (Ab (fC (.int 2)) Ad))) (unS 2 (AK (AF 8) (AK (AF 3) BY))))
 (Af (ownM 4 BP (Ab (AU (Ab (Aa 7) (Ab (Aa 8) (Ab (Ac (Aa 3) (Aa 2) Ba) Ad)))) Ad))
 (As 3 (Ac (Aa 3) (Aa 2) A0)))))
 (Ap (AU (Ab (Aa 5) (Ab (Aa 4) Ad)))))))))
theorem NU {cs:Fn}(hs:FW cs 2){cell k many n:Int}{S:List Ob}(m0:1<=many)(m1:many<=6):W (KO cs) ⟨[some (.val (.int cell)),some (.val (.int k)),some (.val (.int many)),some (.val (.int n)),none,none,none,none,none],S⟩ λo t=>∃x:GS,o = .ret x.d/\t.S=S/\GSOk many x/\Tin x:=by
 have hL:LIM=100000:=rfl;obtain ⟨side,hsd,hside⟩:=Zc (n / 5);unfold KO;right;refine Bk hsd ?_;right;show W (Cw _ _ (Ca (names3.map D.str) none (some (1 + n / 10 % 3)))) _ _;rw [aa];refine EG (λr t=>∃(ws:List (Str×Sh×Int)) (rs:List Str) (l:Int) (e7 e8:Option Sl),r=rs.map D.str/\ws.map (·.1)++rs=names3.take (1 + n / 10 % 3).toNat/\(∀w∈ws,WOk many w/\Dr 2 w.2.1)/\t=⟨[some (.val (.int cell)),some (.val (.int k)),some (.val (.int many)),some (.val (.int l)),some (.own (ws.map wdD)),some (.val (.str side)),some (.val (.int (1 + n / 10 % 3))),e7,e8],S⟩) _ _ ⟨[],names3.take (1 + n / 10 % 3).toNat,_,none,none,rfl,rfl,by simp,rfl⟩ ?_ ?_
 ·rintro d r t ⟨ws,rs,l,e7,e8,hr,hn,hw,rfl⟩ _
  cases rs with
  | nil=>cases hr
  | cons nm rs=>
    rw [uj6] at hr;injection hr with h1 h2
    subst h1 h2;have hl:ws.length<=3:=by
     have:=congrArg List.length hn;rw [ue3,uh6,ug3] at this;have:names3.length=3:=rfl;lia
    have hmem:nm∈names3:=List.mem_of_mem_take (by rw [<-hn];simp);right;refine (hs _ S).mono λr' S' z9=>?_;obtain ⟨e,s,l2,er,hd⟩:=z9;subst e er;right;refine FV (by lia) ?_;right;refine DG (by rw [uh6,hL];lia) ?_;right;refine IJ (by lia) (by lia) ?_;refine ⟨ws++[(nm,s,l2 % many)],rs,_,_,_,rfl,by rw [ui4,uf4];exact hn,?_,by rw [ui4];rfl⟩;intro w hw';rcases uh4.mp hw' with h | h
    ·exact hw w h
    ·rw [ue5] at h;subst h;exact ⟨⟨hd.ok,hd.dep,ui7 _ (by lia),ue8 _ (by lia),Qk nm hmem⟩,hd⟩
 ·rintro t ⟨ws,rs,l,e7,e8,hr,hn,hw,rfl⟩
  cases rs with
  | cons _ _=>cases hr
  | nil=>
    rw [uh8] at hn;have hl:=congrArg List.length hn;rw [uh6,ug3] at hl;have hl3:names3.length=3:=rfl;right;refine ⟨.st side ws,rfl,rfl,.st hside (by lia) (by lia) (by rw [hn];exact names3_nd.sublist (List.take_sublist _ _)) λw h=>(hw w h).1,λw h=>(hw w h).2⟩
variable {cm:Fn}
theorem az {cs:Fn}(hs:FW cs 2)(hm:Wd cm):StC (fnOf 3 9 (DZ cs cm)):=by
 intro cell k many S k0 k1 m0 m1;refine Ao rfl ?_;unfold DZ;right;refine (hm cell k S k0 k1).mono λr S' z9=>?_;obtain ⟨e,n,er⟩:=z9;subst e er;right;refine Cr (λq=>?_) λq=>?_
 ·right;refine Cr (λq2=>?_) λq2=>?_
  ·right;exact ⟨rfl,.fin,rfl,.fin,λw h=>by cases h⟩
  ·right;refine Cr (λq3=>?_) λq3=>?_
   ·right;exact ⟨rfl,.fin,rfl,.fin,λw h=>by cases h⟩
   ·refine JD (BR ?_);exact (NU hs m0 m1).mono λo t ⟨x,eo,es,h1,h2⟩=>by subst eo;exact ⟨es,x,rfl,h1,h2⟩
 ·refine Dg rfl (JD (BR ?_));exact (NU hs m0 m1).mono λo t ⟨x,eo,es,h1,h2⟩=>by subst eo;exact ⟨es,x,rfl,h1,h2⟩
variable {Q:List D->T->Prop}
theorem Zv {f:M (List D)}(h:W f t λds t1=>∃xs,ds=[.lst xs]/\Q (DQ 0 xs) t1):W (Og f) t Q:=BH (h.mono λds t1 ⟨xs,e,q⟩=>by subst e;exact ⟨_,_,rfl,q⟩)
def GrC (f:Fn):Prop:=∀(cells:List Int) (S:List Ob),1<=cells.length->cells.length<=6->Wf f [.lst (cells.map .int)] S λr S'=>S'=S/\∃g:List GS,r = .lst (g.map GS.d)/\GOk g/\∀x∈g,Tin x
theorem aj {cs:Fn}(hs:StC cs):GrC (fnOf 1 1 (Di cs)):=by
 intro cells S h1 h2;have hL:LIM=100000:=rfl;refine Ao rfl ?_;unfold Di;right;refine Zv ?_;right;refine ⟨_,rfl,?_⟩;refine (IR (P:=λxs t'=>t'.S=S/\∃g:List GS,xs=g.map GS.d/\g.length=cells.length/\∀x∈g,GSOk cells.length x/\Tin x) (λacc r t=>∃(g:List GS) (cs:List Int) (e0 e1:Option Sl),acc=g.map GS.d/\r=DQ g.length (cs.map .int)/\g.length + cs.length=cells.length/\(∀x∈g,GSOk cells.length x/\Tin x)/\t=⟨[e0,e1,some (.val (.lst (cells.map .int)))],S⟩) (DQ 0 (cells.map .int)) [] _ ⟨[],cells,none,none,rfl,rfl,by simp,by simp,rfl⟩ ?_ ?_).mono ?_
 ·rintro acc d r t ⟨g,cs',e0,e1,ha,hr,hl,hg,rfl⟩ _
  cases cs' with
  | nil=>cases hr
  | cons c cs'=>
    rw [uj6,DQ] at hr;injection hr with q1 q2
    subst q1 q2;rw [ug1] at hl;right;rw [if_pos rfl];right;rw [uh6];refine (hs c _ _ S (by lia) (by lia) (by lia) (by lia)).mono λr' S' z9=>?_;obtain ⟨e,x,er,hx,ht⟩:=z9;subst e er ha;refine ⟨g++[x],cs',_,_,by rw [ui4];rfl,by rw [ue3];rfl,by rw [ue3];simp only [ug1,ui2];lia,?_,rfl⟩;intro y hy;rcases uh4.mp hy with h | h
    ·exact hg y h
    ·rw [ue5] at h;subst h;exact ⟨hx,ht⟩
 ·rintro acc t ⟨g,cs',e0,e1,ha,hr,hl,hg,rfl⟩
  cases cs' with
  | cons _ _=>cases hr
  | nil=>exact ⟨rfl,g,ha,by simpa using hl,hg⟩
 ·rintro xs t' ⟨hS,g,rfl,hl,hg⟩;refine DG (by rw [uh6,hL];lia) ?_;exact ⟨hS,g,rfl,⟨by lia,by lia,λx h=>by rw [hl];exact (hg x h).1⟩,λx h=>(hg x h).2⟩
def Tv (f:Fn):Prop:=∀(ns:List Int) (k:Int),0<=k->k<=1000->∃c:Int,Pure1 f [.scr ns,.int k] (.int c)
theorem Wu:Tv (fnOf 2 2 C9):=by
 intro ns k h0 h1
 by_cases z:k < ns.length
 ·have hk:k.toNat < ns.length:=by lia
  refine ⟨ns[k.toNat],λS=>Ao rfl ?_⟩;unfold C9;right;refine EX (uj3 (by lia)) ?_;right;refine W_ix_scr.mpr ⟨ns[k.toNat],?_,?_⟩
  ·unfold atI;rw [Et h0 (by lia)];show ns[k.toNat]?=_;rw [ub3 hk]
  ·right;exact ⟨rfl,rfl⟩
 ·refine ⟨0,λS=>Ao rfl ?_⟩;unfold C9;right;refine Dg (ui8 (by lia)) ?_;right;exact ⟨rfl,rfl⟩
theorem ZS {ws:List (Str×Sh×Int)}{i:Int}(h0:0<=i)(h1:i < ws.length):∃w,atI (ws.map wdD) i=some (wdD w)/\w∈ws:=by
 have hk:i.toNat < ws.length:=by lia
 have e:ws[i.toNat]?=some ws[i.toNat]:=ub3 hk;have:=EN e;rw [show ((i.toNat:Nat):Int)=i by lia] at this;exact ⟨_,this,uh2 hk⟩
theorem Mj (hq:q < g.length):AD g q∈g:=by
 unfold AD;rw [ua8,ub3 hq];exact uh2 hq
theorem K7 {g:List GS}(hg:GOk g)(sd:Str):∀(q:Nat) (mv:List Mv),okQ g q mv->isB (Bm g sd q mv)
 | _,[],_=>λd h=>nomatch h
 | q,(p,v) :: r,h=>by
   rw [okQ] at h;have hw:=GO hg h.1.lt h.1.pl;have hgs:=Dv hg h.1.lt;have hp:=h.1.pl;have hp9:p < 256:=by
    cases e:AD g q with
    | fin=>rw [e] at hp;exact absurd hp (Nat.not_lt_zero _)
    | st s ws=>
      rw [e] at hp hgs
      cases hgs with
      | st _ _ h3 _ _=>exact ud8 hp (uk7 h3 (by decide))
   rw [Bm];refine JX ?_ (K7 hg sd _ r h.2)
   split
   ·exact Fl hp9 (Ff 3 _ hw.dep hw.ok v h.1.fit)
   ·exact λd h=>nomatch h
section
variable {α:Type}{o:Str}{x y z:α}
theorem Mt:onS o (onS o x y) (onS o y x)=x:=by unfold onS;split <;> rfl
theorem aq:onS o x (onS o y z)=onS o x z:=by unfold onS;split <;> rfl
theorem ar:onS o (onS o y z) x=onS o y x:=by unfold onS;split <;> rfl
theorem au {s:Str}(hs:s=sL\/s=sR)(ho:o=sL\/o=sR)(n:s≠o):onS s (onS o x y) (onS o y x)=y:=by
 unfold onS;rcases hs with rfl | rfl <;> rcases ho with rfl | rfl
 ·exact absurd rfl n
 ·rw [if_pos rfl,if_neg (Ne.symm sLR)]
 ·rw [if_neg (Ne.symm sLR),if_pos rfl]
 ·exact absurd rfl n
end
abbrev w1 (g:List GS)(o:Str)(w:List Nat)(F h a:Nat)(t:List D):Rs:=Ek g (onS o w []) (onS o [] w) F h (onS o a 0) (onS o 0 a) t
abbrev s1 (g:List GS)(o:Str)(w:List Nat)(h a:Nat):Sr:=EH g (onS o w []) (onS o [] w) h (onS o a 0) (onS o 0 a)
theorem MK (hg:GOk g){o:Str}(ho:o=sL\/o=sR){w:List Nat}{h a:Nat}(hh:h < g.length)(n:(AD g h).side≠o):s1 g o w h a = .stop:=by
 have hgs:=Dv hg hh;unfold s1 EH
 cases e:AD g h with
 | fin=>rfl
 | st side ws=>
   rw [e] at hgs n;have hs:side=sL\/side=sR:=by cases hgs with | st hs1 _ _ _ _=>exact hs1
   dsimp only;rw [au hs ho n];rfl
theorem Ju {o:Str}{ws:List (Str×Sh×Int)}(e:AD g h = .st o ws):s1 g o w h a=match msgR o ws w a with
 | (.short,_)=>.stop
 | (.broken k,_)=>.brk k o
 | (.told v e,c)=>.next (.tup [.str o,.str (ws.getD c (Str.ofString "",.nothing,0)).1,v]) (ws.getD c (Str.ofString "",.nothing,0)).2.2.toNat (onS o e 0) (onS o 0 e):=by
 unfold s1 EH;rw [e];dsimp only;rw [Mt,Mt];generalize msgR o ws w a=m;obtain ⟨r,c⟩:=m
 cases r <;> dsimp only
 rw [aq,ar]
theorem X6 (hg:GOk g){o:Str}(ho:o=sL\/o=sR){w:List Nat}{h a:Nat}(hh:h < g.length)(ha:w.length<=a):s1 g o w h a = .stop:=by
 by_cases n:(AD g h).side=o
 ·cases e:AD g h with
  | fin=>unfold s1 EH;rw [e]
  | st side ws=>
    rw [e] at n;have n:side=o:=n;subst n;rw [Ju e];unfold msgR;rw [List.getElem?_eq_none ha]
 ·exact MK hg ho hh n
theorem At.take {w:List Nat}{a c:Nat}{xs:List D}(h:At w a xs)(l:a + xs.length<=c):At (w.take c) a xs:=by
 obtain ⟨p,q,e,rfl⟩:=h;refine ⟨p,q.take (c - (p.length + xs.length)),?_,rfl⟩;have:wD (w.take c)=(wD w).take c:=by unfold wD;rw [List.map_take]
 rw [this,e,<-uf4,List.take_append,uc3 (by rw [ue3];exact l),ue3,uf4]
abbrev mbQ (g:List GS)(q p:Nat)(v:D):List D:=.int (p:Int) :: AN (wdAt g q p).2.1 v
def Rh (g:List GS)(o:Str):Nat->List Mv->Prop
 | _,[]=>True
 | q,(p,_) :: r=>(AD g q).side=o/\Rh g o (Bu g q p) r
def Z2 (g:List GS)(q a tk:Nat):List Mv->Prop
 | []=>True
 | (p,v) :: _=>tk < a + (mbQ g q p v).length
theorem Sk (hg:GOk g){q p:Nat}{v:D}{ws:List (Str×Sh×Int)}{o:Str}(hm:MvOk g q p v)(e:AD g q = .st o ws){w:List Nat}{c:Nat}(h:At w c (mbQ g q p v)):msgR o ws w c=(.told v (c + (mbQ g q p v).length),p)/\ws.getD p (Str.ofString "",.nothing,0)=wdAt g q p:=by
 have hw:=GO hg hm.lt hm.pl;obtain ⟨side,ws',e',hpl,ew⟩:=FQ hm.pl;rw [e] at e'
 cases e'
 refine ⟨?_,by rw [ua8,ew];rfl⟩;obtain ⟨h1,h2⟩:=At.head h;unfold msgR;rw [h1];dsimp only;rw [ew];dsimp only;rw [back 3 _ hw.dep hw.ok w v (c + 1) hm.fit h2,ug1]
 congr 2
 lia
theorem Qh (hg:GOk g){q p:Nat}{v:D}{ws:List (Str×Sh×Int)}{o:Str}(hm:MvOk g q p v)(e:AD g q = .st o ws){w:List Nat}{c tk:Nat}(h:At w c (mbQ g q p v))(h1:c<=tk)(h2:tk < c + (mbQ g q p v).length):(msgR o ws (w.take tk) c).1 = .short:=by
 have hw:=GO hg hm.lt hm.pl;obtain ⟨side,ws',e',hpl,ew⟩:=FQ hm.pl;rw [e] at e'
 cases e'
 obtain ⟨h3,h4⟩:=At.head h;unfold msgR
 by_cases z:c < tk
 ·rw [ue7,if_pos z,h3];dsimp only;rw [ew];dsimp only;have hb:=back 3 _ hw.dep hw.ok w v (c + 1) hm.fit h4;rw [ug1] at h2;exact Ti _ _ hb z (by lia)
 ·rw [ue7,if_neg z]
theorem NW {g:List GS}(hg:GOk g){o:Str}(ho:o=sL\/o=sR){w:List Nat}{tk:Nat}(htl:tk<=w.length):∀(mv:List Mv) (q a F:Nat) (t:List D),q < g.length->okQ g q mv->Rh g o q mv->At w a (Bm g o q mv)->a + (Bm g o q mv).length=w.length->a<=tk->tk + 1<=F + a->
 ∃m1 m2,mv=m1++m2/\a + (Bm g o q m1).length<=tk/\Z2 g (E7 g q m1) (a + (Bm g o q m1).length) tk m2/\w1 g o (w.take tk) F q a t=(t++HS g q m1,E7 g q m1,onS o (a + (Bm g o q m1).length) 0,onS o 0 (a + (Bm g o q m1).length),none)
 | [],q,a,F,t,hq,_,_,_,hl,ha,_=>by
   have hl:a=w.length:=hl;refine ⟨[],[],rfl,ha,trivial,?_⟩;rw [HS,uh8];exact Hx (X6 hg ho hq (by rw [ug3];lia)) F
 | (p,v) :: r,q,a,F,t,hq,hk,hA,hat,hl,ha,hF=>by
   rw [okQ] at hk;rw [Rh] at hA;rw [Bm,if_pos hA.1] at hat hl;have hat1:At w a (mbQ g q p v):=hat.left;obtain ⟨ws,e⟩:∃ws,AD g q = .st o ws:=by
    obtain ⟨side,ws,e,_,_⟩:=FQ hk.1.pl;refine ⟨ws,?_⟩;have h:=hA.1;rw [e] at h ⊢;rw [<-show side=o from h]
   by_cases z:a + (mbQ g q p v).length<=tk
   ·have hpos:0 < (mbQ g q p v).length:=by rw [ug1];lia
    obtain ⟨F',rfl⟩:∃F',F=F' + 1:=⟨F - 1,by lia⟩;obtain ⟨m1,m2,em,hle,hcut,hw⟩:=NW hg ho htl r (Bu g q p) (a + (mbQ g q p v).length) F' (t++[OA g q p v]) (Kb hg hq hk.1.pl) hk.2 hA.2 hat.right (by have hl2:a + (mbQ g q p v++Bm g o (Bu g q p) r).length=w.length:=hl;rw [ue3] at hl2;lia) z (by lia);obtain ⟨hb1,hb2⟩:=Sk hg hk.1 e (hat1.take z);have ewq:(Bm g o q ((p,v) :: m1)).length=(mbQ g q p v).length + (Bm g o (Bu g q p) m1).length:=by rw [Bm,if_pos hA.1,ue3]
    refine ⟨(p,v) :: m1,m2,by rw [em];rfl,by lia,by rw [E7,ewq,<-uk1];exact hcut,?_⟩;rw [ewq,<-uk1,E7,HS,List.append_cons,<-hw];show Ek g _ _ (F' + 1) q _ _ t=_;rw [Ek,show EH g (onS o (w.take tk) []) (onS o [] (w.take tk)) q (onS o a 0) (onS o 0 a)=_ from Ju e,hb1];dsimp only;rw [hb2];unfold OA;rw [e];rfl
   ·refine ⟨[],(p,v) :: r,rfl,ha,by show tk < a + 0 + (mbQ g q p v).length;lia,?_⟩;rw [HS,uh8];refine Hx (?_:s1 g o (w.take tk) q a = .stop) F;rw [Ju e];have hs:=Qh hg hk.1 e hat1 ha (by lia);generalize msgR o ws (w.take tk) a=m at hs ⊢;obtain ⟨r0,c0⟩:=m;have hs:r0 = .short:=hs;subst hs;rfl
abbrev d1 (o:Str)(d:D):List (Key×D):=[(.inr o,d)]
theorem Je {o:Str}{d:D}:By (d1 o d) (.inr o)=some d:=by simp [By,ui1]
theorem Wy {o s:Str}{d:D}(n:s≠o):By (d1 o d) (.inr s)=none:=by
 unfold By;rw [ui1,show decide ((Sum.inr o:Key) = .inr s)=false from ui8 λh=>n (Sum.inr.inj h).symm];rfl
theorem Wz {o:Str}{d e:D}:FM (d1 o d) (.inr o) e=d1 o e:=by
 unfold FM;rw [if_pos (by simp)];simp only [uj6,ul0,if_true]
def ro1 (o:Str)(r:D)(S':List Ob):Rs->Prop
 | (t,h,a,b,none)=>∃K,r = .tup [.lst t,.int (h:Nat),.obj K]/\S'[K]?=some (.dct (d1 o (.int (onS o a b:Nat))))
 | (_,_,_,_,some (k,s))=>r = .exc "Broken" [.int (k:Nat),.str s]
def JH (f:Fn):Prop:=∀(g:List GS) (o:Str) (w:List Nat) (dw:D) (h a W P:Nat) (S:List Ob),GOk g->(o=sL\/o=sR)->h < g.length->a<=w.length->w.length<=25000->Wir S dw w->S[W]?=some (.dct (d1 o dw))->S[P]?=some (.dct (d1 o (.int (a:Nat))))->
 Wf f [.lst (g.map GS.d),.int (h:Nat),.obj W,.obj P] S λr S'=>Gr S S'/\ro1 o r S' (w1 g o w (w.length + 1) h a [])
theorem Na (hc:Q9 c):JH (fnOf 4 9 (Hk c)):=by
 intro g o w dw h a W P S hg ho hh ha hl hv hW hP;have hL:LIM=100000:=rfl;refine Ao rfl ?_;unfold Hk;symm;refine Yr hP ?_;symm;generalize hR:w1 g o w (w.length + 1) h a []=R;obtain ⟨K,hK⟩:∃K,K=S.length:=⟨_,rfl⟩;rw [<-hK];refine Ik (λn t=>∃(h' a':Nat) (tk:List D) (S':List Ob) (e7 e8:Option Sl),h' < g.length/\a'<=w.length/\w.length + 1<=n + a'/\tk.length + n<=w.length + 1/\w1 g o w n h' a' tk=R/\Gr S S'/\S'[K]?=some (.dct (d1 o (.int (a':Nat))))/\t=⟨[some (.val (.lst (g.map GS.d))),some (.val (.int h)),some (.val (.obj W)),some (.val (.obj P)),some (.own tk),some (.val (.int h')),some (.val (.obj K)),e7,e8],S'⟩) ?_ Lj (w.length + 1) _ ?_ ?_
 ·rintro n t ⟨h',a',tk,S',e7,e8,hh',ha',hn,ht,hR',hG,hK',rfl⟩;obtain ⟨m,rfl⟩:∃m,n=m + 1:=Nat.exists_eq_add_of_le' (by lia);have hgs:=Dv hg hh';have hix:=Fk hh';have hW':=hG.get hW
  by_cases z:(AD g h').side=o
  ·cases eg:AD g h' with
   | fin=>
     rw [eg] at z;rcases ho with rfl | rfl <;> exact absurd z (by decide +kernel)
   | st side ws=>
     rw [eg] at z;have z:side=o:=z;subst z;rw [eg] at hix hgs;have hix2:=hix;rw [GS.d] at hix2;symm;refine Bk hix2 ?_;symm;refine Yv hW' ?_;rw [Je];symm;refine ⟨m,rfl,?_⟩;symm;refine Bk hix2 ?_;symm;refine Bk hix ?_;symm;refine O1 hW' Je ?_;symm;refine O1 hK' Je ?_;symm;have hst:s1 g side w h' a'=_:=Ju eg;have hms:=hc S' dw g.length side ws w a' (hv.gr hG) hgs ha' (by lia);have hR2:Ek g (onS side w []) (onS side [] w) (m + 1) h' (onS side a' 0) (onS side 0 a') tk=R:=hR';rw [Ek,show EH g (onS side w []) (onS side [] w) h' (onS side a' 0) (onS side 0 a')=_ from hst] at hR2;unfold E4 at hms;generalize hmr:msgR side ws w a'=mr at hms hR2 hst;obtain ⟨r0,c0⟩:=mr
     cases r0 with
     | short=>
       dsimp only at hms hR2;refine hms.use ?_;symm;refine W_ret.mpr ?_;show CT _ _ Out.next _;symm;subst hR2;exact ⟨rfl,hG,K,rfl,by rw [Mt];exact hK'⟩
     | broken k=>
       dsimp only at hms hR2;refine hms.use ?_;symm;subst hR2;exact ⟨hG,rfl⟩
     | told v e=>
       dsimp only at hms hR2 hst;have pl:Pl g (onS side w []) (onS side [] w) h' (onS side a' 0) (onS side 0 a'):=⟨hh',by unfold onS;split <;> first | exact ha' | exact ul6 _,by unfold onS;split <;> first | exact ha' | exact ul6 _⟩
       obtain ⟨p2,hlt⟩:=QN hg pl hst;have hae:a' < e:=by unfold onS at hlt;split at hlt <;> lia
       have hel:e<=w.length:=by
        have h1:=p2.a;have h2:=p2.b;unfold onS at h1 h2
        split at h1
        ·exact h1
        ·next q=>simp only [if_neg q] at h2;exact h2
       refine hms.use ?_;symm;refine DG (by rw [hL];lia) ?_;symm;refine IK hK' (by show 1 < 100000;decide) ?_;rw [Wz];have hwl:(0:Int)<=(ws.getD c0 (Str.ofString "",.nothing,0)).2.2:=by
        cases hgs with
        | st _ h2 _ _ h5=>
          cases hq:ws[c0]? with
          | none=>rw [ua8,hq];exact Int.le_refl _
          | some wd=>rw [ua8,hq];exact (h5 wd (ud2 hq)).lo
       refine ⟨_,e,tk++[_],_,_,_,p2.h,hel,by lia,by rw [ue3,List.length_singleton];lia,hR2,hG.set (by lia),Bf hK',t9 rfl (congrArg D.int (Int.toNat_of_nonneg hwl).symm)⟩
  ·have hR2:R=(tk,h',onS o a' 0,onS o 0 a',none):=by rw [<-hR'];exact Hx (MK hg ho hh' z) _
   have hsd:atI [(D.str (AD g h').side)] 0=some (.str (AD g h').side):=rfl;have fin:∀(t:T) (Q:D->T->Prop),Q (.str (AD g h').side) t->F2.W (ixD (AD g h').d (.int 0)) t Q:=λt Q h=>by
    cases e:AD g h' with
    | fin=>rw [e] at h;rw [GS.d];exact EE FG h
    | st s w=>rw [e] at h;rw [GS.d];exact EE FG h
   symm;refine Bk hix ?_;symm;refine fin _ _ ?_;symm;refine Yv hW' ?_;rw [Wy z];symm;show CT _ _ Out.next _;symm;subst hR2;exact ⟨rfl,hG,K,rfl,by rw [Mt];exact hK'⟩
 ·show _ < 1000000;lia
 ·exact ⟨h,a,[],_,none,none,hh,ha,by lia,by simp,hR,Gr.app,by rw [hK];exact CZ,rfl⟩
def Kx (F:List Nat)(S S':List Ob):Prop:=S.length<=S'.length/\∀i,i < S.length->i∉F->S'[i]?=S[i]?
section
variable {F:List Nat}{S S1 S2:List Ob}{k:Nat}{o:Ob}
theorem Kx.refl:Kx F S S:=⟨ul5 _,λ_ _ _=>rfl⟩
theorem Kx.trans (a:Kx F S S1)(b:Kx F S1 S2):Kx F S S2:=⟨uk7 a.1 b.1,λi h n=>(b.2 i (ud8 h a.1) n).trans (a.2 i h n)⟩
theorem Kx.set (a:Kx F S S1)(h:k∈F):Kx F S (S1.set k o):=⟨by rw [ui5];exact a.1,λi hi n=>by rw [ud1 (λe=>n (by rw [<-e];exact h))];exact a.2 i hi n⟩
theorem Kx.setN (a:Kx F S S1)(h:S.length<=k):Kx F S (S1.set k o):=⟨by rw [ui5];exact a.1,λi hi n=>by rw [ud1 (by lia)];exact a.2 i hi n⟩
theorem Kx.gr (a:Kx F S S1)(b:Gr S1 S2):Kx F S S2:=⟨uk7 a.1 b.1,λi h n=>(b.2 i (ud8 h a.1)).trans (a.2 i h n)⟩
theorem Kx.get (a:Kx F S S1)(n:k∉F)(h:S[k]?=some o):S1[k]?=some o:=by rw [a.2 k (AW h) n];exact h
end
abbrev lsF (g:List GS)(x:Str)(h tk hd W P q:Nat):List (Str×D):=[("grammar",.lst (g.map GS.d)),("standing",.int (h:Nat)),("wires",.obj W),("places",.obj P),("side",.str x),("said",.obj q),("taken",.int (tk:Nat)),("handed",.int (hd:Nat))]
structure Lst (S:List Ob)(g:List GS)(x o:Str)(h a tk hd:Nat)(w sd:List Nat)(k l q W P:Nat):Prop where
 ik:S[k]?=some (.ins "Lasting" (lsF g x h tk hd W P q))
 iw:S[W]?=some (.dct (d1 o (.obj l)))
 ip:S[P]?=some (.dct (d1 o (.int (a:Nat))))
 il:S[l]?=some (.lst (wD w))
 iq:S[q]?=some (.lst (wD sd))
 ne:l≠q
section
variable {S S':List Ob}{g:List GS}{x o:Str}{h a tk hd:Nat}{w sd:List Nat}{k l q W P:Nat}
end
def Two (x o:Str):Prop:=(x=sL/\o=sR)\/(x=sR/\o=sL)
theorem Two.swap {x o:Str}(h:Two x o):Two o x:=h.elim (λh=>.inr ⟨h.2,h.1⟩) λh=>.inl ⟨h.2,h.1⟩
theorem Two.x {x o:Str}(h:Two x o):x=sL\/x=sR:=h.imp (·.1) (·.1)
theorem Two.o {x o:Str}(h:Two x o):o=sL\/o=sR:=h.swap.x
def Lg (f:Fn):Prop:=∀x o:Str,Two x o->Pure1 f [.str x] (.str o)
theorem Xx:Lg (fnOf 1 1 Fo):=by
 intro x o h S;refine Ao rfl ?_;unfold Fo;rcases h with ⟨rfl,rfl⟩ | ⟨rfl,rfl⟩
 ·symm;exact ⟨rfl,rfl⟩
 ·symm;exact ⟨rfl,rfl⟩
abbrev heF (g:List GS)(W P:Nat):List (Str×D):=[("grammar",.lst (g.map GS.d)),("standing",.int (0:Nat)),("wires",.obj W),("places",.obj P)]
structure Hea (S S':List Ob)(k W P l:Nat)(o:Str)(fs:List (Str×D)):Prop where
 kp:Kp k S S'
 ik:S'[k]?=some (.ins "Lasting" fs)
 iw:S'[W]?=some (.dct (d1 o (.obj l)))
 ip:S'[P]?=some (.dct (d1 o (.int (0:Nat))))
 il:S'[l]?=some (.lst [])
 gw:S.length<=W
 gp:S.length<=P
 gl:S.length<=l
def Gw (S S':List Ob):Prop:=S.length<=S'.length/\∀i,i < S.length->S'[i]?=S[i]?
theorem Gw.refl:Gw S S:=⟨ul5 _,λ_ _=>rfl⟩
theorem Gw.trans {S S1 S2:List Ob}(a:Gw S S1)(b:Gw S1 S2):Gw S S2:=⟨uk7 a.1 b.1,λi h=>(b.2 i (ud8 h a.1)).trans (a.2 i h)⟩
theorem Gw.app {ex:List Ob}:Gw S (S++ex):=⟨by rw [ue3];lia,λi h=>ub0 h⟩
theorem Gw.set {S S':List Ob}{k:Nat}{o:Ob}(a:Gw S S')(h:S.length<=k):Gw S (S'.set k o):=⟨by rw [ui5];exact a.1,λi hi=>by rw [ud1 (by lia)];exact a.2 i hi⟩
theorem Gw.get {S S':List Ob}{k:Nat}{o:Ob}(a:Gw S S')(h:S[k]?=some o):S'[k]?=some o:=by rw [a.2 k (ua9.mp h).1];exact h
theorem Wm {x:Ob}:(S++[x])[S.length]?=some x:=by simp
theorem Ub {k:Nat}{h:List D->List D->Option (List D)}{g:M (List D)}(w:W f t λo t1=>o = .obj k/\∃xs0,t1.S[k]?=some (.lst xs0)/\W g t1 λds t2=>∃xs ys,t2.S[k]?=some (.lst xs)/\h xs ds=some ys/\P .non ⟨t2.env,t2.S.set k (.lst ys)⟩):W (objM h f g) t P:=by
 unfold objM;refine W_bnd.mpr (w.mono λo t1 z9=>?_);obtain ⟨e,xs0,e1,w⟩:=z9;subst e;obtain ⟨ds,t2,e2,xs,ys,e3,e4,p⟩:=w;refine ⟨_,_,?_,p⟩;simp only [e1,bnd,e2,e3,e4];rfl
mutual
inductive Ow (S:List Ob):D->D->List Nat->Prop
 | non:Ow S .non .non []
 | int (i:Int):Ow S (.int i) (.int i) []
 | str (x:Str):Ow S (.str x) (.str x) []
 | tup {ds vs:List D} {fp:List Nat}:Ows S ds vs fp->Ow S (.tup ds) (.tup vs) fp
 | obj {k:Nat} {ds vs:List D} {fp:List Nat}:S[k]?=some (.lst ds)->Ows S ds vs fp->k∉fp->Ow S (.obj k) (.lst vs) (k :: fp)
inductive Ows (S:List Ob):List D->List D->List Nat->Prop
 | nil:Ows S [] [] []
 | cons {d v:D} {fp fp':List Nat} {ds vs:List D}:Ow S d v fp->Ows S ds vs fp'->(∀k∈fp,k∉fp')->Ows S (d :: ds) (v :: vs) (fp++fp')
end
mutual
theorem Ow.mono {S S':List Ob}{d v:D}{fp:List Nat}(h:∀k∈fp,S'[k]?=S[k]?)(r:Ow S d v fp):Ow S' d v fp:=by
 cases r with
 | non=>exact .non
 | int i=>exact .int i
 | str x=>exact .str x
 | tup o=>exact .tup (Ows.mono h o)
 | obj e o n=>exact .obj ((h _ ud9).trans e) (Ows.mono (λk hk=>h k (uc9 _ hk)) o) n
theorem Ows.mono {S S':List Ob}{ds vs:List D}{fp:List Nat}(h:∀k∈fp,S'[k]?=S[k]?)(r:Ows S ds vs fp):Ows S' ds vs fp:=by
 cases r with
 | nil=>exact .nil
 | cons a b n=>exact .cons (Ow.mono (λk hk=>h k (ud0 _ hk)) a) (Ows.mono (λk hk=>h k (uc5 _ hk)) b) n
end
mutual
theorem Ow.lt {S:List Ob}{d v:D}{fp:List Nat}(r:Ow S d v fp):∀k∈fp,k < S.length:=by
 cases r with
 | tup o=>exact Ows.lt o
 | obj e o n=>exact λk h=>(uj5.mp h).elim (λz=>by rw [z];exact (ua9.mp e).1) (Ows.lt o k)
 | _=>exact λk h=>nomatch h
theorem Ows.lt {S:List Ob}{ds vs:List D}{fp:List Nat}(r:Ows S ds vs fp):∀k∈fp,k < S.length:=by
 cases r with
 | nil=>exact λk h=>nomatch h
 | cons a b n=>exact λk h=>(uh4.mp h).elim (Ow.lt a k) (Ows.lt b k)
end
theorem Ows.length {S:List Ob}{ds vs:List D}{fp:List Nat}(r:Ows S ds vs fp):ds.length=vs.length:=by
 cases r with
 | nil=>rfl
 | cons _ b _=>rw [ug1,ug1,Ows.length b]
theorem Ows.snoc {S:List Ob}{d v:D}{fp1:List Nat}(o:Ow S d v fp1){ds vs:List D}{fp:List Nat}(r:Ows S ds vs fp)(h:∀k∈fp,k∉fp1):Ows S (ds++[d]) (vs++[v]) (fp++fp1):=by
 cases r with
 | nil=>
   have:=Ows.cons o .nil (λ_ _ z=>nomatch z);rw [uh8] at this;exact this
 | cons a b n=>
   have:=Ows.cons a (Ows.snoc o b λk hk=>h k (uc5 _ hk)) (λk hk z=>(uh4.mp z).elim (n k hk) (h k (ud0 _ hk)));rw [<-uf4] at this;exact this
variable {fp:List Nat}
theorem Ow.gr {d:D}(o:Ow S d v fp)(g:Gw S S'):Ow S' d v fp:=o.mono λk hk=>g.2 k (o.lt k hk)
theorem Ows.gr {vs:List D}(o:Ows S ds vs fp)(g:Gw S S'):Ows S' ds vs fp:=o.mono λk hk=>g.2 k (o.lt k hk)
theorem O2 {d:D}{m:String}(e:Sa d=false)(h:W (Eg [d,.ty m]) t P):W (DS [d,.ty m]) t P:=by
 cases d <;> first | exact h | cases e
theorem EM {k:Nat}{m:String}{b:Bool}(e:t.S[k]?=some (.lst ds))(h:EV "list" m=some b)(q:P (.bl b) t):W (DS [.obj k,.ty m]) t P:=⟨_,_,by simp only [DS,e,h];rfl,q⟩
variable {tst:M Bool}
theorem MX {g:Gd}{st:D->M Unit}{P:List D->T->Prop}(h:Gon g t.S)(q:P [] t):W (compG g st tst elt []) t P:=by
 unfold compG;exact W_bnd.mpr ⟨_,_,G4 h,W_ret.mpr q⟩
theorem LJ {g:Gd}{st:D->M Unit}{d:D}{P:List D->T->Prop}(h:Gon g t.S)(q:W (st d) t λ_ t1=>W tst t1 λk t2=>
 if k=true then W elt t2 λx t3=>W (compG g st tst elt r) t3 λxs t4=>P (x :: xs) t4 else W (compG g st tst elt r) t2 P):W (compG g st tst elt (d :: r)) t P:=by
 rw [compG];refine W_bnd.mpr ⟨_,_,G4 h,W_bnd.mpr (q.mono λ_ t1 q=>W_bnd.mpr (q.mono λk t2 q=>?_))⟩
 split
 ·next hk=>
  rw [if_pos hk] at q;exact W_bnd.mpr (q.mono λx t3 q=>W_bnd.mpr (q.mono λxs t4 q=>W_ret.mpr q))
 ·next hk=>
  rw [if_neg hk] at q;exact q
theorem Yq {fr:List Nat}{f:M (Gd×List D)}{st:D->M Unit}{P:List D->T->Prop}(h:W f t λp t1=>W (compG p.1 st tst elt p.2) ⟨cenv n fr t1.env,t1.S⟩ λxs t2=>Gz xs.length (P xs { t1 with S:=t2.S })):W (Ha n fr f st tst elt) t P:=by
 refine W_bnd.mpr (h.mono λp t1 h=>?_);obtain ⟨xs,t2,e,l,q⟩:=h;refine ⟨xs,_,?_,q⟩;simp only [e,if_pos l]
theorem RZ:Gon none S:=λ_ _ z=>nomatch z
theorem Gu {k:Nat}(h:S[k]?=some (.lst xs)):Gon (some (k,xs)) S:=λ_ _ z=>by cases z;exact h
theorem Lx {k:Nat}(e:t.S[k]?=some (.lst ds))(h:Q ds t):W (DU [.obj k]) t Q:=⟨_,_,by simp only [DU,e],h⟩
def prt (g:List GS)(mv:List Mv)(i:Nat):List D:=match mv[i]? with
 | some (p,v)=>.int (p:Int) :: AN (wdAt g (E7 g 0 (mv.take i)) p).2.1 v
 | none=>[]
structure Due (g:List GS)(mv:List Mv)(rl rr k:Nat):Prop where
 le:k<=mv.length
 a:(Bm g sL 0 (mv.take k)).length<=rl
 b:(Bm g sR 0 (mv.take k)).length<=rr
 z:k=mv.length\/(k < mv.length/\onS (AD g (E7 g 0 (mv.take k))).side rl rr < onS (AD g (E7 g 0 (mv.take k))).side (Bm g sL 0 (mv.take k)).length (Bm g sR 0 (mv.take k)).length + (prt g mv k).length)
noncomputable def nvO:Nat->D->Bool
 | _,.non=>true
 | _,.int _=>true
 | _,.str _=>true
 | n + 1,.lst xs=>decide (xs.length<=1000) && xs.all (nvO n)
 | n + 1,.tup xs=>decide (xs.length<=1000) && xs.all (nvO n)
 | _,_=>false
theorem Fj:∀(n:Nat) (s:Sh),s.depth<=n->wf s=true->∀v,Ai s v=true->nvO n v=true
 | 0,s,h,_,_,_=>absurd s.depth_pos (by lia)
 | n + 1,s,hs,hw,v,hf=>by
   cases s with
   | nothing=>cases v <;> simp [Ai,Gy] at hf;rfl
   | number lo hi=>cases v <;> simp [Ai] at hf;rfl
   | text q=>cases v <;> simp only [Ai,ue4] at hf;rfl
   | list s q=>
     simp only [wf,ug5,uf8] at hw;rw [Sh.depth] at hs
     cases v <;> simp only [Ai,ue4] at hf
     rename_i ds;simp only [ug5,uf8,ug9] at hf;rw [nvO,ug5,uf8,ug9];exact ⟨by lia,λd hd=>Fj n s (by lia) hw.2 d (hf.2 d hd)⟩
   | pair s r=>
     simp only [wf,ug5] at hw;rw [Sh.depth] at hs;unfold Ai at hf
     split at hf
     ·rw [ug5] at hf;have h1:=Fj n s (by lia) hw.1 _ hf.1;have h2:=Fj n r (by lia) hw.2 _ hf.2;simp [nvO,h1,h2]
     ·cases hf
   | choice ss=>
     simp only [wf,ug5,uf8] at hw;rw [Sh.depth] at hs;unfold Ai at hf
     split at hf
     ·next o k x=>
      simp only [ug5,uf8] at hf;obtain ⟨j,rfl⟩:=ub7 hf.1.2.1;have hj:j < ss.length:=by have:=hf.1.2.2;lia
      have e1:ss[j]?=some ss[j]:=ub3 hj;have h2:=hf.2;rw [uf2,CA ss _ _ _ e1] at h2;have h3:=Fj n _ (uk7 (CB ss _ _ e1) (by lia)) (D9 hw.2 _ (uh2 hj)) x h2;have g1:∀o:Str,nvO n (.str o)=true:=λo=>by cases n <;> rfl
      have g2:∀i:Int,nvO n (.int i)=true:=λo=>by cases n <;> rfl
      simp [nvO,h3,g1,g2]
     ·cases hf
theorem NJ:∀{xs:List D},(∀x∈xs,Bv x=true)->GG xs=true
 | [],_=>rfl
 | x :: r,h=>by rw [GG,h x ud9,NJ λy m=>h y (uc9 _ m)];rfl
local macro_rules | `(tactic| walk_at "y1")=>`(tactic| first | walk_at "x1" | clear 32 O2 | ((with_reducible refine' wIsi2 ?wv ?wu ?wt ?ws ?_);(case wv=>exact rfl);(case wu=>exact rfl);(case wt=>exact rfl);(case ws=>exact rfl)))
theorem MV {P:Gd×List D->T->Prop}(h:W f t λd t1=>W (F1 d) t1 P):W (Hb f) t P:=W_bnd.mpr h
theorem Lv {k:Nat}{P:Gd×List D->T->Prop}(e:t.S[k]?=some (.lst ds))(h:P (some (k,ds),ds) t):W (F1 (.obj k)) t P:=⟨_,_,by simp only [F1,e],h⟩
theorem Zy {P:Gd×List D->T->Prop}(h:P (none,ds) t):W (F1 (.tup ds)) t P:=⟨_,_,rfl,h⟩
local macro_rules | `(tactic| walk_at "y1")=>`(tactic| first | walk_at "x1" | clear 32 O2)
theorem M2 (h:Ai .nothing v=true):v = .non:=by cases v <;> simp [Ai,Gy] at h <;> rfl
theorem Jj {lo hi:Int}(h:Ai (.number lo hi) v=true):∃i,v = .int i/\lo<=i/\i<=hi:=by
 cases v <;> simp [Ai] at h
 exact ⟨_,rfl,h⟩
theorem Mf {q:Int}(h:Ai (.text q) v=true):∃x,v = .str x/\(x.length:Int)<=q:=by
 cases v <;> simp only [Ai,ue4] at h
 simp only [ug5,uf8] at h;exact ⟨_,rfl,h.1⟩
theorem Mc {q:Int}(h:Ai (.list s q) v=true):∃ds,v = .lst ds/\(ds.length:Int)<=q/\∀d∈ds,Ai s d=true:=by
 cases v <;> simp only [Ai,ue4] at h
 simp only [ug5,uf8,ug9] at h;exact ⟨_,rfl,h.1,h.2⟩
theorem Me {a b:Sh}(h:Ai (.pair a b) v=true):∃x y,v = .tup [x,y]/\Ai a x=true/\Ai b y=true:=by
 unfold Ai at h
 split at h
 ·rw [ug5] at h;exact ⟨_,_,rfl,h.1,h.2⟩
 ·cases h
theorem Ji (h:Ai (.choice ss) v=true):∃(k:Nat) (x:D) (hk:k < ss.length),v = .tup [.str ("of" : Str),.int (k:Nat),x]/\Ai ss[k] x=true:=by
 unfold Ai at h
 split at h
 ·next o k x=>
  simp only [ug5,uf8] at h;have hk:k.toNat < ss.length:=by lia
  have h2:=h.2;rw [CA ss _ _ _ (ub3 hk)] at h2;have ho:o=("of" : Str):=eq_of_beq h.1.1;subst ho;exact ⟨k.toNat,x,hk,by rw [Int.toNat_of_nonneg h.1.2.1],h2⟩
 ·cases h
theorem IS {g:Gd}{st:D->M Unit}{b:M Out}{P:Out->T->Prop}(h:Gon g t.S)(q:P .next t):W (forG g st b []) t P:=by
 unfold forG;exact W_bnd.mpr ⟨_,_,G4 h,W_ret.mpr q⟩
theorem MY {g:Gd}{st:D->M Unit}{b:M Out}{d:D}{P:Out->T->Prop}(h:Gon g t.S)(q:W (st d) t λ_ t1=>W b t1 λo t2=>o = .next/\W (forG g st b r) t2 P):W (forG g st b (d :: r)) t P:=by
 rw [forG];refine W_bnd.mpr ⟨_,_,G4 h,W_bnd.mpr (q.mono λ_ t1 q=>W_bnd.mpr (q.mono λo t2 q=>?_))⟩;obtain ⟨rfl,q⟩:=q;exact q
abbrev PureO (S:List Ob)(f:Fn)(ds:List D)(r:D):Prop:=Wf f ds S λx S'=>x=r/\S'=S
theorem PureO.use {f:Fn}{r:D}(h:PureO S f ds r){P:D->List Ob->Prop}(p:P r S):Wf f ds S P:=Wf.mono h λ_ _ ⟨e1,e2⟩=>by subst e1 e2;exact p
theorem HC {g:Gd}{st:D->M Unit}{b:M Out}{P:Out->T->Prop}(I:List D->T->Prop)(hg:∀r t,I r t->Gon g t.S):∀(ds:List D) (t:T),I ds t->
 (∀d r t,I (d :: r) t->W (st d) t λ_ t1=>W b t1 λo t2=>match o with
   | .next=>I r t2
   | .cont=>I r t2
   | .brk=>P .next t2
   | .ret x=>P (.ret x) t2)->(∀t,I [] t->P .next t)->W (forG g st b ds) t P
 | [],t,h,_,fin=>IS (hg _ _ h) (fin t h)
 | d :: r,t,h,turn,fin=>by
   rw [forG];refine W_bnd.mpr ⟨_,_,G4 (hg _ _ h),W_bnd.mpr ((turn d r t h).mono λ_ t1 q=>W_bnd.mpr (q.mono λo t2 q=>?_))⟩
   cases o with
   | next=>exact HC I hg r t2 q turn fin
   | cont=>exact HC I hg r t2 q turn fin
   | brk=>exact W_ret.mpr q
   | ret x=>exact W_ret.mpr q
theorem JB {f:M (Gd×List D)}{st:D->M Unit}{b:M Out}{P:Out->T->Prop}(h:W f t λp t1=>W (forG p.1 st b p.2) t1 P):W (FL f st b) t P:=W_bnd.mpr h
def Ra (f:Fn):Prop:=∀{S:List Ob} {d v:D} {fp:List Nat},Ow S d v fp->PureO S f [d] (.bl (W5 v))
theorem YY:Ra (fnOf 1 1 EA):=by
 intro S d v fp o;refine Ao rfl ?_;unfold EA
 cases o with
 | obj e o n=>
   symm;refine EM e rfl ?_;symm;exact ⟨rfl,rfl⟩
 | _=>symm;exact ⟨rfl,rfl⟩
def Fc (f:Fn):Prop:=∀{S:List Ob} {d v:D} {fp:List Nat} (lo hi:Int),Ow S d v fp->PureO S f [d,.int lo,.int hi] (.bl (C1 lo hi v))
theorem Tt (hc:Ra c):Fc (fnOf 3 3 (Dl c)):=by
 intro S d v fp lo hi o;refine Ao rfl ?_;unfold Dl;symm;refine (hc o).use ?_
 cases o with
 | int i=>
   symm;refine Cr (λe=>?_) λe=>?_
   ·symm;exact ⟨by simp only [C1,e,uj9],rfl⟩
   ·exact ⟨by simp only [C1,e,uj0],rfl⟩
 | _=>symm;exact ⟨rfl,rfl⟩
noncomputable def Tk:List D->Bool
 | [_,_]=>true
 | [.str _,.int _,_]=>true
 | _=>false
mutual
def tm:D->Bool
 | .non=>true
 | .int _=>true
 | .str x=>decide (x.length<=90000)
 | .lst xs=>decide (xs.length<=1000) && tms xs
 | .tup xs=>tms xs && Tk xs
 | _=>false
def tms:List D->Bool
 | []=>true
 | d :: r=>tm d && tms r
end
theorem QV:∀{xs:List D},(∀d∈xs,tm d=true)->tms xs=true
 | [],_=>rfl
 | x :: r,h=>by
   rw [tms,ug5];exact ⟨h x ud9,QV λd m=>h d (uc9 _ m)⟩
theorem D5:∀(n:Nat) (s:Sh),s.depth<=n->wf s=true->∀v,Ai s v=true->tm v=true
 | 0,s,h,_,_,_=>absurd s.depth_pos (by lia)
 | n + 1,s,hs,hw,v,hf=>by
   cases s with
   | nothing=>rw [M2 hf];rfl
   | number lo hi=>obtain ⟨i,rfl,_⟩:=Jj hf;rfl
   | text q=>
     obtain ⟨x,rfl,hx⟩:=Mf hf;simp only [wf,ug5,uf8] at hw;rw [tm,uf8];lia
   | list s q=>
     rw [Sh.depth] at hs;simp only [wf,ug5,uf8] at hw;obtain ⟨ds,rfl,hl,h⟩:=Mc hf;rw [tm,ug5,uf8];exact ⟨by lia,QV λd m=>D5 n s (by lia) hw.2 d (h d m)⟩
   | pair a b=>
     rw [Sh.depth] at hs;simp only [wf,ug5] at hw;obtain ⟨x,y,rfl,h1,h2⟩:=Me hf;rw [tm,tms,tms,tms,D5 n a (by lia) hw.1 x h1,D5 n b (by lia) hw.2 y h2];rfl
   | choice ss=>
     rw [Sh.depth] at hs;simp only [wf,ug5] at hw;obtain ⟨k,x,hk,rfl,h1⟩:=Ji hf;rw [tm,tms,tms,tms,tms,D5 n _ (uk7 (KS (uh2 hk)) (by lia)) (D9 hw.2 _ (uh2 hk)) x h1,tm,tm];rw [show (Str.ofString "of").length=2 from by decide +kernel];rfl
theorem tm2 {vs:List D}(h:tm (.tup vs)=true)(o:Ows S ds vs fp):(∃a b x y f1 f2,ds=[a,b]/\vs=[x,y]/\Ow S a x f1/\Ow S b y f2/\tm x=true/\tm y=true)\/∃(s:Str) (i:Int) (b y:D) (f2:List Nat),ds=[.str s,.int i,b]/\vs=[.str s,.int i,y]/\Ow S b y f2/\tm y=true:=by
 rw [tm,ug5] at h;obtain ⟨h1,h2⟩:=h
 cases o with
 | nil=>cases h2
 | cons a o _=>
   rw [tms,ug5] at h1
   cases o with
   | nil=>cases h2
   | cons b o _=>
     have h3:=h1.2;rw [tms,ug5] at h3
     cases o with
     | nil=>exact .inl ⟨_,_,_,_,_,_,rfl,rfl,a,b,h1.1,h3.1⟩
     | cons c o _=>
       have h4:=h3.2;rw [tms,ug5] at h4
       cases o with
       | nil=>
         unfold Tk at h2
         split at h2
         ·next e=>cases e
         ·next s i _ e=>
          cases e
          cases a
          cases b
          exact .inr ⟨_,_,_,_,_,rfl,rfl,c,h4.1⟩
         ·cases h2
       | cons _ _ _=>
         unfold Tk at h2
         split at h2
         ·next e=>cases e
         ·next e=>cases e
         ·cases h2
def N5 (f:Fn):Prop:=∀{S:List Ob} {d v:D} {fp:List Nat} (m:Int),Ow S d v fp->tm v=true->PureO S f [(Sh.text m).d,d] (.bl (Ai (.text m) v))
theorem M5 (hc:IP c):N5 (fnOf 2 3 (Ey c)):=by
 intro S d v fp m o h;refine Ao rfl ?_;unfold Ey;rw [Sh.d]
 cases o with
 | str x=>
   have hx:x.length<=LIM:=uk7 (by simpa [tm] using h) (show 90000<=LIM by decide);symm;refine T7 hx ?_;symm;refine Cr (λe=>?_) λe=>?_
   ·symm;have:¬((x.length:Int)<=m):=by have:=uf9 e;lia
    exact ⟨by simp [Ai,this],rfl⟩
   ·symm;have e':(x.length:Int)<=m:=by have:=of_decide_eq_false e;lia
    refine EG (λr t=>t.S=S/\∃cs:List Nat,r=cs.map (λc=>D.str ⟨#[c]⟩)/\(x.cps.toList.all BT=cs.all BT)/\∃z,t.env=[some (.val (.tup [.str "text",.int m])),some (.val (.str x)),z]) _ _ ⟨rfl,x.cps.toList,rfl,rfl,_,rfl⟩ ?_ ?_
    ·rintro d r t ⟨hs,cs,hr,hall,z,ht⟩ _;obtain ⟨env,S2⟩:=t;subst hs ht
     cases cs with
     | nil=>simp at hr
     | cons c cs=>
       simp only [uj6,List.cons.injEq] at hr;obtain ⟨rfl,rfl⟩:=hr;symm;refine Yw rfl ?_;symm;refine (hc c).use ?_;symm;refine Cr (λq=>?_) λq=>?_
       ·symm;have q':BT c=false:=by simpa using q
        refine ⟨?_,rfl⟩;simp only [Ai,hall,uj7,q',uj0,uj1]
       ·symm;have q':BT c=true:=by simpa using q
        exact ⟨rfl,cs,rfl,by rw [hall,uj7,q',uj9],_,rfl⟩
    ·rintro t ⟨hs,cs,hr,hall,z,ht⟩;obtain ⟨env,S2⟩:=t;subst hs ht;have:cs=[]:=by cases cs with | nil=>rfl | cons _ _=>simp at hr
     subst this;symm;exact ⟨by simp [Ai,e',hall],rfl⟩
 | obj e o n=>
   symm;refine EM e rfl ?_;symm;exact ⟨by simp [Ai],rfl⟩
 | _=>symm;exact ⟨by simp [Ai],rfl⟩
def Gf (f:Fn)(n:Nat):Prop:=∀(s:Sh),s.depth<=n->∀{S:List Ob} {d v:D} {fp:List Nat},Ow S d v fp->tm v=true->PureO S f [s.d,d] (.bl (Ai s v))
def Tw (f:Fn)(n:Nat):Prop:=∀(s:Sh) (m:Int),s.depth<=n->∀{S:List Ob} {d v:D} {fp:List Nat},Ow S d v fp->tm v=true->PureO S f [(Sh.list s m).d,d] (.bl (Ai (.list s m) v))
theorem M3 (hc:Gf c n):Tw (fnOf 2 3 (Ew c)) n:=by
 intro s m hs S d v fp o h;refine Ao rfl ?_;unfold Ew;rw [Sh.d]
 cases o with
 | @obj k ds vs fp e o n=>
   have hx:tms vs=true:=by rw [tm,ug5] at h;exact h.2
   have hlen:=o.length;symm;refine EM e rfl ?_;symm;refine GM e ?_;symm;refine Cr (λe=>?_) λe=>?_
   ·symm;have:¬((vs.length:Int)<=m):=by have:=uf9 e;lia
    exact ⟨by simp [Ai,this],rfl⟩
   ·symm;have e':(vs.length:Int)<=m:=by have:=of_decide_eq_false e;lia
    refine JB (MV ?_);symm;refine Lv (by assumption) ?_;refine HC (λr t=>∃(us:List D) (fq:List Nat) (z:Option Sl),Ows S r us fq/\tms us=true/\(vs.all (λe=>Ai s e)=us.all λe=>Ai s e)/\t=⟨[some (.val (.tup [.str "list",s.d,.int m])),some (.val (.obj k)),z],S⟩) (λr t h=>?_) _ _ ⟨vs,fp,_,o,hx,rfl,rfl⟩ ?_ ?_
    ·obtain ⟨_,_,_,_,_,_,rfl⟩:=h;exact Gu (by assumption)
    ·rintro d r t ⟨us,fq,z,oo,hu,hall,rfl⟩
     cases oo with
     | @cons _ u f1 f2 _ us a b _=>
       rw [tms,ug5] at hu;symm;refine (hc s hs a hu.1).use ?_;symm;refine Cr (λq=>?_) λq=>?_
       ·symm;have q':Ai s u=false:=by simpa using q
        refine ⟨?_,rfl⟩;simp only [Ai,hall,uj7,q',uj0,uj1]
       ·symm;have q':Ai s u=true:=by simpa using q
        exact ⟨us,f2,_,b,hu.2,by rw [hall,uj7,q',uj9],rfl⟩
    ·rintro t ⟨us,fq,z,oo,hu,hall,rfl⟩
     cases oo
     symm;exact ⟨by simp only [Ai,e',decide_true,hall,List.all_nil,uj9],rfl⟩
 | _=>symm;exact ⟨by simp [Ai],rfl⟩
def Ty (f:Fn)(n:Nat):Prop:=∀(s r:Sh),s.depth<=n->r.depth<=n->∀{S:List Ob} {d v:D} {fp:List Nat},Ow S d v fp->tm v=true->PureO S f [(Sh.pair s r).d,d] (.bl (Ai (.pair s r) v))
theorem M4 (hc:Gf c n):Ty (fnOf 2 2 (Ex c)) n:=by
 intro s r hs hr S d v fp o h;refine Ao rfl ?_;unfold Ex;rw [Sh.d]
 cases o with
 | @tup ds vs fp o=>
   rcases tm2 h o with ⟨a,b,x,y,f1,f2,rfl,rfl,oa,ob,hx,hy⟩ | ⟨s',i,b,y,f2,rfl,rfl,ob,hy⟩
   ·symm;refine (hc s hs oa hx).use ?_;symm;refine Cr (λe=>?_) λe=>?_
    ·symm;refine (hc r hr ob hy).use ?_;exact ⟨by simp only [Ai,e,uj9],rfl⟩
    ·exact ⟨by simp only [Ai,e,uj0],rfl⟩
   ·symm;exact ⟨by simp [Ai],rfl⟩
 | obj e o n=>
   symm;refine EM e rfl ?_;symm;exact ⟨by simp [Ai],rfl⟩
 | _=>symm;exact ⟨by simp [Ai],rfl⟩
def Nc (f:Fn)(n:Nat):Prop:=∀(ss:List Sh),Ej ss<=n->∀{S:List Ob} {d v:D} {fp:List Nat},Ow S d v fp->tm v=true->PureO S f [(Sh.choice ss).d,d] (.bl (Ai (.choice ss) v))
theorem Le {c':Fn}(hc:Gf c n)(hw:Fc c'):Nc (fnOf 2 2 (D1 c c')) n:=by
 intro ss hs S d v fp o h;refine Ao rfl ?_;unfold D1;rw [Sh.d]
 cases o with
 | @tup ds vs fp o=>
   rcases tm2 h o with ⟨a,b,x,y,f1,f2,rfl,rfl,oa,ob,hx,hy⟩ | ⟨o',k,b,y,f2,rfl,rfl,ob,hy⟩
   ·symm;exact ⟨by simp [Ai],rfl⟩
   ·symm;refine Cr (λq=>?_) λq=>?_
    ·symm;have q':Hf o'=false:=by simpa [Hf] using q
     exact ⟨by simp only [Ai,q',uj0],rfl⟩
    ·symm;have q':Hf o'=true:=by simpa [Hf] using q
     refine (hw 0 _ (.int k)).use ?_;symm;refine Cr (λq=>?_) λq=>?_
     ·symm;refine ⟨?_,rfl⟩;have:(decide (0<=k) && decide (k < (ss.length:Int)))=false:=by
       have q2:k < 0\/((shD ss).length:Int) - 1 < k:=by simpa [C1] using q
       rw [DC] at q2;simp;lia
      simp only [Ai,this,uj0,uj1]
     ·have q2:0<=k/\k<=((shD ss).length:Int) - 1:=by simpa [C1] using q
      have q3:=q2;rw [DC] at q3;have hk:k.toNat < ss.length:=by lia
      have e1:ss[k.toNat]?=some ss[k.toNat]:=ub3 hk;have e2:atI (shD ss) k=some (ss[k.toNat]).d:=by
       unfold atI;rw [DC,Et q3.1 (by lia)];simp [Gc,e1]
      symm;refine EE e2 ?_;symm;refine (hc _ (uk7 (CB ss _ _ e1) hs) ob hy).use ?_;refine ⟨?_,rfl⟩;have:(decide (0<=k) && decide (k < (ss.length:Int)))=true:=by simp;lia
      simp only [Ai,q',this,uj9,CA ss _ _ y e1]
 | obj e o n=>
   symm;refine EM e rfl ?_;symm;exact ⟨by simp [Ai],rfl⟩
 | _=>symm;exact ⟨by simp [Ai],rfl⟩
theorem WQ (h1:Nc cc n)(h2:Ty cp n)(h3:Tw cl n)(h4:N5 ct)(h5:Fc cw):Gf (fnOf 2 3 (Mp cc cp cl ct cw)) (n + 1):=by
 intro s hs S d v fp o h;refine Ao rfl ?_;unfold Mp
 cases s with
 | nothing=>
   rw [Sh.d];symm;refine ⟨?_,rfl⟩
   cases o <;> rfl
 | number lo hi=>
   rw [Sh.d];symm;refine (h5 lo hi o).use ⟨?_,rfl⟩
   cases v <;> simp [Ai,C1]
 | text m=>
   rw [Sh.d];symm;exact (h4 m o h).use ⟨rfl,rfl⟩
 | list s m=>
   rw [Sh.depth] at hs;have q:=h3 s m (by lia) o h;rw [Sh.d] at q ⊢;symm;exact PureO.use q ⟨rfl,rfl⟩
 | pair s r=>
   rw [Sh.depth] at hs;have q:=h2 s r (by lia) (by lia) o h;rw [Sh.d] at q ⊢;symm;exact PureO.use q ⟨rfl,rfl⟩
 | choice ss=>
   rw [Sh.depth] at hs;have q:=h1 ss (by lia) o h;rw [Sh.d] at q ⊢;symm;exact PureO.use q ⟨rfl,rfl⟩
noncomputable def Xw:D->D
 | .str y=>.int (y.cps.getD 0 0:Nat)
 | d=>d
theorem Pk (x:Str):(x.cps.toList.map λc=>D.str ⟨#[c]⟩).map Xw=x.cps.toList.map λn=>D.int (n:Nat):=by
 rw [List.map_map];refine ud7 λn _=>?_;rfl
def IM (f:Fn)(n:Nat):Prop:=∀(s:Sh),s.depth<=n->wf s=true->∀{S:List Ob} {d v:D} {fp:List Nat},Ow S d v fp->Ai s v=true->(AN s v).length<=LIM->PureO S f [s.d,d] (.lst (AN s v))
theorem Uj (hc:IM c n)(hw:IT cw)(hn:LD cn):IM (fnOf 2 5 (Dk c cw cn)) (n + 1):=by
 intro s hs hwf S d v fp o hf hlen;have hL:LIM=100000:=rfl;refine Ao rfl ?_;unfold Dk
 cases s with
 | nothing=>
   rw [Sh.d];symm;refine GN ?_;symm;exact ⟨by rw [AN],rfl⟩
 | number lo hi=>
   have hsp:=NT hwf;have hwd:=JE 9 _ hsp;simp only [wf,ug5,uf8] at hwf;obtain ⟨i,rfl,hi1,hi2⟩:=Jj hf
   cases o
   rw [Sh.d];symm;refine GN (FE ?_);symm;have e1:hi - lo=(((hi - lo).toNat:Nat):Int):=by lia
   have e2:i - lo=(((i - lo).toNat:Nat):Int):=by lia
   rw [e1,e2];refine (hw _ hsp).use ?_;symm;refine (hn _ _ (by lia)).use ?_;exact ⟨_,rfl,by rw [AN],rfl⟩
 | text q=>
   simp only [wf,ug5,uf8] at hwf;obtain ⟨x,rfl,hx⟩:=Mf hf
   cases o
   rw [Sh.d];symm;refine GN ?_;refine BH ?_;symm;refine T7 (by rw [hL];lia) ?_;symm;refine (FF (f:=Xw) (fr:=[]) ?_).mono ?_
   ·intro d m;obtain ⟨k,hk,rfl⟩:=ul3.mp m;symm;refine Yw rfl ?_;exact ⟨rfl,rfl⟩
   ·rintro xs t' ⟨rfl,hS⟩;rw [Pk];have hl:x.cps.toList.length<=250:=by rw [<-FN];lia
    refine DG (by rw [uh6,hL];lia) ?_;symm;refine DG (by simp only [uh6,ug1,ui2,hL];lia) ?_;exact ⟨by rw [AN];rfl,hS⟩
 | list s q=>
   simp only [wf,ug5,uf8] at hwf;rw [Sh.depth] at hs;obtain ⟨vs,rfl,hl0,hds⟩:=Mc hf
   cases o with
   | @obj k ds _ fp e o nk=>
     have hol:=o.length;rw [AN] at hlen ⊢;rw [Sh.d];symm;refine GM e ?_;symm;refine JB (MV ?_);symm;refine Lv e ?_;refine HC (λr t=>∃(z:Option Sl) (acc us:List D) (fq:List Nat),Ows S r us fq/\(∀u∈us,Ai s u=true)/\t=⟨[some (.val (.tup [.str "list",s.d,.int q])),some (.val (.obj k)),some (.val (.str "list")),some (.own acc),z],S⟩/\acc++(us.map λd=>AN s d).flatten = .int (vs.length:Nat) :: (vs.map λd=>AN s d).flatten) (λr t h=>?_) _ _ ⟨_,_,vs,fp,o,hds,rfl,by rw [hol];rfl⟩ ?_ ?_
     ·obtain ⟨_,_,_,_,_,_,rfl,_⟩:=h;exact Gu e
     ·rintro d r t ⟨z,acc,us,fq,oo,hu,rfl,hacc⟩
      cases oo with
      | @cons _ u f1 f2 _ us a b _=>
        rw [uj6,uf3,<-uf4] at hacc;have hl:acc.length + (AN s u).length<=LIM:=by
         have:=congrArg List.length hacc;rw [ue3,ue3] at this;lia
        symm;refine FE ?_;symm;refine (hc s (by lia) hwf.2 a (hu u ud9) (by lia)).use ⟨_,rfl,?_⟩;symm;refine aR rfl hl ?_;exact ⟨_,_,us,f2,b,λx m=>hu x (uc9 _ m),rfl,hacc⟩
     ·rintro t ⟨z,acc,us,fq,oo,hu,rfl,hacc⟩
      cases oo
      rw [ul0,List.flatten_nil,uh8] at hacc;symm;refine V5 rfl ?_;exact ⟨by rw [hacc],rfl⟩
 | pair s r=>
   simp only [wf,ug5] at hwf;rw [Sh.depth] at hs;have htm:=D5 _ _ (ul5 _) (by simp only [wf,hwf.1,hwf.2,uk0]) v hf;obtain ⟨x,y,rfl,h1,h2⟩:=Me hf
   cases o with
   | tup o=>
     rcases tm2 htm o with ⟨a,b,x',y',f1,f2,rfl,e,oa,ob,_,_⟩ | ⟨o',k,b,y',f2,rfl,e,ob,_⟩
     ·cases e
      rw [AN] at hlen ⊢;rw [ue3] at hlen;rw [Sh.d];symm;refine GN ?_;refine BH ?_;symm;refine FE ?_;symm;refine (hc s (by lia) hwf.1 oa h1 (by lia)).use ⟨_,rfl,?_⟩;refine BH ?_;symm;refine FE ?_;symm;refine (hc r (by lia) hwf.2 ob h2 (by lia)).use ⟨_,rfl,?_⟩;symm;refine DG (by lia) ?_;exact ⟨rfl,rfl⟩
     ·cases e
 | choice ss=>
   have htm:=D5 _ _ (ul5 _) hwf v hf;simp only [wf,ug5,uf8] at hwf;rw [Sh.depth] at hs;obtain ⟨k,x,hk,rfl,h1⟩:=Ji hf
   cases o with
   | tup o=>
     rcases tm2 htm o with ⟨a,b,x',y',f1,f2,rfl,e,oa,ob,_,_⟩ | ⟨o',k',b,y',f2,rfl,e,ob,_⟩
     ·cases e
     ·cases e
      have e1:ss[k]?=some ss[k]:=ub3 hk;rw [AN,uf2] at hlen ⊢;rw [EI ss _ _ _ e1] at hlen ⊢;rw [ug1] at hlen;rw [Sh.d];symm;refine GN ?_;symm;refine FE ?_;symm;refine EE (Zb hk) ?_;symm;refine (hc _ (uk7 (CB ss _ _ e1) (by lia)) (D9 hwf.2 _ (uh2 hk)) ob h1 (by lia)).use ⟨_,rfl,?_⟩;symm;refine DG (by simp only [ug1,ui2];lia) ?_;exact ⟨rfl,rfl⟩
mutual
theorem Ow.isl {S:List Ob}{d v:D}{fp:List Nat}(r:Ow S d v fp):∀i∈fp,∃ds,S[i]?=some (.lst ds):=by
 cases r with
 | tup o=>exact Ows.isl o
 | obj e o n=>exact λi h=>(uj5.mp h).elim (λz=>by rw [z];exact ⟨_,e⟩) (Ows.isl o i)
 | _=>exact λk h=>nomatch h
theorem Ows.isl {S:List Ob}{ds vs:List D}{fp:List Nat}(r:Ows S ds vs fp):∀i∈fp,∃ds,S[i]?=some (.lst ds):=by
 cases r with
 | nil=>exact λk h=>nomatch h
 | cons a b n=>exact λi h=>(uh4.mp h).elim (Ow.isl a i) (Ows.isl b i)
end
abbrev bsF (g:List GS)(x:Str)(h W P:Nat)(E:List (Str×D)):List (Str×D):=("grammar",.lst (g.map GS.d)) :: ("standing",.int (h:Nat)) :: ("wires",.obj W) :: ("places",.obj P) :: ("side",.str x) :: E
structure Ins (S:List Ob)(n:Str)(E:List (Str×D))(g:List GS)(x o:Str)(h a:Nat)(w:List Nat)(k l W P:Nat):Prop where
 ik:S[k]?=some (.ins n (bsF g x h W P E))
 iw:S[W]?=some (.dct (d1 o (.obj l)))
 ip:S[P]?=some (.dct (d1 o (.int (a:Nat))))
 il:S[l]?=some (.lst (wD w))
 el:E.length<=100
variable {F:List Nat}
section
variable {S S':List Ob}{n:Str}{E:List (Str×D)}{g:List GS}{x o:Str}{h a:Nat}{w:List Nat}{k l W P:Nat}
theorem Ins.keep (R:Ins S n E g x o h a w k l W P)(K:Kx F S S')(n1:k∉F)(n2:l∉F)(n4:W∉F)(n5:P∉F):Ins S' n E g x o h a w k l W P:=
 ⟨K.get n1 R.ik,K.get n4 R.iw,K.get n5 R.ip,K.get n2 R.il,R.el⟩
theorem Ins.gr (R:Ins S n E g x o h a w k l W P)(G:Gr S S'):Ins S' n E g x o h a w k l W P:=⟨G.get R.ik,G.get R.iw,G.get R.ip,G.get R.il,R.el⟩
theorem Ins.ext (R:Ins S n E g x o h a w k l W P)(y:List Nat):Ins (S.set l (.lst (wD w++wD y))) n E g x o h a (w++y) k l W P:=
 ⟨Aq R.ik (Ah R.il R.ik (by simp)),Aq R.iw (Ah R.il R.iw (by simp)),Aq R.ip (Ah R.il R.ip (by simp)),by rw [<-Hu];exact Bf R.il,R.el⟩
theorem Ins.put {h' a' Q:Nat}{E':List (Str×D)}(R:Ins S n E g x o h a w k l W P)(e:S[Q]?=some (.dct (d1 o (.int (a':Nat)))))(l':E'.length<=100):Ins (S.set k (.ins n (bsF g x h' W Q E'))) n E' g x o h' a' w k l W Q:=
 ⟨Bf R.ik,Aq R.iw (Ah R.ik R.iw (by simp)),Aq e (Ah R.ik e (by simp)),Aq R.il (Ah R.ik R.il (by simp)),l'⟩
theorem Ins.fl (R:Ins S n E g x o h a w k l W P):(bsF g x h W P E).length < 1000:=by
 have:=R.el;show E.length + 1 + 1 + 1 + 1 + 1 < 1000;lia
end
theorem Q3 {k:Nat}{g:M (List D)}(w:F2.W f t λo t1=>o = .obj k/\(∃xs0,t1.S[k]?=some (.lst xs0))/\F2.W g t1 λds t2=>ds=[.obj j]/\∃xs ys,t2.S[k]?=some (.lst xs)/\t2.S[j]?=some (.lst ys)/\xs.length + ys.length<=LIM/\P .non ⟨t2.env,t2.S.set k (.lst (xs++ys))⟩):F2.W (objX f g) t P:=by
 refine BH (w.mono λo t1 z=>?_);obtain ⟨rfl,⟨x0,e0⟩,ds,t2,e1,rfl,xs,ys,e2,e3,e4,p⟩:=z;refine ⟨_,_,?_,p⟩;simp only [e0,bnd,e1,e2,e3,if_pos e4]
def N0 (f:Fn):Prop:=∀(S:List Ob) (n:Str) (E:List (Str×D)) (g:List GS) (x o:Str) (h a:Nat) (w y:List Nat) (k l W P p0:Nat) (t:List D) (h' a1 b1:Nat),GOk g->Two x o->h < g.length->a<=w.length->(w++y).length<=25000->w1 g o (w++y) ((w++y).length + 1) h a []=(t,h',a1,b1,none)->S[p0]?=some (.lst (wD y))->Ins S n E g x o h a w k l W P->
 Wf f [.obj k,.str o,.obj p0] S λr S'=>r = .lst t/\Kx [k,l] S S'/\∃P',Ins S' n E g x o h' (onS o a1 b1) (w++y) k l W P'
theorem R0 (hc:JH c):N0 (fnOf 3 4 (DV c)):=by
 intro S n E g x o h a w y k l W P p0 t h' a1 b1 hg ho hh ha hl hw hp0 R;have hL:LIM=100000:=rfl;have hly:w.length + y.length<=25000:=by rw [ue3] at hl;exact hl
 refine Ao rfl ?_;unfold DV;symm;refine Q3 (k:=l) (j:=p0) ?_;symm;refine Br R.ik rfl ?_;symm;refine O1 R.iw Je ?_;refine ⟨rfl,⟨_,R.il⟩,?_⟩;symm;refine ⟨rfl,_,_,R.il,hp0,by rw [Bp,Bp,hL];lia,?_⟩;have R1:=R.ext y;have K1:Kx [k,l] S (S.set l (.lst (wD w++wD y))):=Kx.refl.set (by simp);generalize S.set l (.lst (wD w++wD y))=S1 at R1 K1 ⊢;symm;refine Br R1.ik rfl ?_;symm;refine Br R1.ik rfl ?_;symm;refine Br R1.ik rfl ?_;symm;refine Br R1.ik rfl ?_;symm;refine (hc g o (w++y) (.obj l) h a W P S1 hg ho.o hh (by rw [ue3];lia) hl (.inr ⟨l,rfl,R1.il⟩) R1.iw R1.ip).mono λr S2 z9=>?_;obtain ⟨hG,hr⟩:=z9;have R2:=R1.gr hG;have K2:=K1.gr hG;rw [hw] at hr;obtain ⟨K,rfl,hK⟩:=hr;symm;refine BI R2.ik R2.fl ?_;symm;refine BI (Bf R2.ik) R2.fl ?_;symm;refine ⟨rfl,rfl,(K2.set (by simp)).set (by simp),K,?_⟩;show Ins ((S2.set k (.ins n (bsF g x h' W P E))).set k (.ins n (bsF g x h' W K E))) n E g x o h' (onS o a1 b1) (w++y) k l W K;rw [List.set_set];exact R2.put hK R2.el
def HA (f:Fn):Prop:=∀(S:List Ob) (n:Str) (E:List (Str×D)) (g:List GS) (x o:Str) (h a:Nat) (w y:List Nat) (k l W P p0:Nat) (t:List D) (h' a1 b1:Nat),(n = "Lasting"\/n = "Side")->GOk g->Two x o->h < g.length->a<=w.length->(w++y).length<=25000->w1 g o (w++y) ((w++y).length + 1) h a []=(t,h',a1,b1,none)->S[p0]?=some (.lst (wD y))->Ins S n E g x o h a w k l W P->
 Wf f [.obj k,.obj p0] S λr S'=>r = .lst t/\Kx [k,l] S S'/\∃P',Ins S' n E g x o h' (onS o a1 b1) (w++y) k l W P'
theorem ZE {g:M D}(h:F2.W f t P):F2.W (Gk f g) t P:=by
 obtain ⟨r,t',e,p⟩:=h;exact ⟨r,t',by simp only [Gk,e],p⟩
theorem ZF {g:M D}(e:f t=none)(h:F2.W g t P):F2.W (Gk f g) t P:=by
 obtain ⟨r,t',e',p⟩:=h;exact ⟨r,t',by simp only [Gk,e,e'],p⟩
theorem Qg {n:Str}{fl:M (List D)}{k:Nat}{fs:List (Str×D)}{env:List (Option Sl)}(e:env[i]?=some (some (.val (.obj k))))(hk:S[k]?=some (.ins n fs))(hn:n≠m):AV m c (Aa i) fl ⟨env,S⟩=none:=by
 unfold AV;have h1:Aa i ⟨env,S⟩=some (.obj k,⟨env,S⟩):=by simp only [Aa,e]
 simp only [bnd,h1,EU,hk,if_neg hn];rfl
theorem Ox {co ch:Fn}(h1:Lg co)(h2:N0 ch):HA (fnOf 2 2 (DX co ch)):=by
 intro S n E g x o h a w y k l W P p0 t h' a1 b1 hn hg ho hh ha hl hw hp0 R;refine Ao rfl ?_;unfold DX;have key:∀m:Str,n=m->∀Q:D->T->Prop,(∀S',Kx [k,l] S S'/\(∃P',Ins S' n E g x o h' (onS o a1 b1) (w++y) k l W P')->Q (.lst t) ⟨[some (.val (.obj k)),some (.val (.obj p0))],S'⟩)->F2.W (AV m ch (Aa 0) (Ab (Ak co (Ab (BV "side" (Aa 0)) Ad)) (Ab (Aa 1) Ad))) ⟨[some (.val (.obj k)),some (.val (.obj p0))],S⟩ Q:=by
  intro m hm Q hQ;subst hm;symm;refine ⟨k,_,rfl,R.ik,?_⟩;symm;refine Br R.ik rfl ?_;symm;refine (h1 x o ho).use ?_;symm;refine (h2 S n E g x o h a w y k l W P p0 t h' a1 b1 hg ho hh ha hl hw hp0 R).mono λr S' z=>?_;obtain ⟨rfl,z⟩:=z;exact hQ S' z
 refine Yx ?_;rcases hn with hn | hn
 ·exact ZE (key _ hn _ λS' z=>⟨rfl,z⟩)
 ·exact ZF (Qg rfl R.ik (by rw [hn];decide)) (key _ hn _ λS' z=>⟨rfl,z⟩)
def Pf (f:Fn):Prop:=∀(S:List Ob) (g:List GS) (x o:Str) (h a:Nat) (w y:List Nat) (k l W P p0:Nat) (t:List D) (h' a1 b1:Nat),GOk g->Two x o->h < g.length->a<=w.length->(w++y).length<=25000->w1 g o (w++y) ((w++y).length + 1) h a []=(t,h',a1,b1,none)->S[p0]?=some (.lst (wD y))->Ins S "Side" [] g x o h a w k l W P->
 Wf f [.obj k,.obj p0] S λr S'=>r = .lst t/\Kx [k,l] S S'/\∃P',Ins S' "Side" [] g x o h' (onS o a1 b1) (w++y) k l W P'
theorem QU (hc:HA c):Pf (fnOf 2 2 (Ev c)):=by
 intro S g x o h a w y k l W P p0 t h' a1 b1 hg ho hh ha hl hw hp0 R;refine Ao rfl ?_;unfold Ev;symm;refine ⟨k,_,rfl,R.ik,?_⟩;symm;refine (hc S "Side" [] g x o h a w y k l W P p0 t h' a1 b1 (.inr rfl) hg ho hh ha hl hw hp0 R).mono λr S' z=>?_;obtain ⟨rfl,z⟩:=z;symm;exact ⟨rfl,z⟩
abbrev lE (q tk hd:Nat):List (Str×D):=[("said",.obj q),("taken",.int (tk:Nat)),("handed",.int (hd:Nat))]
def Pe (f:Fn):Prop:=∀(S:List Ob) (g:List GS) (x o:Str) (h a:Nat) (w y:List Nat) (k l W P p0 q tk hd:Nat) (t:List D) (h' a1 b1:Nat),GOk g->Two x o->h < g.length->a<=w.length->(w++y).length<=25000->w1 g o (w++y) ((w++y).length + 1) h a []=(t,h',a1,b1,none)->S[p0]?=some (.lst (wD y))->p0≠l->Ins S "Lasting" (lE q tk hd) g x o h a w k l W P->
 Wf f [.obj k,.obj p0] S λr S'=>r = .lst t/\Kx [k,l] S S'/\∃P',Ins S' "Lasting" (lE q (tk + y.length) hd) g x o h' (onS o a1 b1) (w++y) k l W P'
theorem QT (hc:HA c):Pe (fnOf 2 3 (Eu c)):=by
 intro S g x o h a w y k l W P p0 q tk hd t h' a1 b1 hg ho hh ha hl hw hp0 hpl R;refine Ao rfl ?_;unfold Eu;symm;refine ⟨k,_,rfl,R.ik,?_⟩;symm;refine (hc S "Lasting" _ g x o h a w y k l W P p0 t h' a1 b1 (.inl rfl) hg ho hh ha hl hw hp0 R).mono λr S' z=>?_;obtain ⟨rfl,K,P',R'⟩:=z;have hp1:=K.get (by simp only [uj5,uh0,or_false,not_or];exact ⟨Ah hp0 R.ik (by simp),hpl⟩) hp0;symm;refine Br R'.ik rfl ?_;symm;refine GM hp1 ?_;symm;refine BI R'.ik R'.fl ?_;symm;refine ⟨rfl,rfl,K.set (by simp),P',?_⟩;rw [Bp];exact R'.put (E':=lE q (tk + y.length) hd) R'.ip (by show 3<=100;decide)
def JG (f:Fn):Prop:=∀(g:List GS) (q p:Nat) (v d:D) (fp:List Nat) (S:List Ob),GOk g->MvOk g q p v->Ow S d v fp->tm v=true->PureO S f [(AD g q).d,.tup [.str (AD g q).side,.str (wdAt g q p).1,d]] (.int p)
theorem OG {cf:Fn}(hf:Gf cf 3)(hp:Gg cp):JG (fnOf 2 3 (Dn cf cp)):=by
 intro g q p v d fp S hg hm ho htm;refine Ao rfl ?_;unfold Dn;obtain ⟨side,ws,e,hpl,ew⟩:=FQ hm.pl;have hgs:=Dv hg hm.lt;have hw:=GO hg hm.lt hm.pl;have hfit:=hm.fit;rw [e] at hgs ⊢;generalize wdAt g q p=w at ew hw hfit ⊢;show F2.W _ ⟨[some (.val (.tup [.str side,.lst (ws.map wdD)])),some (.val (.tup [.str side,.str w.1,d])),none],S⟩ _;right;refine Dg (by simp) ?_;right;have hpn:=hp g.length (.st side ws) w.1 hgs;have hidx:((GS.st side ws).ws.findIdx? λx=>x.1 == w.1)=some p:=by
  cases hgs with
  | st _ _ _ h4 _=>exact On h4 ew
 rw [hidx] at hpn;refine hpn.use ?_;show CT _ _ .next ⟨[some (.val (.tup [.str side,.lst (ws.map wdD)])),some (.val (.tup [.str side,.str w.1,d])),some (.val (.int p))],S⟩;right;refine Bk (EN ew) ?_;unfold wdD;right;refine (hf w.2.1 hw.dep ho htm).use ?_;rw [hfit];right;exact ⟨rfl,rfl⟩
def N2 (f:Fn):Prop:=∀(g:List GS) (q p:Nat) (v d:D) (fp:List Nat) (S:List Ob),GOk g->MvOk g q p v->Ow S d v fp->(AN (wdAt g q p).2.1 v).length + 1<=LIM->PureO S f [(AD g q).d,.int p,d] (.lst (mbQ g q p v))
theorem Sm (hc:IM c 3):N2 (fnOf 3 3 (Dm c)):=by
 intro g q p v d fp S hg hm ho hl;obtain ⟨side,ws,e,hpl,ew⟩:=FQ hm.pl;have hw:=GO hg hm.lt hm.pl;have hfit:=hm.fit;refine Ao rfl ?_;unfold Dm mbQ;rw [e];generalize wdAt g q p=w at ew hw hfit hl ⊢;rw [GS.d];refine GN ?_;refine BH ?_;symm;refine FE ?_;symm;refine Bk (EN ew) ?_;unfold wdD;symm;refine (hc w.2.1 hw.dep hw.ok ho hfit (by lia)).use ?_;refine ⟨_,rfl,?_⟩;symm;refine DG (by simp only [ug1,ui2];lia) ?_;exact ⟨rfl,rfl⟩
structure HeaG (n:Str)(S S':List Ob)(k W P l:Nat)(o:Str)(fs:List (Str×D)):Prop where
 kp:Kp k S S'
 ik:S'[k]?=some (.ins n fs)
 iw:S'[W]?=some (.dct (d1 o (.obj l)))
 ip:S'[P]?=some (.dct (d1 o (.int (0:Nat))))
 il:S'[l]?=some (.lst [])
 gw:S.length<=W
 gp:S.length<=P
 gl:S.length<=l
variable {l:Nat}
theorem HeaG.put {n:Str}{k W P:Nat}{o:Str}{fs fs':List (Str×D)}(R:HeaG n S S' k W P l o fs):HeaG n S (S'.set k (.ins n fs')) k W P l o fs':=
 ⟨R.kp.setk,Bf R.ik,Aq R.iw (Ah R.ik R.iw (by simp)),Aq R.ip (Ah R.ik R.ip (by simp)),Aq R.il (Ah R.ik R.il (by simp)),R.gw,R.gp,R.gl⟩
theorem HeaG.app {n:Str}{S S':List Ob}{k W P l:Nat}{o:Str}{fs:List (Str×D)}{b:Ob}(R:HeaG n S S' k W P l o fs):HeaG n S (S'++[b]) k W P l o fs:=
 ⟨R.kp.app,A5 R.ik,A5 R.iw,A5 R.ip,A5 R.il,R.gw,R.gp,R.gl⟩
def LA (f:Fn):Prop:=∀(n:Str) (S:List Ob) (k:Nat) (g:List GS) (o:Str),GOk g->S[k]?=some (.ins n [])->Wf f [.obj k,.lst (g.map GS.d),.tup [.str o]] S λr S'=>r = .non/\∃W P l,HeaG n S S' k W P l o (heF g W P)
theorem PY (hc:NZ c):LA (fnOf 3 4 (Eh c)):=by
 intro n S k g o hg hk;have hkl:=AW hk;refine Ao rfl ?_;unfold Eh;symm;refine (hc g hg).use ?_;symm;refine BI hk (by show 0 < 1000;decide) ?_;have k1:Kp k S (S.set k (.ins n [("grammar",.lst (g.map GS.d))])):=Kp.refl.setk;have g1:(S.set k (.ins n [("grammar",.lst (g.map GS.d))]))[k]?=some (.ins n [("grammar",.lst (g.map GS.d))]):=Bf hk;show CT _ _ Out.next ⟨_,S.set k (.ins n [("grammar",.lst (g.map GS.d))])⟩;generalize S.set k (.ins n [("grammar",.lst (g.map GS.d))])=S1 at k1 g1 ⊢;symm;refine BI g1 (by show 1 < 1000;decide) ?_;have k2:Kp k S (S1.set k (.ins n [("grammar",.lst (g.map GS.d)),("standing",.int (0:Nat))])):=k1.setk;have g2:(S1.set k (.ins n [("grammar",.lst (g.map GS.d)),("standing",.int (0:Nat))]))[k]?=some (.ins n [("grammar",.lst (g.map GS.d)),("standing",.int (0:Nat))]):=Bf g1;show CT _ _ Out.next ⟨_,S1.set k (.ins n [("grammar",.lst (g.map GS.d)),("standing",.int (0:Nat))])⟩;generalize S1.set k (.ins n [("grammar",.lst (g.map GS.d)),("standing",.int (0:Nat))])=S2 at k2 g2 ⊢;symm;refine BI (A5 g2) (by show 2 < 1000;decide) ?_;obtain ⟨W,hW⟩:∃W,W=S2.length:=⟨_,rfl⟩;have w3:((S2++[Ob.dct []]).set k (.ins n [("grammar",.lst (g.map GS.d)),("standing",.int (0:Nat)),("wires",.obj W)]))[W]?=some (.dct []):=by rw [hW];exact Aq CZ (uk6 (AW g2))
 have k3:Kp k S ((S2++[Ob.dct []]).set k (.ins n [("grammar",.lst (g.map GS.d)),("standing",.int (0:Nat)),("wires",.obj W)])):=k2.app.setk;have g3:((S2++[Ob.dct []]).set k (.ins n [("grammar",.lst (g.map GS.d)),("standing",.int (0:Nat)),("wires",.obj W)]))[k]?=some (.ins n [("grammar",.lst (g.map GS.d)),("standing",.int (0:Nat)),("wires",.obj W)]):=Bf (A5 g2);have hSW:S.length<=W:=by rw [hW];exact k2.1
 show CT _ _ Out.next ⟨_,(S2++[Ob.dct []]).set k (.ins n [("grammar",.lst (g.map GS.d)),("standing",.int (0:Nat)),("wires",.obj S2.length)])⟩;rw [<-hW];generalize (S2++[Ob.dct []]).set k (.ins n [("grammar",.lst (g.map GS.d)),("standing",.int (0:Nat)),("wires",.obj W)])=S3 at w3 k3 g3 ⊢;symm;refine BI (A5 g3) (by show 3 < 1000;decide) ?_;obtain ⟨P,hP⟩:∃P,P=S3.length:=⟨_,rfl⟩;have w4:((S3++[Ob.dct []]).set k (.ins n (heF g W P)))[W]?=some (.dct []):=Aq (A5 w3) (Ah g3 w3 (by simp));have p4:((S3++[Ob.dct []]).set k (.ins n (heF g W P)))[P]?=some (.dct []):=by rw [hP];exact Aq CZ (uk6 (AW g3))
 have k4:Kp k S ((S3++[Ob.dct []]).set k (.ins n (heF g W P))):=k3.app.setk;have g4:((S3++[Ob.dct []]).set k (.ins n (heF g W P)))[k]?=some (.ins n (heF g W P)):=Bf (A5 g3);have hWP:W < P:=by rw [hP];exact AW w3
 show CT _ _ Out.next ⟨_,(S3++[Ob.dct []]).set k (.ins n (heF g W S3.length))⟩;rw [<-hP];generalize (S3++[Ob.dct []]).set k (.ins n (heF g W P))=S4 at w4 p4 k4 g4 ⊢;symm;have hWk:W≠k:=λe=>by subst e;lia
 have hPk:P≠k:=λe=>by subst e;lia
 refine W_forL_cons.mpr ?_;symm;refine Br (A5 g4) rfl ?_;symm;refine IK (A5 w4) (by show 0 < 100000;decide) ?_;obtain ⟨l,hl⟩:∃l,l=S4.length:=⟨_,rfl⟩;have hlk:k < l:=by rw [hl];exact AW g4
 have hlW:W < l:=by rw [hl];exact AW w4
 have hlP:P < l:=by rw [hl];exact AW p4
 have k5:Kp k S ((S4++[Ob.lst []]).set W (.dct (d1 o (.obj l)))):=k4.app.set hSW;have g5:((S4++[Ob.lst []]).set W (.dct (d1 o (.obj l))))[k]?=some (.ins n (heF g W P)):=Aq (A5 g4) hWk;have w5:((S4++[Ob.lst []]).set W (.dct (d1 o (.obj l))))[W]?=some (.dct (d1 o (.obj l))):=Bf (A5 w4);have p5:((S4++[Ob.lst []]).set W (.dct (d1 o (.obj l))))[P]?=some (.dct []):=Aq (A5 p4) (by lia);have l5:((S4++[Ob.lst []]).set W (.dct (d1 o (.obj l))))[l]?=some (.lst []):=by rw [hl];exact Aq CZ (by lia)
 show CT _ _ Out.next ⟨_,(S4++[Ob.lst []]).set W (.dct (d1 o (.obj S4.length)))⟩;rw [<-hl];generalize (S4++[Ob.lst []]).set W (.dct (d1 o (.obj l)))=S5 at k5 g5 w5 p5 l5 ⊢;symm;refine Br g5 rfl ?_;symm;refine IK p5 (by show 0 < 100000;decide) ?_;show F2.W (Cw _ _ []) ⟨_,S5.set P (.dct (d1 o (.int (0:Nat))))⟩ _;refine W_forL_nil.mpr ?_;exact ⟨rfl,W,P,l,k5.set (by lia),Aq g5 hPk,Aq w5 (by lia),Bf p5,Aq l5 (by lia),hSW,by lia,by lia⟩
def IN (f:Fn):Prop:=∀(n:Str) (S:List Ob) (k:Nat) (g:List GS) (x o:Str),GOk g->Two x o->S[k]?=some (.ins n [])->Wf f [.obj k,.lst (g.map GS.d),.str x] S λr S'=>r = .non/\∃W P l,HeaG n S S' k W P l o (bsF g x 0 W P [])
theorem QK {co ch:Fn}(h1:Lg co)(h2:LA ch):IN (fnOf 3 3 (EY co ch)):=by
 intro n S k g x o hg ho hk;refine Ao rfl ?_;unfold EY;symm;refine (h1 x o ho).use ?_;symm;refine (h2 n S k g o hg hk).mono λr S' z9=>?_;obtain ⟨e,W,P,l,R⟩:=z9;subst e;symm;refine BI R.ik (by show 4 < 1000;decide) ?_;symm;exact ⟨rfl,W,P,l,R.put⟩
def LB (f:Fn):Prop:=∀(S:List Ob) (k:Nat) (g:List GS) (x o:Str),GOk g->Two x o->S[k]?=some (.ins "Lasting" [])->Wf f [.obj k,.lst (g.map GS.d),.str x] S λr S'=>r = .non/\Kp k S S'/\∃W P l q,Ins S' "Lasting" (lE q 0 0) g x o 0 0 [] k l W P/\S'[q]?=some (.lst [])/\l≠q/\S.length<=l/\S.length<=q
theorem Qb (hc:IN c):LB (fnOf 3 3 (DW c)):=by
 intro S k g x o hg ho hk;refine Ao rfl ?_;unfold DW;symm;refine (hc "Lasting" S k g x o hg ho hk).mono λr S1 z9=>?_;obtain ⟨e,W,P,l,R⟩:=z9;subst e;symm;refine BI (A5 R.ik) (by show 5 < 1000;decide) ?_;obtain ⟨q,hq⟩:∃q,q=S1.length:=⟨_,rfl⟩;have R1:=R.app (b:=.lst []);have q1:(S1++[Ob.lst []])[q]?=some (.lst []):=by rw [hq];exact CZ
 have hlq:l≠q:=by rw [hq];exact uk6 (AW R.il)
 have hSq:S.length<=q:=by rw [hq];exact R.kp.1
 have R2:=R1.put (fs':=bsF g x 0 W P [("said",.obj q)]);have q2:=Aq (o:=.ins "Lasting" (bsF g x 0 W P [("said",.obj q)])) q1 (Ah R1.ik q1 (by simp));show CT _ _ Out.next ⟨_,(S1++[Ob.lst []]).set k (.ins "Lasting" (bsF g x 0 W P [("said",.obj S1.length)]))⟩;rw [<-hq];generalize (S1++[Ob.lst []]).set k (.ins "Lasting" (bsF g x 0 W P [("said",.obj q)]))=S2 at R2 q2 ⊢;symm;refine BI R2.ik (by show 6 < 1000;decide) ?_;have R3:=R2.put (fs':=bsF g x 0 W P [("said",.obj q),("taken",.int (0:Nat))]);have q3:=Aq (o:=.ins "Lasting" (bsF g x 0 W P [("said",.obj q),("taken",.int (0:Nat))])) q2 (Ah R2.ik q2 (by simp));show CT _ _ Out.next ⟨_,S2.set k (.ins "Lasting" (bsF g x 0 W P [("said",.obj q),("taken",.int (0:Nat))]))⟩;generalize S2.set k (.ins "Lasting" (bsF g x 0 W P [("said",.obj q),("taken",.int (0:Nat))]))=S3 at R3 q3 ⊢;symm;refine BI R3.ik (by show 7 < 1000;decide) ?_;have R4:=R3.put (fs':=bsF g x 0 W P (lE q 0 0));have q4:=Aq (o:=.ins "Lasting" (bsF g x 0 W P (lE q 0 0))) q3 (Ah R3.ik q3 (by simp));symm;exact ⟨rfl,R4.kp,W,P,l,q,⟨R4.ik,R4.iw,R4.ip,R4.il,by show 3<=100;decide⟩,q4,hlq,R4.gl,hSq⟩
def IQ (f:Fn):Prop:=∀(S:List Ob) (n:Str) (E:List (Str×D)) (g:List GS) (x o:Str) (h a:Nat) (w y:List Nat) (k l W P p:Nat) (v d:D) (fp:List Nat),GOk g->MvOk g h p v->(AD g h).side=x->mbQ g h p v=wD y->y.length<=25000->Ow S d v fp->tm v=true->Ins S n E g x o h a w k l W P->
 Wf f [.obj k,.str (wdAt g h p).1,d] S λr S'=>∃j,r = .obj j/\S'[j]?=some (.lst (wD y))/\S.length<=j/\Kx [k] S S'/\Ins S' n E g x o (Bu g h p) a w k l W P
theorem QL (hm:N2 cm)(hn:LC cn)(hp:JG cp):IQ (fnOf 3 5 (Cl cm cn cp)):=by
 intro S n E g x o h a w y k l W P p v d fp hg hv hx hy hl hO htm R;have hL:LIM=100000:=rfl;refine Ao rfl ?_;unfold Cl;have hpl:=hp g h p v d fp S hg hv hO htm;rw [hx] at hpl;have hyl:(AN (wdAt g h p).2.1 v).length + 1=y.length:=by
  have:=congrArg List.length hy;rw [ug1,Bp] at this;exact this
 symm;refine Br R.ik rfl ?_;symm;refine Br R.ik rfl ?_;symm;refine Bk (Fk hv.lt) ?_;symm;refine Br R.ik rfl ?_;symm;refine hpl.use ?_;symm;refine Br R.ik rfl ?_;symm;refine Br R.ik rfl ?_;symm;refine (hn g h p hg hv.lt hv.pl).use ?_;symm;refine BI R.ik R.fl ?_;have R1:=R.put (h':=Bu g h p) R.ip R.el;have K1:Kx [k] S (S.set k (.ins n (bsF g x (Bu g h p) W P E))):=Kx.refl.set (by simp);have hO1:Ow (S.set k (.ins n (bsF g x (Bu g h p) W P E))) d v fp:=hO.mono λi hi=>ud1 (λz=>by obtain ⟨ds,e⟩:=hO.isl i hi;rw [<-z,R.ik] at e;cases e)
 show CT _ _ Out.next ⟨_,S.set k (.ins n (bsF g x (Bu g h p) W P E))⟩;generalize S.set k (.ins n (bsF g x (Bu g h p) W P E))=S1 at R1 K1 hO1 ⊢;symm;refine FE ?_;symm;refine (hm g h p v d fp S1 hg hv hO1 (by rw [hL];lia)).use ?_;refine ⟨_,rfl,?_⟩;rw [hy];symm;exact ⟨rfl,S1.length,rfl,CZ,K1.1,K1.gr Gr.app,R1.gr Gr.app⟩
def TB (f:Fn):Prop:=∀(S:List Ob) (g:List GS) (x o:Str) (h a:Nat) (w y:List Nat) (k l W P p:Nat) (v d:D) (fp:List Nat),GOk g->MvOk g h p v->(AD g h).side=x->mbQ g h p v=wD y->y.length<=25000->Ow S d v fp->tm v=true->Ins S "Side" [] g x o h a w k l W P->
 Wf f [.obj k,.str (wdAt g h p).1,d] S λr S'=>∃j,r = .obj j/\S'[j]?=some (.lst (wD y))/\S.length<=j/\Kx [k] S S'/\Ins S' "Side" [] g x o (Bu g h p) a w k l W P
theorem SV (hc:IQ c):TB (fnOf 3 3 (EZ c)):=by
 intro S g x o h a w y k l W P p v d fp hg hv hx hy hl hO htm R;refine Ao rfl ?_;unfold EZ;symm;refine ⟨k,_,rfl,R.ik,?_⟩;symm;refine (hc S "Side" [] g x o h a w y k l W P p v d fp hg hv hx hy hl hO htm R).mono λr S' z=>?_;obtain ⟨j,rfl,z⟩:=z;symm;exact ⟨j,rfl,z⟩
def Tz (f:Fn):Prop:=∀(S:List Ob) (g:List GS) (x o:Str) (h a:Nat) (w y sd:List Nat) (k l W P p q tk hd:Nat) (v d:D) (fp:List Nat),GOk g->MvOk g h p v->(AD g h).side=x->mbQ g h p v=wD y->sd.length + y.length<=25000->Ow S d v fp->tm v=true->S[q]?=some (.lst (wD sd))->l≠q->Ins S "Lasting" (lE q tk hd) g x o h a w k l W P->
 Wf f [.obj k,.str (wdAt g h p).1,d] S λr S'=>∃j,r = .obj j/\S'[j]?=some (.lst (wD y))/\S.length<=j/\Kx [k,q] S S'/\S'[q]?=some (.lst (wD (sd++y)))/\Ins S' "Lasting" (lE q tk hd) g x o (Bu g h p) a w k l W P
theorem SU (hc:IQ c):Tz (fnOf 3 4 (B4 c)):=by
 intro S g x o h a w y sd k l W P p q tk hd v d fp hg hv hx hy hl hO htm hq hlq R;have hL:LIM=100000:=rfl;refine Ao rfl ?_;unfold B4;symm;refine ⟨k,_,rfl,R.ik,?_⟩;symm;refine (hc S "Lasting" _ g x o h a w y k l W P p v d fp hg hv hx hy (by lia) hO htm R).mono λr S' z=>?_;obtain ⟨j,rfl,hj,hjl,K,R'⟩:=z;have hq':=K.get (by simp only [ue5];exact Ah hq R.ik (by simp)) hq;have hql:=AW hq;symm;refine Q3 (k:=q) (j:=j) ?_;symm;refine Br R'.ik rfl ?_;refine ⟨rfl,⟨_,hq'⟩,?_⟩;symm;refine ⟨rfl,_,_,hq',hj,by rw [Bp,Bp,hL];lia,?_⟩;symm;have K2:Kx [k,q] S (S'.set q (.lst (wD sd++wD y))):=Kx.set ⟨K.1,λi hi n=>K.2 i hi (λz=>n (by rw [ue5] at z;rw [z];exact ud9))⟩ (by simp);refine ⟨rfl,j,rfl,Aq hj (by lia),hjl,K2,by rw [Hu];exact Bf hq',?_⟩;exact ⟨Aq R'.ik (Ah hq' R'.ik (by simp)),Aq R'.iw (Ah hq' R'.iw (by simp)),Aq R'.ip (Ah hq' R'.ip (by simp)),Aq R'.il (Ne.symm hlq),R'.el⟩
theorem ZN {l u:M (Option Int)}(h:F2.W f t λd t1=>F2.W l t1 λa t2=>F2.W u t2 λb t3=>F2.W (slF d a b) t3 Q):F2.W (Oh f l u) t Q:=BH (h.mono λ_ _ h=>BH (h.mono λ_ _ h=>BH h))
theorem ZO {k:Nat}{lo hi:Option Int}(e:t.S[k]?=some (.lst ds))(h:Q (Ca ds lo hi) t):F2.W (slF (.obj k) lo hi) t Q:=⟨_,_,by simp only [slF,e],h⟩
def Q7 (f:Fn):Prop:=∀(S:List Ob) (g:List GS) (x o:Str) (h a m:Nat) (w sd:List Nat) (k l W P q tk hd:Nat),hd<=m->m<=sd.length->S[q]?=some (.lst (wD sd))->Ins S "Lasting" (lE q tk hd) g x o h a w k l W P->
 Wf f [.obj k,.int (m:Nat)] S λr S'=>∃j,r = .obj j/\S'[j]?=some (.lst (wD (sd.drop m)))/\S.length<=j/\Kx [k] S S'/\Ins S' "Lasting" (lE q tk m) g x o h a w k l W P
theorem Ue (hc:Fc c):Q7 (fnOf 2 2 (Be c)):=by
 intro S g x o h a m w sd k l W P q tk hd h1 h2 hq R;refine Ao rfl ?_;unfold Be;symm;refine Br R.ik rfl ?_;symm;refine Br R.ik rfl ?_;symm;refine GM hq ?_;symm;refine (hc (S:=S) hd (wD sd).length (.int (m:Int))).use ?_;rw [show C1 (hd:Int) ((wD sd).length:Nat) (.int (m:Int))=true by rw [Bp];simp only [C1,ug5,uf8];lia];symm;refine BI R.ik R.fl ?_;have R1:=R.put (h':=h) (E':=lE q tk m) R.ip (by show 3<=100;decide);have K1:Kx [k] S (S.set k (.ins "Lasting" (bsF g x h W P (lE q tk m)))):=Kx.refl.set (by simp);have q1:=Aq (o:=.ins "Lasting" (bsF g x h W P (lE q tk m))) hq (Ah R.ik hq (by simp));show CT _ _ Out.next ⟨_,S.set k (.ins "Lasting" (bsF g x h W P (lE q tk m)))⟩;generalize S.set k (.ins "Lasting" (bsF g x h W P (lE q tk m)))=S1 at R1 K1 q1 ⊢;symm;refine ZN ?_;symm;refine Br R1.ik rfl ?_;symm;refine ZO q1 ?_;rw [L7];symm;exact ⟨rfl,S1.length,rfl,CZ,K1.1,K1.gr Gr.app,R1.gr Gr.app⟩
def Q8 (f:Fn):Prop:=∀(S:List Ob) (g:List GS) (x o:Str) (h a:Nat) (m:Int) (w sd:List Nat) (k l W P q tk hd:Nat),(m < hd\/(sd.length:Int) < m)->S[q]?=some (.lst (wD sd))->Ins S "Lasting" (lE q tk hd) g x o h a w k l W P->PureO S f [.obj k,.int m] (.exc "NoName" [])
theorem Uf (hc:Fc c):Q8 (fnOf 2 2 (Be c)):=by
 intro S g x o h a m w sd k l W P q tk hd h1 hq R;refine Ao rfl ?_;unfold Be;symm;refine Br R.ik rfl ?_;symm;refine Br R.ik rfl ?_;symm;refine GM hq ?_;symm;refine (hc (S:=S) hd (wD sd).length (.int m)).use ?_;rw [show C1 (hd:Int) ((wD sd).length:Nat) (.int m)=false by rw [Bp];simp only [C1,Bool.and_eq_false_iff,decide_eq_false_iff_not];lia];symm;exact ⟨rfl,rfl⟩
local macro_rules | `(tactic| walk_at "y1")=>`(tactic| first | walk_at "x1" | clear 31 H9 To Ko MU MW Ua T9 | clear 32 O2)
def LI (f:Fn)(n:Nat):Prop:=∀(s:Sh),s.depth<=n->wf s=true->B6 s=true->Dt s=true->∀(cell:Int) (S:List Ob),Wf f [s.d,.int cell] S λr S'=>Gw S S'/\∃(d v:D) (l:Int) (fp:List Nat),r = .tup [d,.int l]/\Ai s v=true/\Ow S' d v fp/\∀i∈fp,S.length<=i
theorem Q0 {f:Fn}:LI f 0:=λs h=>absurd s.depth_pos (by lia)
theorem VU (hc:LI c n):LI (fnOf 2 10 (D0 c)) (n + 1):=by
 intro s hs hw hn ht cell S;have hL:LIM=100000:=rfl;refine Ao rfl ?_;unfold D0
 cases s with
 | nothing=>
   rw [Sh.d];right;exact ⟨.refl,_,_,_,_,rfl,rfl,.non,λ_ z=>nomatch z⟩
 | number lo hi=>
   simp only [wf,ug5,uf8] at hw;simp only [B6,uf8] at hn;rw [Sh.d];right;refine FV (by lia) ?_;right;refine IJ (by lia) (by lia) ?_;right;refine ⟨.refl,_,_,_,_,rfl,?_,.int _,λ_ z=>nomatch z⟩;have h1:=ui7 cell (b:=hi - lo + 1) (by lia);have h2:=ue8 cell (b:=hi - lo + 1) (by lia);simp only [Ai,ug5,uf8];lia
 | text m=>
   simp only [wf,ug5,uf8] at hw;simp only [Dt,uf8] at ht;rw [Sh.d];right;refine FV (by lia) ?_;have h1:=ui7 cell (b:=m + 1) (by lia);have h2:=ue8 cell (b:=m + 1) (by lia);right;refine IJ (by lia) (by lia) ?_;right;refine Zz ?_;right;refine Hw (CV (by lia) (by lia)) ?_;refine (FF (f:=λd=>.str ⟨#[ch4 (cell / (m + 1)) d]⟩) (fr:=[some (.val (.int (cell / (m + 1))))]) ?_).mono ?_
   ·intro d hd;obtain ⟨k,rfl,k0,k1⟩:=Kj hd;right;refine Bk (YZ k0 (by lia)) ?_;refine IJ (TV k).1 (TV k).2 ?_;right;refine bh (by decide +kernel) (Yb _) ?_;exact ⟨rfl,rfl⟩
   ·rintro xs t' ⟨rfl,hS⟩;refine DG (by rw [uh6,D2,hL];lia) ?_;right;have e1:(Bd 0 (cell % (m + 1)).toNat).map (λd=>D.str ⟨#[ch4 (cell / (m + 1)) d]⟩)=((Bd 0 (cell % (m + 1)).toNat).map (ch4 (cell / (m + 1)))).map λn=>D.str ⟨#[n]⟩:=by rw [List.map_map];rfl
    refine ⟨_,_,_,rfl,rfl,by rw [e1];exact Ht _,⟨by decide +kernel,by rw [uh6,uh6,D2];lia⟩,?_⟩;right;rw [hS];refine ⟨.refl,_,_,_,_,rfl,?_,.str _,λ_ z=>nomatch z⟩;simp only [Ai,ug5,uf8];rw [FN,Ou,uh6,D2];refine ⟨by lia,?_⟩;rw [ug9];intro z hz;obtain ⟨d,hd,rfl⟩:=ul3.mp hz;obtain ⟨k,rfl,_,_⟩:=Kj hd;exact S9 _
 | list s m=>
   rw [Sh.depth] at hs;simp only [wf,ug5,uf8] at hw;rw [B6] at hn;simp only [Dt,ug5,uf8] at ht;rw [Sh.d];right;refine FV (by lia) ?_;have h1:=ui7 cell (b:=m + 1) (by lia);have h2:=ue8 cell (b:=m + 1) (by lia);right;refine IJ (by lia) (by lia) ?_;right;refine Hw (CV (by lia) (by lia)) ?_;refine EG (λr t=>∃(l:Int) (ds vs:List D) (fp:List Nat) (S':List Ob) (e6 e7 e8 e9:Option Sl),vs.length + r.length=(cell % (m + 1)).toNat/\(∀d∈vs,Ai s d=true)/\Gw S S'/\S'[S.length]?=some (.lst ds)/\Ows S' ds vs fp/\(∀i∈fp,S.length < i)/\t=⟨[some (.val (.tup [.str "list",s.d,.int m])),some (.val (.int cell)),some (.val (.str "list")),some (.val (.int (cell % (m + 1)))),some (.val (.int l)),some (.val (.obj S.length)),e6,e7,e8,e9],S'⟩) _ _ ⟨_,[],[],[],S++[.lst []],none,none,none,none,by rw [D2];simp,by simp,.app,Wm,.nil,(λ_ z=>nomatch z),rfl⟩ ?_ ?_
   ·rintro d r t ⟨l,ds,vs,fp,S',e6,e7,e8,e9,hl,hf,hG,hK,ho,hfp,rfl⟩ _;rw [ug1] at hl;right;refine (hc s (by lia) hw.2 hn ht.2 l S').mono ?_;rintro r' S1 ⟨hG1,d1,v1,l2,fp1,rfl,hv,ho1,hf1⟩;have hK1:=hG1.get hK;have hKl:=(ua9.mp hK).1;right;refine Ub (k:=S.length) ?_;right;refine ⟨rfl,_,hK1,?_⟩;right;refine ⟨_,_,hK1,if_pos (by rw [ho.length,hL];lia),?_⟩;right;refine ⟨l2,ds++[d1],vs++[v1],fp++fp1,_,_,_,_,_,by rw [ue3];simp only [ug1,ui2];lia,?_,(hG.trans hG1).set (ul5 _),JV hK1,?_,λi hi=>?_,rfl⟩
    ·intro d hd;rcases uh4.mp hd with h | h
     ·exact hf d h
     ·rw [ue5] at h;subst h;exact hv
    ·refine Ows.snoc (ho1.mono λk hk=>?_) ((ho.gr hG1).mono λk hk=>?_) λk hk z=>?_
     ·exact ud1 (by have:=hf1 k hk;lia)
     ·exact ud1 (by have:=hfp k hk;lia)
     ·have:=hf1 k z;have:=ho.lt k hk;lia
    ·rcases uh4.mp hi with z | z
     ·exact hfp i z
     ·have:=hf1 i z;lia
   ·rintro t ⟨l,ds,vs,fp,S',e6,e7,e8,e9,hl,hf,hG,hK,ho,hfp,rfl⟩;rw [ui2] at hl;right;refine ⟨hG,_,_,_,_,rfl,?_,.obj hK ho (λz=>uj4 _ (hfp _ z)),λk hk=>(uj5.mp hk).elim (λz=>by rw [z];exact ul5 _) λz=>uk8 (hfp k z)⟩;simp only [Ai,ug5,uf8,ug9];exact ⟨by lia,hf⟩
 | pair s r=>
   rw [Sh.depth] at hs;simp only [wf,ug5] at hw;simp only [B6,ug5] at hn;simp only [Dt,ug5] at ht;rw [Sh.d];right;refine (hc s (by lia) hw.1 hn.1 ht.1 cell S).mono ?_;rintro r' S1 ⟨hG1,d1,v1,l2,fp1,rfl,hv1,ho1,hf1⟩;right;refine (hc r (by lia) hw.2 hn.2 ht.2 l2 S1).mono ?_;rintro r' S2 ⟨hG2,d2,v2,l3,fp2,rfl,hv2,ho2,hf2⟩;right;refine ⟨hG1.trans hG2,_,_,_,_,rfl,by rw [Ai,hv1,hv2];rfl,.tup (.cons (ho1.gr hG2) (.cons ho2 .nil (λ_ _ z=>nomatch z)) λk hk z=>?_),λk hk=>?_⟩
   ·rw [uh8] at z;have:=ho1.lt k hk;have:=hf2 k z;lia
   ·rw [uh8] at hk;rcases uh4.mp hk with z | z
    ·exact hf1 k z
    ·exact uk7 hG1.1 (hf2 k z)
 | choice ss=>
   rw [Sh.depth] at hs;simp only [wf,ug5,uf8] at hw;rw [B6] at hn;rw [Dt] at ht;have h1:=ui7 cell (b:=(ss.length:Int)) (by lia);have h2:=ue8 cell (b:=(ss.length:Int)) (by lia);have hk:(cell % (ss.length:Int)).toNat < ss.length:=by lia
   have e1:ss[(cell % (ss.length:Int)).toNat]?=some ss[(cell % (ss.length:Int)).toNat]:=ub3 hk;have ea:atI (shD ss) (cell % (ss.length:Int))=some (ss[(cell % (ss.length:Int)).toNat]).d:=by
    unfold atI;rw [Et h1 (by rw [DC];exact h2)];show (shD ss)[(cell % (ss.length:Int)).toNat]?=_;rw [Gc,e1];rfl
   rw [Sh.d];right;rw [DC];refine FV (by lia) ?_;right;refine EE ea ?_;right;rw [DC];refine IJ (by lia) (by lia) ?_;right;refine (hc _ (uk7 (CB ss _ _ e1) (by lia)) (D9 hw.2 _ (uh2 hk)) (Ii hn _ (uh2 hk)) (K0 ht _ (uh2 hk)) _ _).mono ?_;rintro r' S1 ⟨hG1,d1,v1,l2,fp1,rfl,hv,ho1,hf1⟩;right;have ho:Hf (Str.ofString "of")=true:=by decide +kernel
   refine ⟨hG1,_,.tup [.str (Str.ofString "of"),.int (cell % (ss.length:Int)),v1],_,_,rfl,by simp only [Ai,ho,h1,h2,decide_true,uk2,uj9,CA ss _ _ _ e1,hv],.tup (.cons (.str _) (.cons (.int _) (.cons ho1 .nil (λ_ _ z=>nomatch z)) (λ_ z=>nomatch z)) (λ_ z=>nomatch z)),λk hk=>?_⟩;rw [ui6,ui6,uh8] at hk;exact hf1 k hk
def Lz (f:Fn)(n:Nat):Prop:=∀(S:List Ob) (d v:D) (fp:List Nat),Ow S d v fp->nvO n v=true->Wf f [d] S λr S'=>r = .non/\S'.length=S.length/\∀i,i∉fp->S'[i]?=S[i]?
theorem JR {c:Fn}{gd:Gd}{e0:Option Sl}:∀{S:List Ob} {ds vs:List D} {fp:List Nat} (z:Option Sl),Ows S ds vs fp->(∀S':List Ob,(∀i,i∉fp->S'[i]?=S[i]?)->Gon gd S')->(∀(S:List Ob) (d v:D) (f:List Nat),Ow S d v f->v∈vs->Wf c [d] S λr S'=>r = .non/\S'.length=S.length/\∀i,i∉f->S'[i]?=S[i]?)->F2.W (forG gd (AF 1) (Bi (Ak c (Ab (Aa 1) Ad))) ds) ⟨[e0,z],S⟩ λo t=>o = .next/\∃(S':List Ob) (z':Option Sl),t=⟨[e0,z'],S'⟩/\S'.length=S.length/\∀i,i∉fp->S'[i]?=S[i]?
 | S,_,_,_,z,.nil,hg,_=>IS (hg S λ_ _=>rfl) ⟨rfl,S,z,rfl,rfl,λ_ _=>rfl⟩
 | S,_,_,_,z,@Ows.cons _ d v f1 f2 ds vs a b n,hg,hc=>by
   refine MY (hg S λ_ _=>rfl) ?_;refine O5 ?_;symm;refine (hc S d v f1 a ud9).mono ?_;rintro r S1 ⟨rfl,l1,u1⟩;symm;refine ⟨rfl,?_⟩;refine (JR _ (b.mono λi hi=>u1 i λz=>n i z hi) (λS' h=>hg S' λi hi=>?_) λS d v f o m=>hc S d v f o (uc9 _ m)).mono ?_
   ·rw [uh4,not_or] at hi;exact (h i hi.2).trans (u1 i hi.1)
   ·rintro o t ⟨rfl,S',z',rfl,l2,u2⟩;refine ⟨rfl,S',z',rfl,l2.trans l1,λi hi=>?_⟩;rw [uh4,not_or] at hi;exact (u2 i hi.2).trans (u1 i hi.1)
theorem Nj (hc:n=0\/Lz c (n - 1)):Lz (fnOf 1 2 (Dh c)) n:=by
 intro S d v fp ho hv;have hL:LIM=100000:=rfl;refine Ao rfl ?_;unfold Dh;have hsub:∀{vs:List D},(v = .lst vs\/v = .tup vs)->vs.length<=1000/\∀(S:List Ob) (d u:D) (f:List Nat),Ow S d u f->u∈vs->Wf c [d] S λr S'=>r = .non/\S'.length=S.length/\∀i,i∉f->S'[i]?=S[i]?:=by
  intro vs e
  cases n with
  | zero=>rcases e with rfl | rfl <;> (simp [nvO] at hv)
  | succ m=>
    have hc:Lz c m:=hc.resolve_left (by lia);have hv':vs.length<=1000/\∀x∈vs,nvO m x=true:=by
     rcases e with rfl | rfl <;> (rw [nvO,ug5,uf8,ug9] at hv;exact hv)
    exact ⟨hv'.1,λS d u f o hu=>hc S d u f o (hv'.2 u hu)⟩
 cases ho with
 | non=>symm;exact ⟨rfl,rfl,λ_ _=>rfl⟩
 | int i=>symm;exact ⟨rfl,rfl,λ_ _=>rfl⟩
 | str x=>symm;exact ⟨rfl,rfl,λ_ _=>rfl⟩
 | @tup ds vs fp o=>
   obtain ⟨_,hs⟩:=hsub (.inr rfl);symm;refine JB (MV ?_);symm;refine Zy ?_;refine (JR _ o (λ_ _=>RZ) hs).mono ?_;rintro ot t ⟨rfl,S',z',rfl,l1,u1⟩;exact ⟨rfl,l1,u1⟩
 | @obj k ds vs fp e o nk=>
   obtain ⟨hl,hs⟩:=hsub (.inl rfl);have hdl:=o.length;symm;refine EM e rfl ?_;symm;refine JB (MV ?_);symm;refine Lv e ?_;refine (JR _ o (λS' h=>Gu ((h k nk).trans e)) hs).mono ?_;rintro ot t ⟨rfl,S',z',rfl,l1,u1⟩;have e1:=(u1 k nk).trans e;refine BR ?_;symm;refine Ub (k:=k) ?_;symm;refine ⟨rfl,_,e1,?_⟩;symm;refine ⟨_,_,e1,if_pos (by rw [hL];lia),?_⟩;have e2:(S'.set k (.lst (ds++[.int 7])))[k]?=some (.lst (ds++[.int 7])):=JV e1;have u2:∀i,i∉k :: fp->(S'.set k (.lst (ds++[.int 7])))[i]?=S[i]?:=λi hi=>by
    rw [uj5,not_or] at hi;rw [ud1 (Ne.symm hi.1)];exact u1 i hi.2
   have l2:(S'.set k (.lst (ds++[.int 7]))).length=S.length:=by rw [ui5];exact l1
   generalize S'.set k (.lst (ds++[.int 7]))=S2 at e2 u2 l2 ⊢;symm;refine EM e2 rfl ?_;symm;exact ⟨rfl,l2,u2⟩
theorem Xa {b:Bool}{m1 m2:M Out}{K:Out->T->Prop}(Pm:Out->T->Prop)(h1:b=true->F2.W m1 t Pm)(h2:b=false->F2.W m2 t Pm)(h:∀o t',Pm o t'->K o t'):EW b (F2.W m1 t K) (F2.W m2 t K):=Cr (λz=>(h1 z).mono h) λz=>(h2 z).mono h
def Nop (g:List GS)(q:Nat)(x nm:Str)(v:D):Prop:=match AD g q with
 | .fin=>True
 | .st side ws=>x≠side\/match ws.findIdx? (λw=>w.1 == nm) with
   | none=>True
   | some p=>∀w,ws[p]?=some w->Ai w.2.1 v=false
def JF (f:Fn):Prop:=∀(g:List GS) (q:Nat) (x nm:Str) (v d:D) (fp:List Nat) (S:List Ob),GOk g->q < g.length->(x=sL\/x=sR)->Ow S d v fp->tm v=true->Nop g q x nm v->PureO S f [(AD g q).d,.tup [.str x,.str nm,d]] .non
theorem OF {cf:Fn}(hf:Gf cf 3)(hp:Gg cp):JF (fnOf 2 3 (Dn cf cp)):=by
 intro g q x nm v d fp S hg hq hx ho htm hN;have hgs:=Dv hg hq;refine Ao rfl ?_;unfold Dn;unfold Nop at hN
 cases e:AD g q with
 | fin=>
   rw [GS.d];right;refine EX (by rcases hx with rfl | rfl <;> decide) ?_;right;exact ⟨rfl,rfl⟩
 | st side ws=>
   rw [e] at hgs hN;dsimp only at hN;show F2.W _ ⟨[some (.val (.tup [.str side,.lst (ws.map wdD)])),some (.val (.tup [.str x,.str nm,d])),none],S⟩ _
   by_cases hxs:x=side
   ·subst hxs;have hN:=hN.resolve_left (λz=>z rfl);right;refine Dg (by simp) ?_;right;have hpn:=hp g.length (.st x ws) nm hgs;rw [show (GS.st x ws).ws=ws from rfl] at hpn;refine hpn.use ?_
    cases ei:ws.findIdx? (λw=>w.1 == nm) with
    | none=>
      right;exact ⟨rfl,rfl⟩
    | some p=>
      rw [ei] at hN;have hpl:p < ws.length:=by
       rw [ua0] at ei;exact ei.1
      have ew:ws[p]?=some ws[p]:=ub3 hpl;have hwo:WOk g.length ws[p]:=by cases hgs with | st _ _ _ _ h5=>exact h5 _ (uh2 hpl)
      show CT _ _ .next ⟨[some (.val (.tup [.str x,.lst (ws.map wdD)])),some (.val (.tup [.str x,.str nm,d])),some (.val (.int p))],S⟩;right;refine Bk (EN ew) ?_;unfold wdD;right;refine (hf _ hwo.dep ho htm).use ?_;rw [hN _ ew];right;exact ⟨rfl,rfl⟩
   ·right;refine EX (by simp [hxs]) ?_;right;exact ⟨rfl,rfl⟩
def LH (f:Fn):Prop:=∀(S:List Ob) (n:Str) (E:List (Str×D)) (g:List GS) (x o:Str) (h a:Nat) (w:List Nat) (k l W P:Nat) (nm:Str) (v d:D) (fp:List Nat),GOk g->h < g.length->Two x o->Ow S d v fp->tm v=true->Nop g h x nm v->Ins S n E g x o h a w k l W P->PureO S f [.obj k,.str nm,d] (.exc "NoTalk" [.int 0])
theorem QM (hp:JF cp):LH (fnOf 3 5 (Cl cm cn cp)):=by
 intro S n E g x o h a w k l W P nm v d fp hg hh ho hO htm hN R;refine Ao rfl ?_;unfold Cl;symm;refine Br R.ik rfl ?_;symm;refine Br R.ik rfl ?_;symm;refine Bk (Fk hh) ?_;symm;refine Br R.ik rfl ?_;symm;refine (hp g h x nm v d fp S hg hh ho.x hO htm hN).use ?_;symm;exact ⟨rfl,rfl⟩
def Wh (f:Fn):Prop:=∀(S:List Ob) (E:List (Str×D)) (g:List GS) (x o:Str) (h a:Nat) (w:List Nat) (k l W P:Nat) (nm:Str) (v d:D) (fp:List Nat),GOk g->h < g.length->Two x o->Ow S d v fp->tm v=true->Nop g h x nm v->Ins S "Lasting" E g x o h a w k l W P->PureO S f [.obj k,.str nm,d] (.exc "NoTalk" [.int 0])
theorem Vs (hc:LH c):Wh (fnOf 3 4 (B4 c)):=by
 intro S E g x o h a w k l W P nm v d fp hg hh ho hO htm hN R;refine Ao rfl ?_;unfold B4;symm;refine ⟨k,_,rfl,R.ik,?_⟩;symm;refine (hc S "Lasting" E g x o h a w k l W P nm v d fp hg hh ho hO htm hN R).use ?_;symm;exact ⟨rfl,rfl⟩
theorem VS (h:Dt s=true):Ai s (.str (Str.ofString "abcdefgh"))=false:=by
 cases s with
 | text m=>
   simp only [Dt,uf8] at h;have e:(Str.ofString "abcdefgh").length=8:=by decide +kernel
   simp only [Ai,e,Bool.and_eq_false_iff,decide_eq_false_iff_not];exact .inl (by lia)
 | _=>rfl
theorem Ss {x nm:Str}(h:Tin (AD g q)):Nop g q x nm (.str (Str.ofString "abcdefgh")):=by
 unfold Nop
 cases e:AD g q with
 | fin=>trivial
 | st side ws=>
   rw [e] at h;refine .inr ?_
   split
   ·trivial
   ·intro w hw;exact VS (h w (ud2 hw)).tin
def Tx (f:Fn):Prop:=∀(S:List Ob) (E:List (Str×D)) (g:List GS) (x o:Str) (h a:Nat) (w:List Nat) (k l W P:Nat) (cell:Int),GOk g->Tin (AD g h)->h < g.length->Two x o->Ins S "Lasting" E g x o h a w k l W P->PureO S f [.obj k,(AD g h).d,.str x,.int cell] (.bl true)
theorem Su (hc:Wh c):Tx (fnOf 4 6 (DH c)):=by
 intro S E g x o h a w k l W P cell hg hT hh ho R;refine Ao rfl ?_;unfold DH;have tail:∀(nm:Str),F2.W (Af (As 5 (fC .non)) (Af (D3 (Cd 5 (AV "Lasting" c (Aa 0) (Ab (Aa 4) (Ab (fC (.str "abcdefgh")) Ad)))) (hNo "NoTalk" (As 5 (fC .non)) Ml)) (Ap (Ac (Aa 5) (fC .non) isC)))) ⟨[some (.val (.obj k)),some (.val (AD g h).d),some (.val (.str x)),some (.val (.int cell)),some (.val (.str nm)),none],S⟩ λo t=>o = .ret (.bl true)/\t.S=S:=by
  intro nm;symm;refine ⟨k,_,rfl,R.ik,?_⟩;symm;refine (hc S E g x o h a w k l W P nm _ _ _ hg hh ho (.str _) (by decide +kernel) (Ss hT) R).use ?_;symm;exact ⟨rfl,rfl⟩
 have hgs:=Dv hg hh
 cases e:AD g h with
 | fin=>
   rw [e] at tail;rw [GS.d] at tail ⊢;symm;refine Dg (by rcases ho.x with rfl | rfl <;> decide) ?_;refine JD (BR ?_);refine (tail _).mono ?_;rintro ot t ⟨rfl,z⟩;exact ⟨rfl,z⟩
 | st side ws=>
   rw [e] at tail hgs;rw [GS.d] at tail ⊢;symm;refine Xa (λot t'=>ot = .next/\∃nm:Str,t'=⟨[some (.val (.obj k)),some (.val (.tup [.str side,.lst (ws.map wdD)])),some (.val (.str x)),some (.val (.int cell)),some (.val (.str nm)),none],S⟩) (λz=>?_) (λz=>?_) ?_
   ·have hpos:0 < ws.length/\ws.length<=9:=by cases hgs with | st _ h2 h3 _ _=>exact ⟨h2,h3⟩
    symm;rw [uh6];refine FV (by lia) ?_;obtain ⟨wd,hwd,_⟩:=ZS (ws:=ws) (ui7 (cell / 2) (b:=(ws.length:Int)) (by lia)) (ue8 (cell / 2) (by lia));symm;refine Bk hwd ?_;unfold wdD;symm;have:cell % 2=0\/cell % 2=1:=by lia
    rcases this with q | q
    ·rw [q];symm;exact ⟨rfl,_,rfl⟩
    ·rw [q];symm;exact ⟨rfl,_,rfl⟩
   ·symm;exact ⟨rfl,_,rfl⟩
   ·rintro ot t' ⟨rfl,nm,rfl⟩;refine BR ?_;refine (tail nm).mono ?_;rintro ot t ⟨rfl,z⟩;exact ⟨rfl,z⟩
def Wg (f:Fn):Prop:=∀(S:List Ob) (g:List GS) (x o:Str) (h a:Nat) (m:Int) (w sd:List Nat) (k l W P q tk hd:Nat),(m < hd\/(sd.length:Int) < m)->S[q]?=some (.lst (wD sd))->Ins S "Lasting" (lE q tk hd) g x o h a w k l W P->PureO S f [.obj k,.int m] (.bl true)
theorem Vm (hc:Q8 c):Wg (fnOf 2 5 (Dj c)):=by
 intro S g x o h a m w sd k l W P q tk hd hm hq R;refine Ao rfl ?_;unfold Dj;symm;refine ⟨k,_,rfl,R.ik,?_⟩;symm;refine (hc S g x o h a m w sd k l W P q tk hd hm hq R).use ?_;symm;refine aY (by decide) ?_;exact ⟨rfl,rfl⟩
theorem Tn {g:Bool->Bool}{k:Nat}{x:List Nat}(e:t.S[k]?=some (.lst (wD x)))(h:P (.bl (g true)) t):F2.W (eqO g (.obj k) (.lst (wD x))) t P:=by
 have hi:∀n,(wD x).map (Cc t.S n)=wD x:=λn=>by
  rw [ud7 (g:=id),ul8];intro d hd;obtain ⟨i,rfl⟩:=ul3.mp hd |>.imp λ_ z=>z.2.symm
  cases n <;> rfl
 have h1:Cc t.S 16 (.obj k) = .lst (wD x):=by
  show Cc t.S (15 + 1) (.obj k)=_;unfold Cc;rw [e];dsimp only;rw [hi]
 have h2:Cc t.S 16 (.lst (wD x)) = .lst (wD x):=by
  show Cc t.S (15 + 1) (.lst (wD x))=_;rw [Cc,hi]
 have hp:Bv (.lst (wD x))=true:=by
  rw [Bv];exact NJ λd hd=>by obtain ⟨i,rfl⟩:=ul3.mp hd |>.imp λ_ z=>z.2.symm;rfl
 have hr:Rq 16 (.lst (wD x)):=X4 (n:=15) λd hd=>by obtain ⟨i,rfl⟩:=ul3.mp hd |>.imp λ_ z=>z.2.symm;exact X3
 exact ⟨_,_,by unfold eqO;rw [h1,h2,hp,hr EQD (by decide)];rfl,h⟩
variable {E:List (Str×D)}
theorem Ins.setL {n:Str}{x o:Str}{k W P:Nat}{b:Ob}{d:List D}(R:Ins S n E g x o h a w k l W P)(e:S[j]?=some (.lst d))(n1:j≠l):Ins (S.set j b) n E g x o h a w k l W P:=
 ⟨Aq R.ik (Ah e R.ik (by simp)),Aq R.iw (Ah e R.iw (by simp)),Aq R.ip (Ah e R.ip (by simp)),Aq R.il n1,R.el⟩
theorem Kx.sub {F':List Nat}(a:Kx F S S')(h:∀i∈F,i∈F'):Kx F' S S':=⟨a.1,λi hi n=>a.2 i hi λz=>n (h i z)⟩
theorem NX {y:List Nat}:wD y++[.int 7]=wD (y++[7]):=by rw [Hu];rfl
def TC (f:Fn):Prop:=∀(S:List Ob) (g:List GS) (x o:Str) (h a:Nat) (w sd:List Nat) (k l W P q tk hd Hd:Nat) (cell:Int) (hs:List D),hd<=sd.length->sd.length<=25000->S[q]?=some (.lst (wD sd))->S[Hd]?=some (.lst hs)->Hd≠q->Hd≠l->hs.length<=500->Ins S "Lasting" (lE q tk hd) g x o h a w k l W P->
 Wf f [.obj k,.lst (wD sd),.int (hd:Nat),.int cell,.obj Hd] S λr S'=>∃(hd':Nat) (new:List D),r = .int (hd':Nat)/\hd<=hd'/\hd'<=sd.length/\(cell=0->hd'=hd)/\Kx [k,Hd] S S'/\S'[Hd]?=some (.lst (hs++new))/\new.length<=2/\(∀u∈new,∃(T:Nat) (z:List Nat),u = .tup [.obj T,.lst (wD z)]/\S'[T]?=some (.lst (wD z))/\S.length<=T)/\Ins S' "Lasting" (lE q tk hd') g x o h a w k l W P
theorem Th {cr:Fn}(hb:Q7 cb)(hr:Wg cr):TC (fnOf 5 9 (C5 cb cr)):=by
 intro S g x o h a w sd k l W P q tk hd Hd cell hs hdl hsl hq hH nq nl hhs R;have hL:LIM=100000:=rfl;refine Ao rfl ?_;unfold C5;symm;rw [Bp];symm;refine FV (by lia) ?_;symm;obtain ⟨t,ht,h0⟩:∃t:Int,atI [D.int (hd:Nat),.int ((hd:Nat) + cell / 7 % ((sd.length:Nat) - (hd:Nat) + 1)),.int (sd.length:Nat),.int ((hd:Nat) - 1),.int ((sd.length:Nat) + 1),.int (-9),.int ((sd.length:Nat) + 2)] (cell % 7)=some (.int t)/\(cell=0->t=(hd:Nat)):=by
  rcases Sj cell with e | e | e | e | e | e | e
  all_goals
   rw [e];exact ⟨_,rfl,λz=>by first | rfl | (rw [z] at e;exact absurd e (by decide))⟩
 refine Bk ht ?_;symm
 by_cases z1:t < (hd:Nat)
 ·refine EX (uj3 z1) ?_;symm;refine (hr S g x o h a t w sd k l W P q tk hd (.inl z1) hq R).use ?_;symm;exact ⟨hd,[],rfl,ul5 _,hdl,λ_=>rfl,Kx.refl,by rw [uh8];exact hH,by decide,(λ_ z=>nomatch z),R⟩
 refine Dg (ui8 z1) ?_;symm
 by_cases z2:(sd.length:Nat) < t
 ·refine EX (uj3 z2) ?_;symm;refine (hr S g x o h a t w sd k l W P q tk hd (.inr z2) hq R).use ?_;symm;exact ⟨hd,[],rfl,ul5 _,hdl,λ_=>rfl,Kx.refl,by rw [uh8];exact hH,by decide,(λ_ z=>nomatch z),R⟩
 refine Dg (ui8 z2) ?_;obtain ⟨m,rfl⟩:=ub7 (show 0<=t by lia);have hm1:hd<=m:=by lia
 have hm2:m<=sd.length:=by lia
 clear ht z1 z2;have lH:=AW hH;have lq:=AW hq;have ll:=AW R.il;have lk:=AW R.ik;symm;refine ⟨k,_,rfl,R.ik,?_⟩;symm;refine HE ?_;refine (hb S g x o h a m w sd k l W P q tk hd hm1 hm2 hq R).mono ?_;rintro r S1 ⟨j,rfl,hj,hjl,K1,R1⟩;refine ⟨rfl,?_⟩;have nHk:Hd≠k:=Ah hH R.ik (by simp);have nqk:q≠k:=Ah hq R.ik (by simp);have hH1:=K1.get (by rw [ue5];exact nHk) hH;have hq1:=K1.get (by rw [ue5];exact nqk) hq;have dl:(sd.drop m).length<=25000:=by rw [ug4];lia
 generalize hz:sd.drop m=z at hj dl;symm;refine EM hj rfl ?_;symm;rw [L7,hz];refine Tn hj ?_;symm;refine JC (k:=j) ?_;symm;refine ⟨rfl,_,hj,?_⟩;symm;refine ⟨_,wD (z++[7]),hj,by simp only [BP];rw [if_pos (by rw [Bp,hL];lia),NX],?_⟩;have K2:Kx [k,Hd] S (S1.set j (.lst (wD (z++[7])))):=(K1.sub (by simp)).setN hjl;have hj2:=Bf (o':=.lst (wD (z++[7]))) hj;have R2:=R1.setL (b:=.lst (wD (z++[7]))) hj (by lia);have hH2:=Aq (o:=.lst (wD (z++[7]))) hH1 (by lia:j≠Hd);have hq2:=Aq (o:=.lst (wD (z++[7]))) hq1 (by lia:j≠q);show CT _ _ Out.next ⟨_,S1.set j (.lst (wD (z++[7])))⟩;generalize S1.set j (.lst (wD (z++[7])))=S2 at K2 hj2 R2 hH2 hq2 ⊢;clear K1 R1 hH1 hq1 hj;symm;refine JC (k:=Hd) ?_;symm;refine ⟨rfl,_,hH2,?_⟩;symm;refine Lx hj2 ?_;symm;refine ⟨_,hs++[.tup [.obj j,.lst (wD (z++[7]))]],hH2,by simp only [BP];rw [if_pos (by rw [hL];lia)],?_⟩;have K3:=K2.set (k:=Hd) (o:=.lst (hs++[.tup [.obj j,.lst (wD (z++[7]))]])) (by simp);have hj3:=Aq (o:=.lst (hs++[.tup [.obj j,.lst (wD (z++[7]))]])) hj2 (by lia:Hd≠j);have R3:=R2.setL (b:=.lst (hs++[.tup [.obj j,.lst (wD (z++[7]))]])) hH2 nl;have hH3:=Bf (o':=.lst (hs++[.tup [.obj j,.lst (wD (z++[7]))]])) hH2;have hq3:=Aq (o:=.lst (hs++[.tup [.obj j,.lst (wD (z++[7]))]])) hq2 nq;show CT _ _ Out.next ⟨_,S2.set Hd (.lst (hs++[.tup [.obj j,.lst (wD (z++[7]))]]))⟩;generalize S2.set Hd (.lst (hs++[.tup [.obj j,.lst (wD (z++[7]))]]))=S3 at K3 hj3 R3 hH3 hq3 ⊢;clear K2 R2 hH2 hq2 hj2;symm;refine ⟨k,_,rfl,R3.ik,?_⟩;symm;refine HE ?_;refine (hb S3 g x o h a m w sd k l W P q tk m (ul5 _) hm2 hq3 R3).mono ?_;rintro r S4 ⟨j2,rfl,hi,hil,K4,R4⟩;rw [hz] at hi;refine ⟨rfl,?_⟩;have lj:=AW hj3;have hj4:=K4.get (by rw [ue5];lia) hj3;have hH4:=K4.get (by rw [ue5];exact nHk) hH3;have K5:=K3.trans (K4.sub (F':=[k,Hd]) (by simp));have l3:=K3.1;symm;rw [L7,hz];refine Tn hi ?_;symm;refine JC (k:=Hd) ?_;symm;refine ⟨rfl,_,hH4,?_⟩;symm;refine Lx hi ?_;symm;refine ⟨_,hs++[.tup [.obj j,.lst (wD (z++[7]))]]++[.tup [.obj j2,.lst (wD z)]],hH4,by simp only [BP];rw [if_pos (by rw [ue3,hL];show _ + 1 < _;lia)],?_⟩;symm;refine ⟨m,[.tup [.obj j,.lst (wD (z++[7]))],.tup [.obj j2,.lst (wD z)]],rfl,hm1,hm2,λz=>by have:=h0 z;lia,K5.set (by simp),by rw [uf4];exact Bf hH4,ul5 2,λu hu=>?_,R4.setL hH4 nl⟩;simp only [uj5,uh0,or_false] at hu;rcases hu with rfl | rfl
 ·exact ⟨j,_,rfl,Aq hj4 (by lia),hjl⟩
 ·exact ⟨j2,_,rfl,Aq hi (by lia),by lia⟩
theorem Xg (ht:∀x∈g,Tin x){q p:Nat}{v:D}(hm:MvOk g q p v):(mbQ g q p v).length<=41:=by
 have h1:=ht _ (Mj hm.lt);obtain ⟨side,ws,e,hpl,ew⟩:=FQ hm.pl;have h2:wdAt g q p∈(AD g q).ws:=by rw [e];exact ud2 ew
 have h3:=(h1 _ h2).few v hm.fit;rw [ug1];exact Nat.succ_le_succ h3
theorem PV {x:GS}(h:P (.str x.side) t):W (ixD x.d (.int 0)) t P:=by
 cases x with
 | fin=>rw [GS.d];exact EE FG h
 | st s w=>rw [GS.d];exact EE FG h
theorem VZ {k:Nat}(e:t.S[k]?=some (.lst ys))(l:xs.length + ys.length<=LIM)(h:Q (xs++ys) t):F2.W (Jd (.lst xs) (.obj k)) t Q:=⟨_,_,by simp only [Jd,DK,e,lim,if_pos l],h⟩
theorem Q1 (hg:GOk g){x:Str}(hx:x=sL\/x=sR){q p:Nat}{v:D}{w y:List Nat}(hm:MvOk g q p v)(hs:(AD g q).side=x)(hy:mbQ g q p v=wD y):∃a1 b1,w1 g x (w++y) ((w++y).length + 1) q w.length []=([OA g q p v],Bu g q p,a1,b1,none)/\onS x a1 b1=(w++y).length:=by
 have ew:Bm g x q [(p,v)]=wD y:=by rw [Bm,Bm,uh8,if_pos hs];exact hy
 have hl:w.length + (Bm g x q [(p,v)]).length=(w++y).length:=by rw [ew,Bp,ue3]
 obtain ⟨m1,m2,e,h1,h2,h3⟩:=NW hg hx (w:=w++y) (tk:=(w++y).length) (ul5 _) [(p,v)] q w.length ((w++y).length + 1) [] hm.lt ⟨hm,trivial⟩ ⟨hs,trivial⟩ ⟨wD w,[],by rw [ew,Hu,uh8],Bp w⟩ hl (by rw [ue3];lia) (by lia);rw [List.take_length] at h3
 cases m1 with
 | nil=>
   have e:m2=[(p,v)]:=e.symm;subst e;have h2:(w++y).length < w.length + 0 + (mbQ g q p v).length:=h2;rw [hy,Bp,ue3] at h2;lia
 | cons a m1=>
   have e1:a=(p,v)/\m1++m2=[]:=by injection e with e1 e2;exact ⟨e1.symm,e2.symm⟩
   obtain ⟨rfl,e2⟩:=e1;have e3:m1=[]:=(List.append_eq_nil_iff.mp e2).1;subst e3;refine ⟨_,_,h3,?_⟩;rw [hl];exact Mt
structure J79 (g:List GS)(x o:Str)(S:List Ob)(h tk hd:Nat)(w wb sd:List Nat)(k l q W P k2 l2 W2 P2 Hd:Nat)(hs:List D):Prop where
 hh:h < g.length
 la:Ins S "Lasting" (lE q tk hd) g x o h w.length w k l W P
 be:Ins S "Side" [] g o x h wb.length wb k2 l2 W2 P2
 sq:S[q]?=some (.lst (wD sd))
 sh:S[Hd]?=some (.lst hs)
 lq:l≠q
 ll:l≠l2
 lh:l≠Hd
 ql:q≠l2
 qh:q≠Hd
 l2h:l2≠Hd
 hdl:hd<=sd.length
 hl:∀u∈hs,∃(T:Nat) (z:List Nat),u = .tup [.obj T,.lst (wD z)]/\S[T]?=some (.lst (wD z))/\T≠l/\T≠q/\T≠l2/\T≠Hd
section
variable {g:List GS}{x o:Str}{S S':List Ob}{h tk hd:Nat}{w wb sd:List Nat}{k l q W P k2 l2 W2 P2 Hd:Nat}{hs:List D}
theorem Ins.kk {n:Str}{E2:List (Str×D)}{g2:List GS}{x2 o2:Str}{h2 a2:Nat}{w2:List Nat}(R:Ins S n E g x o h a w k l W P)(Q:Ins S m E2 g2 x2 o2 h2 a2 w2 k2 l2 W2 P2)(e:n≠m):k≠k2:=Ah R.ik Q.ik λz=>by injection z with z1 _;exact e z1
theorem J79.gr (J:J79 g x o S h tk hd w wb sd k l q W P k2 l2 W2 P2 Hd hs)(G:Gr S S'):J79 g x o S' h tk hd w wb sd k l q W P k2 l2 W2 P2 Hd hs:=
 ⟨J.hh,J.la.gr G,J.be.gr G,G.get J.sq,G.get J.sh,J.lq,J.ll,J.lh,J.ql,J.qh,J.l2h,J.hdl,λu hu=>by obtain ⟨T,z,e1,e2,e3⟩:=J.hl u hu;exact ⟨T,z,e1,G.get e2,e3⟩⟩
theorem JW (K:Kx F S S')(hF:∀i∈F,i=l\/i=q\/i=l2\/i=Hd\/∃n f,S[i]?=some (.ins n f))(hl:∀u∈hs,∃(T:Nat) (z:List Nat),u = .tup [.obj T,.lst (wD z)]/\S[T]?=some (.lst (wD z))/\T≠l/\T≠q/\T≠l2/\T≠Hd):∀u∈hs,∃(T:Nat) (z:List Nat),u = .tup [.obj T,.lst (wD z)]/\S'[T]?=some (.lst (wD z))/\T≠l/\T≠q/\T≠l2/\T≠Hd:=by
 intro u hu;obtain ⟨T,z,e1,e2,e3,e4,e5,e6⟩:=hl u hu;refine ⟨T,z,e1,K.get (λhT=>?_) e2,e3,e4,e5,e6⟩;rcases hF T hT with e | e | e | e | ⟨n,f,e⟩
 ·exact e3 e
 ·exact e4 e
 ·exact e5 e
 ·exact e6 e
 ·rw [e2] at e;cases e
end
theorem Kx.fresh {X:List Nat}{S1 S2:List Ob}(a:Kx F S S1)(b:Kx X S1 S2)(hX:∀i∈X,S.length<=i):Kx F S S2:=
 ⟨uk7 a.1 b.1,λi hi n=>(b.2 i (ud8 hi a.1) (λz=>by have:=hX i z;lia)).trans (a.2 i hi n)⟩
theorem Gr.kx {S1:List Ob}(a:Gr S S1):Kx F S S1:=⟨a.1,λi h _=>a.2 i h⟩
theorem R9 {n:Str}{x o:Str}{k W P:Nat}(R:Ins S n E g x o h a w k l W P):PureO S (fnOf 1 1 Dx) [.obj k] (.int (h:Nat)):=by
 refine Ao rfl ?_;unfold Dx;symm;refine Br R.ik rfl ?_;exact ⟨rfl,rfl⟩
theorem UK {x o:Str}{tk hd:Nat}{k W P:Nat}(R:Ins S "Lasting" (lE q tk hd) g x o h a w k l W P):PureO S (fnOf 1 1 CK) [.obj k] (.int (tk:Nat)):=by
 refine Ao rfl ?_;unfold CK;symm;refine Br R.ik rfl ?_;exact ⟨rfl,rfl⟩
def HR:GS->D
 | .fin=>.str (Str.ofString "end")
 | .st _ ws=>.lst (ws.map wdD)
theorem W1 {x:GS}(h:P (HR x) t):F2.W (ixD x.d (.int (-1))) t P:=by
 cases x with
 | fin=>rw [GS.d];exact EE rfl h
 | st s w=>rw [GS.d];exact EE rfl h
theorem KJ {gd:Gd}{S:List Ob}(hg:Gon gd S):∀(hs:List D) (z0 z1:Option Sl),(∀u∈hs,∃(T:Nat) (z:List Nat),u = .tup [.obj T,.lst (wD z)]/\S[T]?=some (.lst (wD z)))->F2.W (compG gd (unS 2 (AK (AF 0) (AK (AF 1) BY))) (An (Ac (Aa 0) (Aa 1) (eqO λb=>!b))) (fC (.int 1)) hs) ⟨[z0,z1],S⟩ λxs t'=>xs=[]/\t'.S=S
 | [],z0,z1,_=>MX hg ⟨rfl,rfl⟩
 | u :: r,z0,z1,h=>by
   refine LJ hg ?_;obtain ⟨T,z,rfl,e⟩:=h u ud9;symm;refine Tn e ?_;symm;rw [if_neg (by decide)];exact KJ hg r _ _ λu hu=>h u (uc9 _ hu)
theorem HG {ns:List Int}:(Ca ns (some 8) (some 48)).length<=40:=by
 unfold Ca;rw [ug3];have h1:HT.sIx ns.length ns.length (some 48)<=48:=by simp only [HT.sIx];rw [if_neg (by lia)];lia
 have h2:HT.sIx ns.length 0 (some 8)<=8:=by simp only [HT.sIx];rw [if_neg (by lia)];lia
 have h3:HT.sIx ns.length 0 (some 8)=min 8 ns.length\/True:=.inr trivial;simp only [HT.sIx] at *;rw [if_neg (by lia),if_neg (by lia)] at *;lia
theorem nm1 (h:a≠b):a∉[b]:=by rw [ue5];exact h
theorem nm2 {c:Nat}(h:a≠b)(h':a≠c):a∉[b,c]:=by simp only [uj5,uh0,or_false,not_or];exact ⟨h,h'⟩
theorem YX {cst cch csy cv clt css cns csi cli cg:Fn}(hT:TC ct)(htk:Pf cst)(hch:Lz cch 3)(hsy:Tz csy)(hv:LI cv 3)(hlt:Pe clt)(hss:TB css)(hns:Tx cns)(hsi:IN csi)(hli:LB cli)(hc:Tv cc)(hgr:GrC cg){ns:List Int} :
 Wf (fnOf 1 19 (Hi ct (fnOf 1 1 CK) cst cch csy cv clt css cns (fnOf 1 1 Dx) csi cli cc cg)) [.scr ns] [] λr _=>r = .bl true:=by
 have hL:LIM=100000:=rfl;obtain ⟨c0,h0⟩:=hc ns 0 (by decide) (by decide);refine Ao rfl ?_;unfold Hi;symm;refine h0.use ?_;symm;have hm:=ui7 c0 (b:=6) (by decide);have hm2:=ue8 c0 (b:=6) (by decide);refine Hw (CV (by lia) (by lia)) ?_;have hcells:∀(r:List D) (z:Option Sl),(∀d∈r,∃i:Int,d = .int i/\0<=i/\i<=900)->F2.W (BS (AF 0) FD (Ak cc (Ab (Aa 1) (Ab (Ac (fC (.int 1)) (Aa 0) AT) Ad))) r) ⟨[z,some (.val (.scr ns))],[]⟩ λxs t'=>(∃is:List Int,xs=is.map D.int/\is.length=r.length)/\t'.S=[]:=by
  intro r
  induction r with
  | nil=>intro z _;exact W_compL_nil.mpr ⟨⟨[],rfl,rfl⟩,rfl⟩
  | cons d r ih=>
    intro z hz;obtain ⟨i,rfl,i0,i1⟩:=hz _ ud9;rw [GW];refine O5 ?_;symm;rw [if_pos rfl];symm;obtain ⟨ci,hi⟩:=hc ns (1 + i) (by lia) (by lia);refine hi.use ?_;refine (ih _ λd hd=>hz d (uc9 _ hd)).mono ?_;rintro xs t' ⟨⟨is,rfl,e⟩,e2⟩;exact ⟨⟨ci :: is,rfl,by rw [ug1,ug1,e]⟩,e2⟩
 refine (hcells _ none (λd hd=>by obtain ⟨i,e,i0,i1⟩:=Kj hd;exact ⟨i,e,i0,by lia⟩)).mono ?_;rintro xs t' ⟨⟨is,rfl,hl⟩,et⟩;rw [D2] at hl;refine DG (by rw [uh6,hl,hL];lia) ?_;rw [et];symm;refine (hgr is [] (by lia) (by lia)).mono ?_;rintro r S0 ⟨e0,g,rfl,hg,hT2⟩;subst e0;obtain ⟨x,o,ex,eo,two⟩:∃x o:Str,atI [D.str (Str.ofString "left"),.str (Str.ofString "right")] (c0 / 6 % 2)=some (.str x)/\atI [D.str (Str.ofString "right"),.str (Str.ofString "left")] (c0 / 6 % 2)=some (.str o)/\Two x o:=by
  have:c0 / 6 % 2=0\/c0 / 6 % 2=1:=by lia
  rcases this with e | e
  ·rw [e];exact ⟨sL,sR,rfl,rfl,.inl ⟨rfl,rfl⟩⟩
  ·rw [e];exact ⟨sR,sL,rfl,rfl,.inr ⟨rfl,rfl⟩⟩
 symm;refine h0.use ?_;symm;refine Bk ex ?_;symm;refine h0.use ?_;symm;refine Bk eo ?_;symm;refine (hli ([]++[.ins "Lasting" []]) 0 g x o hg two rfl).mono ?_;rintro r S1 ⟨rfl,K1,W,P,l,q,la1,q1,nlq,gl,gq⟩;refine ⟨rfl,?_⟩;have l1:1<=l:=gl;have q1':1<=q:=gq;symm;refine (hsi "Side" (S1++[.ins "Side" []]) S1.length g o x hg two.swap CZ).mono ?_;rintro r S2 ⟨rfl,W2,P2,l2,H2⟩;refine ⟨rfl,?_⟩;have G2:Gr S1 S2:=by
  have h1:=H2.kp.1;rw [ue3] at h1;exact ⟨by lia,λi hi=>by rw [H2.kp.2 i (by rw [ue3];lia) (by lia),ub0 hi]⟩
 have gl2:=H2.gl;rw [ue3] at gl2;have gl2:S1.length + 1<=l2:=gl2;have ll1:=AW la1.il;have lq1:=AW q1;have ll2:=AW H2.il;symm;have J0:J79 g x o (S2++[.lst []]) 0 0 0 [] [] [] 0 l q W P S1.length l2 W2 P2 S2.length []:=
  ⟨hg.ne,(la1.gr G2).gr Gr.app,⟨A5 H2.ik,A5 H2.iw,A5 H2.ip,A5 H2.il,by decide⟩,A5 (G2.get q1),CZ,nlq,by lia,by have:=G2.1;lia,by lia,by have:=G2.1;lia,by lia,ul5 _,λ_ z=>nomatch z⟩
 show F2.W _ ⟨_,S2++[Ob.lst []]⟩ _;generalize S2++[Ob.lst []]=S3 at J0 ⊢;generalize S2.length=Hd at J0 ⊢;generalize S1.length=k2 at J0 ⊢;have htin:∀{q:Nat},q < g.length->Tin (AD g q):=λhq=>hT2 _ (Mj hq);refine EG (λr t=>∃(h tk hd:Nat) (w wb sd:List Nat) (P P2:Nat) (hs:List D) (S:List Ob) (e10 e11 e12 e13 e14 e15 e16 e17 e18:Option Sl),J79 g x o S h tk hd w wb sd 0 l q W P k2 l2 W2 P2 Hd hs/\sd.length + 41 * r.length<=2000/\w.length + 41 * r.length<=2000/\wb.length + 41 * r.length<=2000/\hs.length + 3 * r.length<=200/\t=⟨[some (.val (.scr ns)),some (.val (.lst (g.map GS.d))),some (.val (.str x)),some (.val (.str o)),some (.val (.obj 0)),some (.val (.obj k2)),some (.val (.lst (wD sd))),some (.val (.int (hd:Nat))),some (.val (.int (tk:Nat))),some (.val (.obj Hd)),e10,e11,e12,e13,e14,e15,e16,e17,e18],S⟩) _ _ ⟨0,0,0,[],[],[],P,P2,[],S3,none,none,none,none,none,none,none,none,none,J0,?_,?_,?_,?_,rfl⟩ ?_ ?_
 ·have:=HG (ns:=ns);rw [uh6];show 0 + _<=_;lia
 ·have:=HG (ns:=ns);rw [uh6];show 0 + _<=_;lia
 ·have:=HG (ns:=ns);rw [uh6];show 0 + _<=_;lia
 ·have:=HG (ns:=ns);rw [uh6];show 0 + _<=_;lia
 ·rintro dd r t ⟨h,tk,hd,w,wb,sd,P,P2,hs,S,e10,e11,e12,e13,e14,e15,e16,e17,e18,J,b1,b2,b3,b4,rfl⟩ hmem;obtain ⟨cell,_,rfl⟩:=ul3.mp hmem;clear hmem;rw [ug1] at b1 b2 b3 b4;have hix:=Fk J.hh;have hgs:=Dv hg J.hh;have htn:=htin J.hh;symm;refine ⟨0,_,rfl,J.la.ik,W_ret.mpr ?_⟩;refine (R9 J.la).use ?_;symm;refine Bk hix ?_;symm;refine W1 ?_;refine BR ?_;refine Tr (wIf ?_);refine F2.W.mono (P:=λb t'=>b=false/\t'=⟨[some (.val (.scr ns)),some (.val (.lst (g.map GS.d))),some (.val (.str x)),some (.val (.str o)),some (.val (.obj 0)),some (.val (.obj k2)),some (.val (.lst (wD sd))),some (.val (.int (hd:Nat))),some (.val (.int (tk:Nat))),some (.val (.obj Hd)),some (.val (.int cell)),some (.val (.int (h:Nat))),some (.val (HR (AD g h))),e13,e14,e15,e16,e17,e18],S⟩) ?_ ?_
  ·symm;refine Cr (λz=>?_) λz=>?_
   ·symm;refine Bk hix ?_;symm;refine (hns S _ g x o h _ w 0 l W P _ hg htn J.hh two J.la).use ?_;symm;exact ⟨rfl,rfl⟩
   ·exact ⟨rfl,rfl⟩
  rintro b t' ⟨rfl,rfl⟩;refine Dg rfl ?_;refine JD (BR ?_);obtain ⟨h0,hh0⟩:∃h0,h0=h:=⟨_,rfl⟩;rw [<-hh0];refine Tr ?_;refine F2.W.mono (P:=λot t'=>ot = .next/\∃(h tk:Nat) (w wb sd':List Nat) (P P2:Nat) (hs':List D) (S':List Ob) (e13 e14 e15 e16 e17 e18:Option Sl),J79 g x o S' h tk hd w wb sd' 0 l q W P k2 l2 W2 P2 Hd hs'/\sd'.length + 41 * r.length<=2000/\w.length + 41 * r.length<=2000/\wb.length + 41 * r.length<=2000/\hs'.length + 3 * r.length + 2<=200/\t'=⟨[some (.val (.scr ns)),some (.val (.lst (g.map GS.d))),some (.val (.str x)),some (.val (.str o)),some (.val (.obj 0)),some (.val (.obj k2)),some (.val (.lst (wD sd'))),some (.val (.int (hd:Nat))),some (.val (.int (tk:Nat))),some (.val (.obj Hd)),some (.val (.int cell)),some (.val (.int (h0:Nat))),some (.val (HR (AD g h0))),e13,e14,e15,e16,e17,e18],S'⟩) ?_ ?_
  ·subst hh0;have lk:=AW J.la.ik;have ll:=AW J.la.il;have lW:=AW J.la.iw;have lP:=AW J.la.ip;have lk2:=AW J.be.ik;have ll2:=AW J.be.il;have lW2:=AW J.be.iw;have lP2:=AW J.be.ip;have lq:=AW J.sq;have lH:=AW J.sh;have kk2:0≠k2:=J.la.kk J.be (by decide);have hmv:∀s:Str,(s=sL\/s=sR)->(AD g h0).side=s->∃(ws:List (Str×Sh×Int)) (p:Nat),HR (AD g h0) = .lst (ws.map wdD)/\0 < ws.length/\ws.length<=9/\cell / 3 % (ws.length:Int)=(p:Nat)/\ws[p]?=some (wdAt g h0 p)/\Dr 2 (wdAt g h0 p).2.1/\p < (AD g h0).ws.length:=by
    intro s hs' hsd
    cases e:AD g h0 with
    | fin=>rw [e] at hsd;rcases hs' with q | q <;> (rw [q] at hsd;exact absurd hsd (by decide +kernel))
    | st s' ws=>
      rw [e] at hgs htn;have hw0:0 < ws.length/\ws.length<=9:=by cases hgs with | st _ h1 h2 _ _=>exact ⟨h1,h2⟩
      have h1:=ui7 (cell / 3) (b:=(ws.length:Int)) (by lia);have h2:=ue8 (cell / 3) (b:=(ws.length:Int)) (by lia);obtain ⟨p,hp⟩:=ub7 h1;have hpl:p < ws.length:=by lia
      have ew:ws[p]?=some ws[p]:=ub3 hpl;have hwd:wdAt g h0 p=ws[p]:=by unfold wdAt;rw [e];show ws.getD p _=_;rw [ua8,ew];rfl
      exact ⟨ws,p,rfl,hw0.1,hw0.2,hp,by rw [hwd];exact ew,by rw [hwd];exact htn _ (uh2 hpl),hpl⟩
   have byt:∀(p:Nat) (v:D),MvOk g h0 p v->∃y,mbQ g h0 p v=wD y/\y.length<=41:=by
    intro p v hm;obtain ⟨y,hy,_⟩:=P4 (K7 hg (AD g h0).side h0 [(p,v)] ⟨hm,trivial⟩);rw [Bm,Bm,uh8,if_pos rfl] at hy;have hyl:=Xg hT2 hm;rw [show mbQ g h0 p v=wD y from hy,Bp] at hyl;exact ⟨y,hy,hyl⟩
   refine wIf ?_;refine F2.W.mono (P:=λb t'=>t'=⟨[some (.val (.scr ns)),some (.val (.lst (g.map GS.d))),some (.val (.str x)),some (.val (.str o)),some (.val (.obj 0)),some (.val (.obj k2)),some (.val (.lst (wD sd))),some (.val (.int (hd:Nat))),some (.val (.int (tk:Nat))),some (.val (.obj Hd)),some (.val (.int cell)),some (.val (.int (h0:Nat))),some (.val (HR (AD g h0))),e13,e14,e15,e16,e17,e18],S⟩/\(b=true->(AD g h0).side=x)) ?_ ?_
   ·symm;refine Bk hix ?_;symm;refine PV ?_;symm;refine Cr (λz=>?_) λz=>?_
    ·symm;exact ⟨rfl,λ_=>by simpa using z⟩
    ·exact ⟨rfl,λq=>by cases q⟩
   rintro b t' ⟨rfl,hb⟩;refine Cr (λz=>?_) λz=>?_
   ·have hsd:=hb z;obtain ⟨ws,p,el,w0,w9,hp,ew,hdr,hpl⟩:=hmv x two.x hsd;rw [el];symm;rw [uh6];refine FV (by lia) ?_;symm;rw [hp];refine Bk (EN ew) ?_;unfold wdD;symm;refine (hv _ hdr.dep hdr.ok hdr.nar hdr.tin _ S).mono ?_;rintro r0 S1 ⟨G1,d,v,lf,fp,rfl,hf,hO,hfp⟩;have hm:MvOk g h0 p v:=⟨J.hh,hpl,hf⟩;obtain ⟨y,hy,hyl⟩:=byt p v hm;have G1:Gr S S1:=G1;have J1:=J.gr G1;have g1:=G1.1;symm;refine ⟨0,_,rfl,J1.la.ik,?_⟩;symm;refine HE ?_;refine (hsy S1 g x o h0 _ w y sd 0 l W P p q tk hd v d fp hg hm hsd hy (by lia) hO (D5 3 _ hdr.dep hdr.ok v hf) J1.sq J1.lq J1.la).mono ?_;rintro r1 S2 ⟨j,rfl,hj,hjl,K2,sq2,la2⟩;refine ⟨rfl,?_⟩;have be2:=J1.be.keep K2 (nm2 (Ne.symm kk2) (Ah J1.be.ik J1.sq (by simp))) (nm2 (Ah J1.be.il J1.la.ik (by simp)) (Ne.symm J.ql)) (nm2 (Ah J1.be.iw J1.la.ik (by simp)) (Ah J1.be.iw J1.sq (by simp))) (nm2 (Ah J1.be.ip J1.la.ik (by simp)) (Ah J1.be.ip J1.sq (by simp)));have sh2:=K2.get (nm2 (Ah J1.sh J1.la.ik (by simp)) (Ne.symm J.qh)) J1.sh;have fpn:∀{i:Nat},i < S.length->i∉fp:=λ{i} hi z=>by have:=hfp i z;lia
    have hO2:Ow S2 d v fp:=hO.mono λi hi=>K2.2 i (hO.lt i hi) (nm2 (by have:=hfp i hi;lia) (by have:=hfp i hi;lia));symm;refine (hch S2 d v fp hO2 (Fj 3 _ hdr.dep hdr.ok v hf)).mono ?_;rintro r2 S3 ⟨rfl,l3,u3⟩;have K3:Kx fp S2 S3:=⟨by lia,λi _ n=>u3 i n⟩;have la3:=la2.keep K3 (fpn lk) (fpn ll) (fpn lW) (fpn lP);have be3:=be2.keep K3 (fpn lk2) (fpn ll2) (fpn lW2) (fpn lP2);have sq3:=K3.get (fpn lq) sq2;have sh3:=K3.get (fpn lH) sh2;have hj3:=K3.get (λz=>by have:=hO.lt j z;lia) hj;have KA:Kx [0,q,k2,l2,Hd] S S3:=(((Gr.kx G1).trans (K2.sub (by simp))).fresh K3 hfp);clear la2 be2 sq2 sh2 hj hO2 hO K2 K3 J1 u3;symm;refine VZ hj3 (by rw [Bp,Bp,hL];lia) ?_;rw [<-Hu];symm;refine ⟨k2,_,rfl,be3.ik,?_⟩;symm;refine Lx hj3 ?_;symm;refine HE ?_;obtain ⟨a1,b1',hw1,hon⟩:=Q1 hg two.x (w:=wb) hm hsd hy;refine (htk (S3++[.lst (wD y)]) g o x h0 _ wb y k2 l2 W2 P2 S3.length _ _ a1 b1' hg two.swap J.hh (ul5 _) (by rw [ue3];lia) hw1 CZ (be3.gr Gr.app)).mono ?_;rintro r3 S5 ⟨rfl,K5,P2',be5⟩;refine ⟨rfl,?_⟩;rw [hon] at be5;have la4:=la3.gr (Gr.app (ex:=[Ob.lst (wD y)]));have be4:=be3.gr (Gr.app (ex:=[Ob.lst (wD y)]));have la5:=la4.keep K5 (nm2 kk2 (Ah la4.ik be4.il (by simp))) (nm2 (Ah la4.il be4.ik (by simp)) J.ll) (nm2 (Ah la4.iw be4.ik (by simp)) (Ah la4.iw be4.il (by simp))) (nm2 (Ah la4.ip be4.ik (by simp)) (Ah la4.ip be4.il (by simp)));have sq5:=K5.get (nm2 (Ah sq3 be3.ik (by simp)) J.ql) (A5 sq3);have sh5:=K5.get (nm2 (Ah sh3 be3.ik (by simp)) (Ne.symm J.l2h)) (A5 sh3);have hj5:=K5.get (nm2 (by lia) (by lia)) (A5 hj3);have KB:Kx [0,q,k2,l2,Hd] S S5:=(KA.trans (Gr.kx Gr.app)).trans (K5.sub (by simp));clear la3 be3 sq3 sh3 hj3 la4 be4 K5 KA;symm;refine JC (k:=j) ?_;symm;refine ⟨rfl,_,hj5,?_⟩;symm;refine ⟨_,wD (y++[7]),hj5,by simp only [BP];rw [if_pos (by rw [Bp,hL];lia),NX],?_⟩;have hj6:=Bf (o':=.lst (wD (y++[7]))) hj5;have la6:=la5.setL (b:=.lst (wD (y++[7]))) hj5 (by lia);have be6:=be5.setL (b:=.lst (wD (y++[7]))) hj5 (by lia);have sq6:=Aq (o:=.lst (wD (y++[7]))) sq5 (by lia:j≠q);have sh6:=Aq (o:=.lst (wD (y++[7]))) sh5 (by lia:j≠Hd);have KC:=KB.setN (k:=j) (o:=.lst (wD (y++[7]))) (by lia);show CT _ _ Out.next ⟨_,S5.set j (.lst (wD (y++[7])))⟩;generalize S5.set j (.lst (wD (y++[7])))=S6 at hj6 la6 be6 sq6 sh6 KC ⊢;clear la5 be5 sq5 sh5 hj5 KB;symm;refine JC (k:=Hd) ?_;symm;refine ⟨rfl,_,sh6,?_⟩;symm;refine Lx hj6 ?_;symm;refine ⟨_,hs++[.tup [.obj j,.lst (wD (y++[7]))]],sh6,by simp only [BP];rw [if_pos (by rw [hL];lia)],?_⟩;symm;refine ⟨rfl,Bu g h0 p,tk,w,wb++y,sd++y,P,P2',hs++[.tup [.obj j,.lst (wD (y++[7]))]],_,_,_,_,_,_,_,⟨Kb hg J.hh hpl,la6.setL sh6 (Ne.symm J.lh),be6.setL sh6 (Ne.symm J.l2h),Aq sq6 (Ne.symm J.qh),Bf sh6,J.lq,J.ll,J.lh,J.ql,J.qh,J.l2h,by rw [ue3];have:=J.hdl;lia,λu hu=>?_⟩,by rw [ue3];lia,by lia,by rw [ue3];lia,by rw [ue3];show _ + 1 + _ + _<=_;lia,rfl⟩;rcases uh4.mp hu with hu | hu
    ·exact JW (KC.set (k:=Hd) (by simp)) (λi hi=>by
      simp only [uj5,uh0,or_false] at hi;rcases hi with rfl | rfl | rfl | rfl | rfl
      ·exact .inr (.inr (.inr (.inr ⟨_,_,J.la.ik⟩)))
      ·exact .inr (.inl rfl)
      ·exact .inr (.inr (.inr (.inr ⟨_,_,J.be.ik⟩)))
      ·exact .inr (.inr (.inl rfl))
      ·exact .inr (.inr (.inr (.inl rfl)))) J.hl u hu
    ·rw [ue5] at hu;exact ⟨j,y++[7],hu,Aq hj6 (by lia),by lia,by lia,by lia,by lia⟩
   ·refine wIf ?_;refine F2.W.mono (P:=λb t'=>t'=⟨[some (.val (.scr ns)),some (.val (.lst (g.map GS.d))),some (.val (.str x)),some (.val (.str o)),some (.val (.obj 0)),some (.val (.obj k2)),some (.val (.lst (wD sd))),some (.val (.int (hd:Nat))),some (.val (.int (tk:Nat))),some (.val (.obj Hd)),some (.val (.int cell)),some (.val (.int (h0:Nat))),some (.val (HR (AD g h0))),e13,e14,e15,e16,e17,e18],S⟩/\(b=true->(AD g h0).side=o)) ?_ ?_
    ·symm;refine Bk hix ?_;symm;refine PV ?_;symm;refine Cr (λz=>?_) λz=>?_
     ·symm;exact ⟨rfl,λ_=>by simpa using z⟩
     ·exact ⟨rfl,λq=>by cases q⟩
    rintro b t' ⟨rfl,hb⟩;refine Cr (λz=>?_) λz=>?_
    ·have hsd:=hb z;obtain ⟨ws,p,el,w0,w9,hp,ew,hdr,hpl⟩:=hmv o two.o hsd;rw [el];symm;rw [uh6];refine FV (by lia) ?_;symm;rw [hp];refine Bk (EN ew) ?_;unfold wdD;symm;refine ⟨k2,_,rfl,J.be.ik,?_⟩;symm;refine (hv _ hdr.dep hdr.ok hdr.nar hdr.tin _ S).mono ?_;rintro r0 S1 ⟨G1,d,v,lf,fp,rfl,hf,hO,hfp⟩;have hm:MvOk g h0 p v:=⟨J.hh,hpl,hf⟩;obtain ⟨y,hy,hyl⟩:=byt p v hm;have G1:Gr S S1:=G1;have J1:=J.gr G1;have g1:=G1.1;symm;refine HE ?_;refine (hss S1 g o x h0 _ wb y k2 l2 W2 P2 p v d fp hg hm hsd hy (by lia) hO (D5 3 _ hdr.dep hdr.ok v hf) J1.be).mono ?_;rintro r1 S2 ⟨j,rfl,hj,hjl,K2,be2⟩;refine ⟨rfl,?_⟩;have la2:=J1.la.keep K2 (nm1 kk2) (nm1 (Ah J1.la.il J1.be.ik (by simp))) (nm1 (Ah J1.la.iw J1.be.ik (by simp))) (nm1 (Ah J1.la.ip J1.be.ik (by simp)));have sq2:=K2.get (nm1 (Ah J1.sq J1.be.ik (by simp))) J1.sq;have sh2:=K2.get (nm1 (Ah J1.sh J1.be.ik (by simp))) J1.sh;have KA:Kx [0,l,k2] S S2:=(Gr.kx G1).trans (K2.sub (by simp));symm;refine GM hj ?_;rw [Bp];symm;refine ⟨0,_,rfl,la2.ik,?_⟩;symm;refine HE ?_;obtain ⟨a1,b1',hw1,hon⟩:=Q1 hg two.o (w:=w) hm hsd hy;refine (hlt S2 g x o h0 _ w y 0 l W P j q tk hd _ _ a1 b1' hg two J.hh (ul5 _) (by rw [ue3];lia) hw1 hj (by lia) la2).mono ?_;rintro r3 S3 ⟨rfl,K3,P',la3⟩;refine ⟨rfl,?_⟩;rw [hon] at la3;have be3:=be2.keep K3 (nm2 (Ne.symm kk2) (Ah be2.ik la2.il (by simp))) (nm2 (Ah be2.il la2.ik (by simp)) (Ne.symm J.ll)) (nm2 (Ah be2.iw la2.ik (by simp)) (Ah be2.iw la2.il (by simp))) (nm2 (Ah be2.ip la2.ik (by simp)) (Ah be2.ip la2.il (by simp)));have sq3:=K3.get (nm2 (Ah sq2 la2.ik (by simp)) (Ne.symm J.lq)) sq2;have sh3:=K3.get (nm2 (Ah sh2 la2.ik (by simp)) (Ne.symm J.lh)) sh2;have KB:Kx [0,l,k2] S S3:=KA.trans (K3.sub (by simp));symm;refine ⟨rfl,Bu g h0 p,tk + y.length,w++y,wb,sd,P',P2,hs,S3,_,_,_,_,_,_,⟨Kb hg J.hh hpl,la3,be3,sq3,sh3,J.lq,J.ll,J.lh,J.ql,J.qh,J.l2h,J.hdl,?_⟩,by lia,by rw [ue3];lia,by lia,by lia,rfl⟩;exact JW KB (λi hi=>by
      simp only [uj5,uh0,or_false] at hi;rcases hi with rfl | rfl | rfl
      ·exact .inr (.inr (.inr (.inr ⟨_,_,J.la.ik⟩)))
      ·exact .inl rfl
      ·exact .inr (.inr (.inr (.inr ⟨_,_,J.be.ik⟩)))) J.hl
    ·symm;exact ⟨rfl,h0,tk,w,wb,sd,P,P2,hs,S,_,_,_,_,_,_,J,by lia,by lia,by lia,by lia,rfl⟩
  ·rintro ot t' ⟨rfl,h1,tk1,w1',wb1,sd1,P1,P21,hs1,S1,e13,e14,e15,e16,e17,e18,J1,c1,c2,c3,c4,rfl⟩;refine BR ?_;symm;refine (hT S1 g x o h1 _ w1' sd1 0 l W P1 q tk1 hd Hd _ hs1 J1.hdl (by lia) J1.sq J1.sh (Ne.symm J1.qh) (Ne.symm J1.lh) (by lia) J1.la).mono ?_;rintro r2 S2 ⟨hd',new,rfl,hd1,hd2,_,K',sh',nl',hn',la'⟩;have be':=J1.be.keep K' (nm2 (Ne.symm (J1.la.kk J1.be (by decide))) (Ah J1.be.ik J1.sh (by simp))) (nm2 (Ah J1.be.il J1.la.ik (by simp)) J1.l2h) (nm2 (Ah J1.be.iw J1.la.ik (by simp)) (Ah J1.be.iw J1.sh (by simp))) (nm2 (Ah J1.be.ip J1.la.ik (by simp)) (Ah J1.be.ip J1.sh (by simp)));have sq':=K'.get (nm2 (Ah J1.sq J1.la.ik (by simp)) J1.qh) J1.sq;have ll:=AW J1.la.il;have lq:=AW J1.sq;have ll2:=AW J1.be.il;have lH:=AW J1.sh;symm;refine ⟨0,_,rfl,la'.ik,W_ret.mpr ?_⟩;refine (UK la').use ?_;symm;refine Dg (by simp) ?_;symm;refine ⟨h1,tk1,hd',w1',wb1,sd1,P1,P21,hs1++new,S2,_,_,_,_,_,_,_,_,_,⟨J1.hh,la',be',sq',sh',J1.lq,J1.ll,J1.lh,J1.ql,J1.qh,J1.l2h,hd2,λu hu=>?_⟩,c1,c2,c3,by rw [ue3];lia,rfl⟩;rcases uh4.mp hu with hu | hu
   ·exact JW K' (λi hi=>by
     simp only [uj5,uh0,or_false] at hi;rcases hi with rfl | rfl
     ·exact .inr (.inr (.inr (.inr ⟨_,_,J1.la.ik⟩)))
     ·exact .inr (.inr (.inr (.inl rfl)))) J1.hl u hu
   ·obtain ⟨T,z,e1,e2,e3⟩:=hn' u hu;exact ⟨T,z,e1,e2,by lia,by lia,by lia,by lia⟩
 ·rintro t ⟨h,tk,hd,w,wb,sd,P,P2,hs,S,e10,e11,e12,e13,e14,e15,e16,e17,e18,J,b1,b2,b3,b4,rfl⟩;symm;refine (hT S g x o h _ w sd 0 l W P q tk hd Hd 0 hs J.hdl (by lia) J.sq J.sh (Ne.symm J.qh) (Ne.symm J.lh) (by lia) J.la).mono ?_;rintro r S' ⟨hd',new,rfl,_,_,hz,K',sh',nl',hn',la'⟩;rw [hz rfl];symm;refine Dg (by simp) ?_;symm;refine Yq ?_;refine MV ?_;symm;refine Lv sh' ?_;refine (KJ (Gu sh') (hs++new) none none λu hu=>?_).mono ?_
  ·rcases uh4.mp hu with hu | hu
   ·obtain ⟨T,z,e1,e2,_,_,_,e6⟩:=J.hl u hu;refine ⟨T,z,e1,K'.get ?_ e2⟩;simp only [uj5,uh0,or_false,not_or];exact ⟨Ah e2 J.la.ik (by simp),e6⟩
   ·obtain ⟨T,z,e1,e2,_⟩:=hn' u hu;exact ⟨T,z,e1,e2⟩
  ·rintro xs t' ⟨rfl,et⟩;refine DG (ul6 _) ?_;symm;rfl
end LW
set_option maxHeartbeats 4000000
namespace F2
open PySem L2 PySem.Spec PySem.W
theorem Sy {k:Kd}{P:Program}{w:World}{K:PySem.W.Frag}{mg:Str->Option Value}{base:Heap}{n:Nat}{fa:Addr}{fd:FuncData}{ps:List Str}:okK k P w K mg base n fa fd ps (λ_ _=>none):=by
 cases k <;> exact ⟨λvs H Q E h=>(by obtain ⟨c,ds,S,_,_,r,S',e,_⟩:=h;cases e),λA' outer s H args us vs Q E _ _ _ _ h=>(by obtain ⟨c,ds,S,_,_,r,S',e,_⟩:=h;cases e)⟩
theorem us0 {n:Nat}:∀{us:List Value},us.length=n + 1->∃a vs,us=a :: vs/\vs.length=n
 | _ :: _,h=>⟨_,_,rfl,Nat.succ.inj h⟩
variable {us:List Value}
theorem us1 (h:us.length=1):∃a,us=[a]:=by
 obtain ⟨a,vs,rfl,q⟩:=us0 h;exact ⟨a,by rw [ua2 q]⟩
theorem us2 (h:us.length=2):∃a b,us=[a,b]:=by
 obtain ⟨_,vs,rfl,q⟩:=us0 h;obtain ⟨_,rfl⟩:=us1 q;exact ⟨_,_,rfl⟩
theorem us3 (h:us.length=3):∃a b c,us=[a,b,c]:=by
 obtain ⟨_,vs,rfl,q⟩:=us0 h;obtain ⟨_,_,rfl⟩:=us2 q;exact ⟨_,_,_,rfl⟩
theorem us4 (h:us.length=4):∃a b c d,us=[a,b,c,d]:=by
 obtain ⟨_,vs,rfl,q⟩:=us0 h;obtain ⟨_,_,_,rfl⟩:=us3 q;exact ⟨_,_,_,_,rfl⟩
theorem us5 (h:us.length=5):∃a b c d e,us=[a,b,c,d,e]:=by
 obtain ⟨_,vs,rfl,q⟩:=us0 h;obtain ⟨_,_,_,_,rfl⟩:=us4 q;exact ⟨_,_,_,_,_,rfl⟩
theorem us6 (h:us.length=6):∃a b c d e f,us=[a,b,c,d,e,f]:=by
 obtain ⟨_,vs,rfl,q⟩:=us0 h;obtain ⟨_,_,_,_,_,rfl⟩:=us5 q;exact ⟨_,_,_,_,_,_,rfl⟩
theorem us7 (h:us.length=7):∃a b c d e f g,us=[a,b,c,d,e,f,g]:=by
 obtain ⟨_,vs,rfl,q⟩:=us0 h;obtain ⟨_,_,_,_,_,_,rfl⟩:=us6 q;exact ⟨_,_,_,_,_,_,_,rfl⟩
end F2
namespace K79
open PySem L2 F2 LW
inductive Fx where
 | De | Ck | A1 | Ef | Cj | CI | CG | CH | B3 | B1 | BO | BQ | CD | Dw | BC | Bj | Bz | BD | CJ | Bo | Cn | Bw | B8 | CS | Dq | CP | CQ | B7 | Bt | Dp | BE | BN | BW | Cp | BK | BL | Cq | BB | BX | Bq | Bx | Bl | law_ | Az | AG | Aw | AH | Ay | A7 | A3 | Ax | Au | AY | AX | AC | AM | AA | AE | AL | AB | Am
noncomputable def top (i:Nat):Stmt:=PySem.Challenge.pw_wireparley_k79_said_behind.main.body.getD i (.Pass ⟨0,0,0,0⟩)
noncomputable abbrev nm:Fx->Str
 | .De=>"_wall"
 | .Ck=>"is_number"
 | .A1=>"is_number_within"
 | .Ef=>"fits"
 | .Cj=>"fits_text"
 | .CI=>"is_sign"
 | .CG=>"fits_list"
 | .CH=>"fits_pair"
 | .B3=>"fits_choice"
 | .B1=>"state_next"
 | .BO=>"place_said"
 | .BQ=>"place_named"
 | .CD=>"words_of"
 | .Dw=>"is_end"
 | .BC=>"grammar_copy"
 | .Bj=>"fitting_bytes"
 | .Bz=>"width_up_to"
 | .BD=>"number_bytes"
 | .CJ=>"leading"
 | .Bo=>"read_value"
 | .Cn=>"byte_at"
 | .Bw=>"byte_up_to"
 | .B8=>"read_number"
 | .CS=>"read_text"
 | .Dq=>"sign_at"
 | .CP=>"read_list"
 | .CQ=>"read_pair"
 | .B7=>"read_choice"
 | .Bt=>"message_bytes"
 | .Dp=>"read_on"
 | .BE=>"read_message"
 | .BN=>"other_side"
 | .BW=>"_law_cell_at"
 | .Cp=>"_law_mixed"
 | .BK=>"_law_shape"
 | .BL=>"_law_value"
 | .Cq=>"_law_state"
 | .BB=>"_law_grammar"
 | .BX=>"_law_refused"
 | .Bq=>"_law_changed"
 | .Bx=>"_law_no_saying"
 | .Bl=>"_law_ticket_good"
 | .law_=>"law"
 | .Az=>"__init__"
 | .AG=>"state"
 | .Aw=>"hear"
 | .AH=>"unread_of"
 | .Ay=>"__init__"
 | .A7=>"say"
 | .A3=>"take"
 | .Ax=>"speak"
 | .Au=>"listen"
 | .AY=>"waiting"
 | .AX=>"may_say"
 | .AC=>"shape_to_say"
 | .AM=>"has_ended"
 | .AA=>"__init__"
 | .AE=>"say"
 | .AL=>"take"
 | .AB=>"ticket"
 | .Am=>"said_behind"
abbrev ql:Fx->Str
 | .Az=>"Hearer.__init__"
 | .AG=>"Hearer.state"
 | .Aw=>"Hearer.hear"
 | .AH=>"Hearer.unread_of"
 | .Ay=>"Side.__init__"
 | .A7=>"Side.say"
 | .A3=>"Side.take"
 | .Ax=>"Side.speak"
 | .Au=>"Side.listen"
 | .AY=>"Side.waiting"
 | .AX=>"Side.may_say"
 | .AC=>"Side.shape_to_say"
 | .AM=>"Side.has_ended"
 | .AA=>"Lasting.__init__"
 | .AE=>"Lasting.say"
 | .AL=>"Lasting.take"
 | .AB=>"Lasting.ticket"
 | .Am=>"Lasting.said_behind"
 | x=>nm x
noncomputable abbrev me:Fx->Bool
 | .Az=>true
 | .AG=>true
 | .Aw=>true
 | .AH=>true
 | .Ay=>true
 | .A7=>true
 | .A3=>true
 | .Ax=>true
 | .Au=>true
 | .AY=>true
 | .AX=>true
 | .AC=>true
 | .AM=>true
 | .AA=>true
 | .AE=>true
 | .AL=>true
 | .AB=>true
 | .Am=>true
 | _=>false
noncomputable abbrev ow:Fx->Str
 | .Az=>"Hearer"
 | .AG=>"Hearer"
 | .Aw=>"Hearer"
 | .AH=>"Hearer"
 | .Ay=>"Side"
 | .A7=>"Side"
 | .A3=>"Side"
 | .Ax=>"Side"
 | .Au=>"Side"
 | .AY=>"Side"
 | .AX=>"Side"
 | .AC=>"Side"
 | .AM=>"Side"
 | .AA=>"Lasting"
 | .AE=>"Lasting"
 | .AL=>"Lasting"
 | .AB=>"Lasting"
 | .Am=>"Lasting"
 | _=>""
abbrev st:Fx->Stmt
 | .De=>top 0
 | .Ck=>top 14
 | .A1=>top 15
 | .Ef=>top 16
 | .Cj=>top 17
 | .CI=>top 18
 | .CG=>top 19
 | .CH=>top 20
 | .B3=>top 21
 | .B1=>top 23
 | .BO=>top 24
 | .BQ=>top 25
 | .CD=>top 26
 | .Dw=>top 27
 | .BC=>top 28
 | .Bj=>top 31
 | .Bz=>top 32
 | .BD=>top 33
 | .CJ=>top 34
 | .Bo=>top 35
 | .Cn=>top 36
 | .Bw=>top 37
 | .B8=>top 38
 | .CS=>top 39
 | .Dq=>top 40
 | .CP=>top 41
 | .CQ=>top 42
 | .B7=>top 43
 | .Bt=>top 45
 | .Dp=>top 46
 | .BE=>top 47
 | .BN=>top 51
 | .BW=>top 56
 | .Cp=>top 57
 | .BK=>top 58
 | .BL=>top 59
 | .Cq=>top 60
 | .BB=>top 61
 | .BX=>top 62
 | .Bq=>top 63
 | .Bx=>top 64
 | .Bl=>top 65
 | .law_=>top 66
 | .Az=>AO (top 49) 0
 | .AG=>AO (top 49) 1
 | .Aw=>AO (top 49) 2
 | .AH=>AO (top 49) 3
 | .Ay=>AO (top 52) 0
 | .A7=>AO (top 52) 1
 | .A3=>AO (top 52) 2
 | .Ax=>AO (top 52) 3
 | .Au=>AO (top 52) 4
 | .AY=>AO (top 52) 5
 | .AX=>AO (top 52) 6
 | .AC=>AO (top 52) 7
 | .AM=>AO (top 52) 8
 | .AA=>AO (top 54) 0
 | .AE=>AO (top 54) 1
 | .AL=>AO (top 54) 2
 | .AB=>AO (top 54) 3
 | .Am=>AO (top 54) 4
noncomputable abbrev ps:Fx->List Str
 | .De=>["k"]
 | .Ck=>["thing"]
 | .A1=>["thing", "low", "high"]
 | .Ef=>["s", "thing"]
 | .Cj=>["s", "thing"]
 | .CI=>["number"]
 | .CG=>["s", "thing"]
 | .CH=>["s", "thing"]
 | .B3=>["s", "thing"]
 | .B1=>["g", "step"]
 | .BO=>["state", "thing"]
 | .BQ=>["state", "thing"]
 | .CD=>["state"]
 | .Dw=>["state"]
 | .BC=>["g"]
 | .Bj=>["s", "value"]
 | .Bz=>["most"]
 | .BD=>["number", "width"]
 | .CJ=>["number", "cut"]
 | .Bo=>["s", "wire", "at"]
 | .Cn=>["wire", "at"]
 | .Bw=>["most", "wire", "at"]
 | .B8=>["s", "wire", "at"]
 | .CS=>["s", "wire", "at"]
 | .Dq=>["wire", "at"]
 | .CP=>["s", "wire", "at"]
 | .CQ=>["s", "wire", "at"]
 | .B7=>["s", "wire", "at"]
 | .Bt=>["state", "place", "value"]
 | .Dp=>["g", "state", "wires", "places"]
 | .BE=>["state", "wire", "at"]
 | .BN=>["side"]
 | .BW=>["script", "k"]
 | .Cp=>["cell", "k"]
 | .BK=>["cell", "depth"]
 | .BL=>["shape", "cell"]
 | .Cq=>["cell", "k", "many"]
 | .BB=>["cells"]
 | .BX=>["lasting", "ticket"]
 | .Bq=>["value"]
 | .Bx=>["lasting", "state", "own", "cell"]
 | .Bl=>["lasting", "said", "least", "cell", "held"]
 | .law_=>["script"]
 | .Az=>["self", "g", "sides"]
 | .AG=>["self"]
 | .Aw=>["self", "side", "piece"]
 | .AH=>["self", "side"]
 | .Ay=>["self", "g", "side"]
 | .A7=>["self", "name", "value"]
 | .A3=>["self", "piece"]
 | .Ax=>["self", "name", "value"]
 | .Au=>["self", "piece"]
 | .AY=>["self"]
 | .AX=>["self"]
 | .AC=>["self", "name"]
 | .AM=>["self"]
 | .AA=>["self", "g", "side"]
 | .AE=>["self", "name", "value"]
 | .AL=>["self", "piece"]
 | .AB=>["self"]
 | .Am=>["self", "ticket"]
noncomputable abbrev ns:Fx->List Str
 | .De=>["k"]
 | .Ck=>["thing"]
 | .A1=>["thing", "low", "high"]
 | .Ef=>["s", "thing", "kind"]
 | .Cj=>["s", "thing", "sign"]
 | .CI=>["number"]
 | .CG=>["s", "thing", "part"]
 | .CH=>["s", "thing"]
 | .B3=>["s", "thing"]
 | .B1=>["g", "step"]
 | .BO=>["state", "thing", "place"]
 | .BQ=>["state", "thing", "words", "place"]
 | .CD=>["state"]
 | .Dw=>["state"]
 | .BC=>["g"]
 | .Bj=>["s", "value", "kind", "row", "thing"]
 | .Bz=>["most"]
 | .BD=>["number", "width"]
 | .CJ=>["number", "cut"]
 | .Bo=>["s", "wire", "at", "kind"]
 | .Cn=>["wire", "at"]
 | .Bw=>["most", "wire", "at", "byte"]
 | .B8=>["s", "wire", "at", "most", "width", "number", "k"]
 | .CS=>["s", "wire", "at", "length", "place", "text", "k"]
 | .Dq=>["wire", "at", "number"]
 | .CP=>["s", "wire", "at", "length", "place", "things", "k", "part"]
 | .CQ=>["s", "wire", "at", "first", "second"]
 | .B7=>["s", "wire", "at", "k", "part"]
 | .Bt=>["state", "place", "value"]
 | .Dp=>["g", "state", "wires", "places", "talk", "standing", "behind", "side", "read"]
 | .BE=>["state", "wire", "at", "word", "read", "e"]
 | .BN=>["side"]
 | .BW=>["script", "k"]
 | .Cp=>["cell", "k", "number"]
 | .BK=>["cell", "depth", "kind", "left", "low", "one", "other"]
 | .BL=>["shape", "cell", "kind", "many", "left", "found", "k", "one", "other", "number"]
 | .Cq=>["cell", "k", "many", "left", "words", "side", "count", "name", "shape"]
 | .BB=>["cells"]
 | .BX=>["lasting", "ticket", "caught", "e", "others"]
 | .Bq=>["value", "one"]
 | .Bx=>["lasting", "state", "own", "cell", "name", "found"]
 | .Bl=>["lasting", "said", "least", "cell", "held", "many", "ticket", "found", "again"]
 | .law_=>["script", "g", "own", "other", "lasting", "beside", "said", "least", "taken", "held", "cell", "state", "words", "name", "shape", "after", "value", "told", "piece"]
 | .Az=>["self", "g", "sides", "side"]
 | .AG=>["self"]
 | .Aw=>["self", "side", "piece", "read"]
 | .AH=>["self", "side"]
 | .Ay=>["self", "g", "side"]
 | .A7=>["self", "name", "value"]
 | .A3=>["self", "piece"]
 | .Ax=>["self", "name", "value", "state", "place"]
 | .Au=>["self", "piece"]
 | .AY=>["self"]
 | .AX=>["self"]
 | .AC=>["self", "name"]
 | .AM=>["self"]
 | .AA=>["self", "g", "side"]
 | .AE=>["self", "name", "value", "row"]
 | .AL=>["self", "piece", "told"]
 | .AB=>["self"]
 | .Am=>["self", "ticket"]
def body (Φ:Fx->Fn):Fx->Fn
 | .De=>fnOf 1 1 (Sg)
 | .Ck=>fnOf 1 1 (EA)
 | .A1=>fnOf 3 3 (Dl (Φ .Ck))
 | .Ef=>fnOf 2 3 (Mp (Φ .B3) (Φ .CH) (Φ .CG) (Φ .Cj) (Φ .A1))
 | .Cj=>fnOf 2 3 (Ey (Φ .CI))
 | .CI=>fnOf 1 1 (Hh)
 | .CG=>fnOf 2 3 (Ew (Φ .Ef))
 | .CH=>fnOf 2 2 (Ex (Φ .Ef))
 | .B3=>fnOf 2 2 (D1 (Φ .Ef) (Φ .A1))
 | .B1=>fnOf 2 2 (Fq)
 | .BO=>fnOf 2 3 (Dn (Φ .Ef) (Φ .BQ))
 | .BQ=>fnOf 2 4 (E1 (Φ .CD))
 | .CD=>fnOf 1 1 (GA (Φ .Dw))
 | .Dw=>fnOf 1 1 (Ix)
 | .BC=>fnOf 1 1 (Ez (Φ .Dw))
 | .Bj=>fnOf 2 5 (Dk (Φ .Bj) (Φ .Bz) (Φ .BD))
 | .Bz=>fnOf 1 1 (E3)
 | .BD=>fnOf 2 2 (EB (Φ .CJ))
 | .CJ=>fnOf 2 2 (Hj)
 | .Bo=>fnOf 3 4 (Da (Φ .B7) (Φ .CQ) (Φ .CP) (Φ .CS) (Φ .B8))
 | .Cn=>fnOf 2 2 (Fm)
 | .Bw=>fnOf 3 4 (Ei (Φ .Cn))
 | .B8=>fnOf 3 7 (CN (Φ .CJ) (Φ .Cn) (Φ .Bz))
 | .CS=>fnOf 3 7 (DA (Φ .Dq) (Φ .Bw))
 | .Dq=>fnOf 2 3 (Fp (Φ .CI) (Φ .Cn))
 | .CP=>fnOf 3 8 (Dy (Φ .Bo) (Φ .Bw))
 | .CQ=>fnOf 3 5 (Dz (Φ .Bo))
 | .B7=>fnOf 3 5 (CL (Φ .Bo) (Φ .Bw))
 | .Bt=>fnOf 3 3 (Dm (Φ .Bj))
 | .Dp=>fnOf 4 9 (Hk (Φ .BE))
 | .BE=>fnOf 3 6 (EC (Φ .Bo))
 | .BN=>fnOf 1 1 (Fo)
 | .BW=>fnOf 2 2 (C9)
 | .Cp=>fnOf 2 3 (DY)
 | .BK=>fnOf 2 7 (B5 (Φ .BK))
 | .BL=>fnOf 2 10 (D0 (Φ .BL))
 | .Cq=>fnOf 3 9 (DZ (Φ .BK) (Φ .Cp))
 | .BB=>fnOf 1 1 (Di (Φ .Cq))
 | .BX=>fnOf 2 5 (Dj (Φ .Am))
 | .Bq=>fnOf 1 2 (Dh (Φ .Bq))
 | .Bx=>fnOf 4 6 (DH (Φ .AE))
 | .Bl=>fnOf 5 9 (C5 (Φ .Am) (Φ .BX))
 | .law_=>fnOf 1 19 (Hi (Φ .Bl) (Φ .AB) (Φ .A3) (Φ .Bq) (Φ .AE) (Φ .BL) (Φ .AL) (Φ .A7) (Φ .Bx) (Φ .AG) (Φ .Ay) (Φ .AA) (Φ .BW) (Φ .BB))
 | .Az=>fnOf 3 4 (Eh (Φ .BC))
 | .AG=>fnOf 1 1 (Dx)
 | .Aw=>fnOf 3 4 (DV (Φ .Dp))
 | .AH=>fnOf 2 2 (F4 (Φ .De))
 | .Ay=>fnOf 3 3 (EY (Φ .BN) (Φ .Az))
 | .A7=>fnOf 3 3 (EZ (Φ .Ax))
 | .A3=>fnOf 2 2 (Ev (Φ .Au))
 | .Ax=>fnOf 3 5 (Cl (Φ .Bt) (Φ .B1) (Φ .BO))
 | .Au=>fnOf 2 2 (DX (Φ .BN) (Φ .Aw))
 | .AY=>fnOf 1 1 (J2 (Φ .De))
 | .AX=>fnOf 1 1 (JZ (Φ .De))
 | .AC=>fnOf 2 2 (GQ (Φ .De))
 | .AM=>fnOf 1 1 (Iw (Φ .De))
 | .AA=>fnOf 3 3 (DW (Φ .Ay))
 | .AE=>fnOf 3 4 (B4 (Φ .Ax))
 | .AL=>fnOf 2 3 (Eu (Φ .Au))
 | .AB=>fnOf 1 1 (CK)
 | .Am=>fnOf 2 2 (Be (Φ .A1))
def run:Nat->Fx->Fn
 | 0=>λ_ _ _=>none
 | n + 1=>body (run n)
structure Md (K:PySem.W.Frag)(mg:Str->Option Value)(A:Fx->Addr)(fd:Fx->FuncData):Prop where
 fn:∀x,Fun K (nm x) (ql x) (st x) (A x) (fd x)
 mgs:∀x,me x=false->mg (nm x)=some (.ref (A x))
 bd:∀x,Binds K (fd x) (ps x) []
 cm:CM K
 Kv:∃C,PySem.W.nsIn K mainGlobals "Lasting" = some (some (.ref C))/\mg "Lasting" = some (.ref C)/\Mk K C (A .AA)/\Meth K C "say" (A .AE)/\Meth K C "take" (A .AL)/\Meth K C "ticket" (A .AB)/\Meth K C "said_behind" (A .Am)/\Meth K C "speak" (A .Ax)/\Meth K C "listen" (A .Au)/\Meth K C "waiting" (A .AY)/\Meth K C "may_say" (A .AX)/\Meth K C "shape_to_say" (A .AC)/\Meth K C "has_ended" (A .AM)/\Meth K C "state" (A .AG)/\Meth K C "hear" (A .Aw)/\Meth K C "unread_of" (A .AH)
 Ph:∃C,PySem.W.nsIn K mainGlobals "Side" = some (some (.ref C))/\mg "Side" = some (.ref C)/\Mk K C (A .Ay)/\Meth K C "say" (A .A7)/\Meth K C "take" (A .A3)/\Meth K C "speak" (A .Ax)/\Meth K C "listen" (A .Au)/\Meth K C "waiting" (A .AY)/\Meth K C "may_say" (A .AX)/\Meth K C "shape_to_say" (A .AC)/\Meth K C "has_ended" (A .AM)/\Meth K C "state" (A .AG)/\Meth K C "hear" (A .Aw)/\Meth K C "unread_of" (A .AH)
 eR:∃C,mg "Hearer" = some (.ref C)/\ByCls K C "__init__" (A .Az)
 fG:∃C,mg "Side" = some (.ref C)/\ByCls K C "__init__" (A .Ay)
 cI:mg "ValueError" = none
 dO:mg "bool" = none
 dM:mg "dict" = none
 cK:mg "enumerate" = none
 eA:mg "int" = none
 b8:mg "isinstance" = none
 eB:mg "len" = none
 dF:mg "list" = none
 dZ:mg "ord" = none
 dB:mg "range" = none
 eC:mg "str" = none
 dE:mg "tuple" = none
 cB:∃tk,mg "FIRST_SIGN" = some (.int 32 tk)
 cE:∃tk,mg "LAST_SIGN" = some (.int 126 tk)
 c9:∃tk,mg "PERCENT_SIGN" = some (.int 37 tk)
 d7:∃tk,mg "SIGNS" = some (.str " !\"#$ &'()*+,-./0123456789:;<=>?@ABCDEFGHIJKLMNOPQRSTUVWXYZ[\\]^_`abcdefghijklmnopqrstuvwxyz{|}~" tk)
 xm:∃(P:Addr) (ca:Str->Addr),XM K mg P ca/\(XF1 K (ca "NoTalk") P "NoTalk.__init__" (AO (top 6) 0)/\XF2 K (ca "Broken") P "Broken.__init__" (AO (top 5) 0))/\∀n∈(["NoName", "Short"]:List Str),XN0 K (ca n)
noncomputable abbrev kd:Fx->Kd
 | .De=>.pl
 | .Ck=>.pl
 | .A1=>.pl
 | .Ef=>.pl
 | .Cj=>.pl
 | .CI=>.pl
 | .CG=>.pl
 | .CH=>.pl
 | .B3=>.pl
 | .B1=>.pl
 | .BO=>.pl
 | .BQ=>.pl
 | .CD=>.pl
 | .Dw=>.pl
 | .BC=>.pl
 | .Bj=>.fr
 | .Bz=>.pl
 | .BD=>.fr
 | .CJ=>.pl
 | .Bo=>.ex
 | .Cn=>.ex
 | .Bw=>.ex
 | .B8=>.ex
 | .CS=>.ex
 | .Dq=>.ex
 | .CP=>.ex
 | .CQ=>.ex
 | .B7=>.ex
 | .Bt=>.fr
 | .Dp=>.er
 | .BE=>.er
 | .BN=>.pl
 | .BW=>.pl
 | .Cp=>.pl
 | .BK=>.pl
 | .BL=>.pl
 | .Cq=>.pl
 | .BB=>.pl
 | .BX=>.pl
 | .Bq=>.pl
 | .Bx=>.pl
 | .Bl=>.pl
 | .law_=>.pl
 | .Az=>.pl
 | .AG=>.pl
 | .Aw=>.er
 | .AH=>.pl
 | .Ay=>.pl
 | .A7=>.ex
 | .A3=>.er
 | .Ax=>.ex
 | .Au=>.er
 | .AY=>.pl
 | .AX=>.pl
 | .AC=>.pl
 | .AM=>.pl
 | .AA=>.pl
 | .AE=>.ex
 | .AL=>.er
 | .AB=>.pl
 | .Am=>.ex
theorem T2:FnScope ["self", "at", "side"] ["self", "at", "side"] (Al (AO (top 5) 0)):=⟨rfl,rfl,rfl,by decide +kernel,rfl,by decide +kernel,by decide +kernel⟩
theorem Za:FnScope ["self", "at"] ["self", "at"] (Al (AO (top 6) 0)):=⟨rfl,rfl,rfl,by decide +kernel,rfl,by decide +kernel,by decide +kernel⟩
section
variable {P:Program}{w:World}{K:PySem.W.Frag}{mg:Str->Option Value}{base:Heap}{A:Fx->Addr}{fd:Fx->FuncData}{n:Nat}
theorem Jq {a:Kd}(k:Kd){P:Program}{w:World}{K:PySem.W.Frag}{mg:Str->Option Value}{base:Heap}{n:Nat}{fa:Addr}{fd:FuncData}{ps:List Str}{f:Fn}(h:okK a P w K mg base n fa fd ps f)(e:a=k):okK k P w K mg base n fa fd ps f:=e ▸ h
section
variable {X:Cx}{A:Fx->Addr}{fd:Fx->FuncData}{n k:Nat}{x:Fx}{s:Str}{e:Expr}{es:List Expr}{f:M (List D)}{p pos:Pos}{E:L2.St->XK}
theorem cP (M:Md X.K X.mg A fd)(ih:∀x,okK (kd x) X.prog X.w X.K X.mg X.base k (A x) (fd x) (ps x) (run n x))(hr:Room k X.A)(ha:PA X (e :: es) (RA X.K f))(hk:kd x = .pl)(hm:me x=false)(hs:nm x=s)(hg:Gl X s)(h1:AZ e=false)(h2:A6 es=true)(hd:(s == ("__debug__" : Str))=false):PE X (.Call (.Name s p) (e :: es) [] pos) (RE X.K (Ak (run n x) f)):=by subst hs;exact Rv (Jq .pl (ih x) hk) hr hg (M.mgs x hm) (Fun.kp (M.fn x)) (M.bd x) ha hd h1 h2
theorem fF (M:Md X.K X.mg A fd)(ih:∀x,okK (kd x) X.prog X.w X.K X.mg X.base k (A x) (fd x) (ps x) (run n x))(hr:Room k X.A)(ha:PA X (e :: es) (RA X.K f))(hk:kd x = .fr)(hm:me x=false)(hs:nm x=s)(hg:Gl X s)(h1:AZ e=false)(h2:A6 es=true)(hd:(s == ("__debug__" : Str))=false):PE X (.Call (.Name s p) (e :: es) [] pos) (RF X.K (Dd (run n x) f)):=by subst hs;exact RC (Jq .fr (ih x) hk) hr hg (M.mgs x hm) (Fun.kp (M.fn x)) (M.bd x) ha hd h1 h2
theorem xer (M:Md X.K X.mg A fd)(ih:∀x,okK (kd x) X.prog X.w X.K X.mg X.base k (A x) (fd x) (ps x) (run n x))(hr:Room k X.A)(hp:Ce (CX1 false X.prog X.w) X E)(ha:PA X (e :: es) (RA X.K f))(hk:kd x = .er)(hm:me x=false)(hs:nm x=s)(hg:Gl X s)(h1:AZ e=false)(h2:A6 es=true)(hd:(s == ("__debug__" : Str))=false):PE X (.Call (.Name s p) (e :: es) [] pos) (RX X.K E (Ak (run n x) f)):=by subst hs;exact Nz (Jq .er (ih x) hk) hr hg (M.mgs x hm) (Fun.kp (M.fn x)) (M.bd x) hp ha hd h1 h2
theorem xex (M:Md X.K X.mg A fd)(ih:∀x,okK (kd x) X.prog X.w X.K X.mg X.base k (A x) (fd x) (ps x) (run n x))(hr:Room k X.A)(hp:Ce (CX1 true X.prog X.w) X E)(ha:PA X (e :: es) (RA X.K f))(hk:kd x = .ex)(hm:me x=false)(hs:nm x=s)(hg:Gl X s)(h1:AZ e=false)(h2:A6 es=true)(hd:(s == ("__debug__" : Str))=false):PE X (.Call (.Name s p) (e :: es) [] pos) (RX X.K E (Ak (run n x) f)):=by subst hs;exact Nz (Jq .ex (ih x) hk) hr hg (M.mgs x hm) (Fun.kp (M.fn x)) (M.bd x) hp ha hd h1 h2
end
seal PH PE PA PSs PS PT PG PGs PW PI PIf PO
theorem sc (x:Fx):FnScope (ns x) (ps x) (Al (st x)):=by
 cases x <;> exact ⟨rfl,rfl,rfl,by decide +kernel,rfl,by decide +kernel,by decide +kernel⟩
local macro_rules | `(tactic| clear 30 $t)=>`(tactic| with_reducible refine (?_ : $t))
seal Lj
theorem step (M:Md K mg A fd)(ih0:∀x,okK (kd x) P w K mg base (2 * n + 2) (A x) (fd x) (ps x) (run n x))(y:Fx):okK (kd y) P w K mg base (2 * n + 2 + 1 + 1) (A y) (fd y) (ps y) (run (n + 1) y):=by
 have ih:=λx=>Xl (ih0 x);obtain ⟨_,cB⟩:=M.cB;obtain ⟨_,cE⟩:=M.cE;obtain ⟨_,c9⟩:=M.c9;obtain ⟨P',ca,x,xt,x0⟩:=M.xm;have xb:XN2 P w K mg base (ca "Broken") P':=R8 rfl T2 rfl rfl rfl xt.2;obtain ⟨_,d7⟩:=M.d7;have xh:Rf P w K mg base (ca "Broken") P':=P3 rfl T2 rfl rfl rfl xt.2;obtain ⟨Lasting_,b9,f8,eZ,gB,g6,fJ,eK,fR,fM,gC,gD,fX,gA,fV,fZ,g9⟩:=M.Kv;have dN:MAt K "Lasting" "said_behind" Lasting_ (A .Am):=⟨by decide,b9,eK,by decide⟩;have fE:MAt K "Lasting" "say" Lasting_ (A .AE):=⟨by decide,b9,gB,by decide⟩;obtain ⟨Side_,c8,g8,fY,eY,eX,eN,eL,fP,fU,f7,fN,g7,eW,fK⟩:=M.Ph;have fO:MAt K "Lasting" "state" Lasting_ (A .AG):=⟨by decide,b9,fV,by decide⟩;have fQ:MAt K "Lasting" "take" Lasting_ (A .AL):=⟨by decide,b9,g6,by decide⟩;have fD:MAt K "Lasting" "ticket" Lasting_ (A .AB):=⟨by decide,b9,fJ,by decide⟩;have eV:MAt K "Side" "say" Side_ (A .A7):=⟨by decide,c8,eY,by decide⟩;have eP:MAt K "Side" "take" Side_ (A .A3):=⟨by decide,c8,eX,by decide⟩;obtain ⟨Hearer_b,f9,fH⟩:=M.eR;have eJ:MAt K "Side" "speak" Side_ (A .Ax):=⟨by decide,c8,eN,by decide⟩;have eH:MAt K "Side" "listen" Side_ (A .Au):=⟨by decide,c8,eL,by decide⟩;have xn:XN1 P w K mg base (ca "NoTalk") P':=R7 rfl Za rfl rfl xt.1;have fT:MAt K "Lasting" "hear" Lasting_ (A .Aw):=⟨by decide,b9,fZ,by decide⟩;have eU:MAt K "Side" "hear" Side_ (A .Aw):=⟨by decide,c8,eW,by decide⟩;obtain ⟨Side_b,fW,fS⟩:=M.fG;have fL:MAt K "Lasting" "speak" Lasting_ (A .Ax):=⟨by decide,b9,fR,by decide⟩;have fA:MAt K "Lasting" "listen" Lasting_ (A .Au):=⟨by decide,b9,fM,by decide⟩;have sy:=sc y;have nd:=sy.nd;have mf:=M.fn y
 cases y <;> first | (clear 30 (okK .pl ..);refine X5 (g:=fnOf _ _ _) rfl (WS rfl rfl mf sy (λcdv A' outer s H E hr=>?_))) | (clear 30 (okK .ex ..);refine NO (g:=fnOf _ _ _) rfl (Nq rfl rfl mf sy (λcdv A' outer s H E hr hp hq ho=>?_))) | (clear 30 (okK .fr ..);refine Vq (g:=fnOf _ _ _) rfl (Uz rfl rfl mf sy (λcdv A' outer s H E hr=>?_))) | (clear 30 (okK .er ..);refine NO (g:=fnOf _ _ _) rfl (UA rfl rfl mf sy (λcdv A' outer s H E hr hp hq ho ht=>?_)))
 all_goals repeat' first
  | (clear 30 (PH ..);first
    | (clear 30 (PH _ _ (.ExceptHandler (some (.Name _ _)) (some _) [.Raise (some (.Call (.Name _ _) [_,_] [] _)) (some _) _] _ :: _) (RH _ _ (μX _ _) (hAs _ _ (Do _ _) _)));refine YM x xh rfl rfl (hr.mono (by omega)) rfl (x.ms "Broken" (by decide)) (x.cl "Broken" (by decide)) (λ_ hn=>x.subE hn (by decide)) nd rfl rfl ht rfl (λy=>?_) UI ?_)
    | exact WO
    | (clear 30 (PH _ _ (.ExceptHandler (some (.Name _ _)) none (_ :: _) _ :: _) (RH _ _ _ (hNo _ _ _)));refine TN x rfl (x.ms "Short" (by decide)) (x.cl "Short" (by decide)) (λ_ hn=>x.subE hn (by decide)) (λy=>?_) ?_)
    | (clear 30 (PH _ _ (.ExceptHandler (some (.Name _ _)) (some _) (_ :: _) _ :: _) (RH _ _ _ (hAs _ _ _ _)));refine YL x rfl x.pm x.pc (λ_ hn=>x.subP hn) nd rfl rfl (λy=>?_) ?_)
    | (clear 30 (PH _ _ (.ExceptHandler (some (.Name _ _)) none (_ :: _) _ :: _) (RH _ _ _ (hNo _ _ _)));refine TN x rfl (x.ms "NoTalk" (by decide)) (x.cl "NoTalk" (by decide)) (λ_ hn=>x.subE hn (by decide)) (λy=>?_) ?_))
  | (clear 30 (PE ..);first
    | (clear 30 (PE _ (.Name ..) ..);first
      | (clear 30 (PE _ _ (RE _ (Aa _)));exact (WM _))
      | (clear 30 (PE _ (.Name _ _) (RE _ (fC (.ty _))));exact (Jh rfl M.eC Ws))
      | (clear 30 (PE _ (.Name _ _) (RE _ (fC (.ty _))));exact (Jh rfl M.dE Rm))
      | (clear 30 (PE _ (.Name _ _) (RE _ (fC (.ty _))));exact (Jh rfl M.dF Ni))
      | (clear 30 (PE _ (.Name _ _) (RE _ (fC (.int _))));exact (JU rfl cB))
      | (clear 30 (PE _ (.Name _ _) (RE _ (fC (.ty _))));exact (Jh rfl M.eA Wo))
      | (clear 30 (PE _ (.Name _ _) (RE _ (fC (.ty _))));exact (Jh rfl M.dO Ui))
      | (clear 30 (PE _ (.Name _ _) (RE _ (fC (.int _))));exact (JU rfl cE))
      | (clear 30 (PE _ (.Name _ _) (RE _ (fC (.int _))));exact (JU rfl c9))
      | (clear 30 (PE _ _ (RE _ (fC (.str _))));exact (Ry rfl d7)))
    | (clear 30 (PE _ (.Constant ..) ..);first
      | (clear 30 (PE _ _ (RE _ (fC (.int _))));exact WG)
      | (clear 30 (PE _ _ (RE _ (fC (.str _))));exact WL)
      | (clear 30 (PE _ _ (RE _ (fC .non)));exact WH)
      | (clear 30 (PE _ _ (RE _ (fC (.bl _))));exact YH))
    | (clear 30 (PE _ (.Subscript ..) ..);first
      | (clear 30 (PE _ _ (RE _ (Ac _ _ ixD)));refine TL W8 X9 ?_ ?_ (λ_ _=>rfl))
      | (clear 30 (PE _ _ (RE _ (fSl _ _ _ FA)));refine RB sl3 VJ ?_ ?_ ?_)
      | (clear 30 (PE _ _ (RE _ (Ac _ _ FI)));refine TL W6 QI ?_ ?_ (λ_ _=>rfl))
      | (clear 30 (PE _ _ (RF _ (Oh _ _ _)));refine RK ?_ ?_ ?_))
    | (clear 30 (PE _ (.Call ..) ..);first
      | (clear 30 (PE _ _ (RE _ (Ak (run _ _) _)));refine @cP _ _ _ _ _ _ _ _ _ _ _ _ M ih hr ?_ (by rfl) (by rfl) (by rfl) (by rfl) (by rfl) (by rfl) (by decide))
      | (clear 30 (PE _ _ (RE _ (fB _ A4)));refine Ln Rn Vz rfl M.eB Wp ?_)
      | (clear 30 (PE _ (.Call (.Name _ _) _ _ _) (RX _ _ (Ak (run _ _) _)));refine @xex _ _ _ _ _ _ _ _ _ _ _ _ _ M ih hr hp ?_ (by rfl) (by rfl) (by rfl) (by rfl) (by rfl) (by rfl) (by decide))
      | (clear 30 (PE _ _ (RE _ (fB _ DS)));refine Ln LY SY rfl M.b8 Bg ?_)
      | (clear 30 (PE _ _ (RF _ (fBF _ DU)));refine YJ LZ VA rfl M.dF Ni ?_)
      | (clear 30 (PE _ _ (RF _ (Dd (run _ _) _)));refine @fF _ _ _ _ _ _ _ _ _ _ _ _ M ih hr ?_ (by rfl) (by rfl) (by rfl) (by rfl) (by rfl) (by rfl) (by decide))
      | (clear 30 (PE _ _ (RE _ (objM BP _ _)));refine Ps ?_ ?_)
      | (clear 30 (PE _ _ (RE _ (fB _ Eg)));refine Ln LY NR rfl M.b8 Bg ?_)
      | (clear 30 (PE _ _ (RE _ (fB _ IC)));refine Ln Ro VG rfl M.dZ Wq ?_)
      | (clear 30 (PE _ (.Call (.Name _ _) _ _ _) (RX _ _ (Ak (run _ _) _)));refine @xer _ _ _ _ _ _ _ _ _ _ _ _ _ M ih hr hp ?_ (by rfl) (by rfl) (by rfl) (by rfl) (by rfl) (by rfl) (by decide))
      | (clear 30 (PE _ _ (RE _ (AV _ (DJ (run _ .Am)) _ _)));refine FY M.cm dN (Jc (ih .Am)) hr (M.bd .Am) ?_ ?_)
      | (clear 30 (PE _ _ (RE _ (objX _ _)));refine Oj ?_ ?_)
      | (clear 30 (PE _ _ (RE _ (fUn _ IU)));refine Pt ?_)
      | (clear 30 (PE _ _ (RE _ (fB _ HH)));refine Rx rfl M.dM ?_)
      | (clear 30 (PE _ _ (RE _ (joinM _ _)));refine Us ?_ ?_)
      | (clear 30 (PE _ _ (RX _ _ (AV _ (run _ .Am) _ _)));refine D6 M.cm dN (ih .Am) hr (M.bd .Am) hp ?_ ?_)
      | (clear 30 (PE _ _ (RE _ (bnd _ (Cb ("Broken" : Str)))));refine Es (n:="Broken") x (by decide) rfl M.b8 Bg rfl ?_)
      | (clear 30 (PE _ _ (RE _ (bnd _ (Cb ("NoRow" : Str)))));refine Es (n:="NoRow") x (by decide) rfl M.b8 Bg rfl ?_)
      | (clear 30 (PE _ _ (RE _ (bnd _ (Cb ("NoTalk" : Str)))));refine Es (n:="NoTalk") x (by decide) rfl M.b8 Bg rfl ?_)
      | (clear 30 (PE _ _ (RE _ (bnd _ (Cb ("NoText" : Str)))));refine Es (n:="NoText") x (by decide) rfl M.b8 Bg rfl ?_)
      | (clear 30 (PE _ _ (RE _ (bnd _ (Cb ("NoValue" : Str)))));refine Es (n:="NoValue") x (by decide) rfl M.b8 Bg rfl ?_)
      | (clear 30 (PE _ _ (RE _ (bnd _ (Cb ("Short" : Str)))));refine Es (n:="Short") x (by decide) rfl M.b8 Bg rfl ?_)
      | (clear 30 (PE _ _ (RE _ (bnd _ (Cb ("NoName" : Str)))));refine Es (n:="NoName") x (by decide) rfl M.b8 Bg rfl ?_)
      | (clear 30 (PE _ _ (RE _ (bnd _ (Cb _))));refine Ur x rfl M.b8 Bg rfl M.cI K8 ?_)
      | (clear 30 (PE _ _ (RX _ _ (AV _ (run _ .AE) _ _)));refine D6 M.cm fE (ih .AE) hr (M.bd .AE) hp ?_ ?_)
      | (clear 30 (PE _ (.Call (.Name _ _) (_ :: _) [] _) (RE _ (HJ _ _ _)));refine No (by decide) b9 eZ (ih0 .AA) hr rfl f8 (M.bd .AA) ?_)
      | (clear 30 (PE _ (.Call (.Name _ _) (_ :: _) [] _) (RE _ (HJ _ _ _)));refine No (by decide) c8 fY (ih0 .Ay) hr rfl g8 (M.bd .Ay) ?_)
      | (clear 30 (PE _ _ (RE _ (AV _ (run _ .AG) _ (ret []))));refine Ma M.cm fO (ih .AG) hr (M.bd .AG) ?_)
      | (clear 30 (PE _ _ (RE _ (AV _ (DJ (run _ .AE)) _ _)));refine FY M.cm fE (Jc (ih .AE)) hr (M.bd .AE) ?_ ?_)
      | (clear 30 (PE _ _ (RE _ (AV _ (DJ (run _ .A3)) _ _)));refine FY M.cm eP (Jc (ih .A3)) hr (M.bd .A3) ?_ ?_)
      | (clear 30 (PE _ _ (RE _ (AV _ (DJ (run _ .A7)) _ _)));refine FY M.cm eV (Jc (ih .A7)) hr (M.bd .A7) ?_ ?_)
      | (clear 30 (PE _ _ (RE _ (AV _ (DJ (run _ .AL)) _ _)));refine FY M.cm fQ (Jc (ih .AL)) hr (M.bd .AL) ?_ ?_)
      | (clear 30 (PE _ _ (RE _ (AV _ (run _ .AB) _ (ret []))));refine Ma M.cm fD (ih .AB) hr (M.bd .AB) ?_)
      | (clear 30 (PE _ (.Call (.Attribute (.Name _ _) _ _) (_ :: _) [] _) (RE _ (Ak _ _)));refine L9 (ih .Az) hr rfl f9 fH (M.bd .Az) ?_)
      | (clear 30 (PE _ (.Call (.Attribute _ _ _) (_ :: _) [] _) (RX _ _ (AV _ (run _ .Ax) _ _)));refine D6 M.cm eJ (ih .Ax) hr (M.bd .Ax) hp ?_ ?_)
      | (clear 30 (PE _ (.Call (.Attribute _ _ _) (_ :: _) [] _) (RX _ _ (AV _ (run _ .Au) _ _)));refine D6 M.cm eH (ih .Au) hr (M.bd .Au) hp ?_ ?_)
      | (clear 30 (PE _ (.Call (.Attribute _ _ _) (_ :: _) [] _) (RX _ _ (AV _ (run _ .Aw) _ _)));refine D6 M.cm fT (ih .Aw) hr (M.bd .Aw) hp ?_ ?_)
      | (clear 30 (PE _ (.Call (.Attribute _ _ _) (_ :: _) [] _) (RX _ _ (AV _ (run _ .Aw) _ _)));refine D6 M.cm eU (ih .Aw) hr (M.bd .Aw) hp ?_ ?_)
      | (clear 30 (PE _ (.Call (.Attribute (.Name _ _) _ _) (_ :: _) [] _) (RE _ (Ak _ _)));refine L9 (ih .Ay) hr rfl fW fS (M.bd .Ay) ?_)
      | (clear 30 (PE _ (.Call (.Attribute _ _ _) (_ :: _) [] _) (RX _ _ (AV _ (run _ .Ax) _ _)));refine D6 M.cm fL (ih .Ax) hr (M.bd .Ax) hp ?_ ?_)
      | (clear 30 (PE _ (.Call (.Attribute _ _ _) (_ :: _) [] _) (RX _ _ (AV _ (run _ .Au) _ _)));refine D6 M.cm fA (ih .Au) hr (M.bd .Au) hp ?_ ?_))
    | (clear 30 (PE _ (.Tuple ..) ..);first
      | (clear 30 (PE _ (.Tuple _ _ _) (RE _ (AU _)));refine @Pv _ _ _ _ _ ?_)
      | (clear 30 (PE _ (.Tuple _ _ _) (RE _ (AU _)));refine Pv ?_))
    | (clear 30 (PE _ (.BinOp ..) ..);first
      | (clear 30 (PE _ _ (RE _ (Ac _ _ AT)));refine Gn NF ML ?_ ?_)
      | (clear 30 (PE _ _ (RE _ (Ac _ _ Ba)));refine Gn Xr VC ?_ ?_)
      | (clear 30 (PE _ _ (RE _ (Ac _ _ A0)));refine Gn U0 SX ?_ ?_)
      | (clear 30 (PE _ _ (RE _ (Ac _ _ Cz)));refine Gn Xv VL ?_ ?_)
      | (clear 30 (PE _ _ (RE _ (Ac _ _ DI)));refine Gn U1 SZ ?_ ?_)
      | (clear 30 (PE _ (.BinOp _ .Add _ _) (RF _ _));refine TM Mu SW ?_ ?_)
      | (clear 30 (PE _ _ (RX _ _ (HI _ _ AT)));refine YS NF ML ?_ ?_)
      | (clear 30 (PE _ _ (RE _ (Ac _ _ MM)));refine Gn Xu VI ?_ ?_)
      | (clear 30 (PE _ _ (RE _ (Ac _ _ MB)));refine Gn Xt VH ?_ ?_)
      | (clear 30 (PE _ (.BinOp _ .Add _ _) (RF _ _));refine TM Mu QH ?_ ?_))
    | (clear 30 (PE _ (.List ..) ..);first
      | refine @WN _ _ _ _ ?_)
    | (clear 30 (PE _ (.Attribute ..) ..);first
      | (clear 30 (PE _ _ (RE _ (BV _ _)));refine WF M.cm (by decide) ?_ rfl)
      | (clear 30 (PE _ _ (RE _ (bnd _ (JL _))));refine WE x x.na ?_ rfl))
    | (clear 30 (PE _ (.BoolOp ..) ..);first
      | (clear 30 (PE _ _ (RE _ (Ed _ _)));refine WD ?_ ?_)
      | (clear 30 (PE _ _ (RE _ _));refine WK ?_))
    | (clear 30 (PE _ (.IfExp ..) ..);first
      | refine Rz ?_ ?_ ?_)
    | (clear 30 (PE _ (.Compare ..) ..);first
      | (clear 30 (PE _ _ (RE _ (EJ _ _ _ _ _)));refine Rw Qr Qr NS NS ?_ ?_ ?_)
      | (clear 30 (PE _ _ (RE _ (Ac _ _ isC)));refine Jg Qq QJ ?_ ?_ (DM _))
      | (clear 30 (PE _ (.Compare _ [.Eq] [_] _) (RE _ (Ac _ _ (eqS _))));refine Jg (Qp hr.units) (HY (g:=id)) ?_ ?_ (DM _))
      | (clear 30 (PE _ (.Compare _ [.NotEq] [_] _) (RE _ (Ac _ _ (eqS _))));refine Jg (Mw hr.units) (HY (g:=λb=>!b)) ?_ ?_ (DM _))
      | (clear 30 (PE _ _ (RE _ (Ac _ _ (inD _))));refine Jg Mx X8 ?_ ?_ (by with_unfolding_all rfl)))
    | (clear 30 (PE _ (.UnaryOp ..) ..);first
      | (clear 30 (PE _ _ (RE _ (fUn _ Ka)));refine YI Ym VF ?_)
      | (clear 30 (PE _ _ (RE _ (HK _)));refine WI ?_))
    | (clear 30 (PE _ (.Dict ..) ..);first
      | exact Pu)
    | (clear 30 (PE _ (.ListComp ..) ..);first
      | (clear 30 (PE _ (.ListComp _ [⟨(.Name ("state" : Str) _),_,_,0⟩] _ _) (RF _ (B0 _ [] _ _ _ _)));refine FZ (Fh ["state"] [] rfl rfl rfl rfl rfl) rfl ?_ (λ_ _ _ _ _=>?_) (λ_ _ _ _ _=>?_) (λ_ _ _ _ _=>?_))
      | (clear 30 (PE _ (.ListComp _ [⟨(.Name ("sign" : Str) _),_,_,0⟩] _ _) (RF _ (B0 _ [] _ _ _ _)));refine FZ (Fh ["sign"] [] rfl rfl rfl rfl rfl) rfl ?_ (λ_ _ _ _ _=>?_) (λ_ _ _ _ _=>?_) (λ_ _ _ _ _=>?_))
      | (clear 30 (PE _ _ (RF _ (B0 _ [0,1] _ _ _ _)));refine FZ (Fh ["k"] [(0 , "number") ,(1 , "width")] rfl rfl rfl rfl rfl) rfl ?_ (λ_ _ _ _ _=>?_) (λ_ _ _ _ _=>?_) (λ_ _ _ _ _=>?_))
      | (clear 30 (PE _ _ (RF _ (B0 _ [4] _ _ _ _)));refine FZ (Fh ["k"] [(4 , "left")] rfl rfl rfl rfl rfl) rfl ?_ (λ_ _ _ _ _=>?_) (λ_ _ _ _ _=>?_) (λ_ _ _ _ _=>?_))
      | (clear 30 (PE _ _ (RF _ (B0 _ _ _ _ _ _)));refine RD (Fh ["k" , "cell"] [(0 , "cells")] rfl rfl rfl rfl rfl) rfl ?_ (λ_ _ _ _ _=>?_) (λ_ _ _ _ _=>?_) (λ_ _ _ _ _=>?_))
      | (clear 30 (PE _ _ (RF _ (B0 _ [0] _ _ _ _)));refine FZ (Fh ["k"] [(0 , "script")] rfl rfl rfl rfl rfl) rfl ?_ (λ_ _ _ _ _=>?_) (λ_ _ _ _ _=>?_) (λ_ _ _ _ _=>?_))
      | (clear 30 (PE _ _ (RF _ (Ha _ _ _ _ _ _)));refine RJ (Fh ["told" , "copy"] [] rfl rfl rfl rfl rfl) rfl ?_ (λ_ _ _ _ _=>?_) (λ_ _ _ _ _=>?_) (λ_ _ _ _ _=>?_)))
    | (clear 30 (PE _ _ (RE _ (AQ _)));refine Ut ?_)
    | (clear 30 (PE _ _ (RE _ (ET _)));refine WJ ?_)
    | (clear 30 (PE _ _ (RX _ _ (Gk _ _)));refine WZ ?_ ?_))
  | (clear 30 (PA ..);first
    | refine @Ru _ _ _ _ _ ?_ ?_ rfl
    | exact WC)
  | (clear 30 (PSs ..);first
    | refine @RQ _ _ _ _ _ _ ?_ ?_
    | refine @Ny _ _ _ _ ?_
    | exact UE
    | refine RU ?_
    | exact (Ny Nt))
  | (clear 30 (PS ..);first
    | (clear 30 (PS _ (.Return ..) ..);first
      | (clear 30 (PS _ _ (RSg _ (μR _) (Ap _)));refine PL ?_)
      | (clear 30 (PS _ _ (RSg _ (μX _ _) (Ap (nxD _))));refine Nv ?_)
      | (clear 30 (PS _ _ (RSg _ (μX _ _) (Ap _)));refine GI (Nw ?_))
      | (clear 30 (PS _ _ (RSg _ (μF _) (FU _)));refine Nu ?_)
      | (clear 30 (PS _ _ (RSg _ (μF _) (Gb _)));exact (PN _)))
    | (clear 30 (PS _ (.Assign ..) ..);first
      | (clear 30 (PS _ (.Assign [.Name _ _] _ _) (RSg _ _ (As _ _)));refine PP nd rfl (.inl rfl) ?_)
      | (clear 30 (PS _ _ (RSg _ (μX _ _) (Cd _ _)));refine GI (Nx nd rfl (.inl rfl) ?_))
      | (clear 30 (PS _ _ (RSg _ _ (BZ _ _ _)));refine WU M.cm (by decide) ?_ ?_)
      | (clear 30 (PS _ _ (RSg _ _ (C3 _ _)));refine WT ?_ ?_)
      | (clear 30 (PS _ _ (RSg _ _ (Ft _ _)));refine WV nd rfl (.inl rfl) ?_)
      | (clear 30 (PS _ _ (RSX _ _ (Cd _ _)));refine Nx nd rfl (.inl rfl) ?_)
      | (clear 30 (PS _ (.Assign [.Name _ _] _ _) (RSg _ _ (As _ _)));refine PP nd rfl (.inr rfl) ?_))
    | (clear 30 (PS _ (.If ..) ..);first
      | refine YO ?_ ?_ ?_)
    | (clear 30 (PS _ (.Expr ..) ..);first
      | (clear 30 (PS _ _ (RSg _ _ (Bi _)));refine Nr ?_)
      | (clear 30 (PS _ _ (RSg _ _ (ownM _ BP _)));refine Op _ ?_)
      | (clear 30 (PS _ _ (RSg _ _ (ownM _ G8 _)));refine Oq _ ?_)
      | (clear 30 (PS _ _ (RSX _ _ (Lm _)));refine RP ?_))
    | (clear 30 (PS _ (.For ..) ..);first
      | (clear 30 (PS _ (.For _ _ _ [] _) (RSg _ _ (C4 _ _ _)));refine PF PassesOwn.never rfl ?_ ?_ ?_)
      | (clear 30 (PS _ _ (RSg _ _ (FL _ _ _)));refine UD PassesOwn.never rfl ?_ ?_ ?_)
      | (clear 30 (PS _ (.For _ _ _ [] _) (RSg _ _ (C4 _ _ _)));refine PF ho rfl ?_ ?_ ?_))
    | (clear 30 (PS _ (.Raise ..) ..);first
      | (clear 30 (PS _ _ (RSg _ (μX _ _) (Do _ _)));refine GI (PJ x xb (hr.mono (by omega)) rfl hq rfl ?_))
      | (clear 30 (PS _ _ (RSg _ (μX _ _) (Fy ("Short" : Str) _)));refine GI (KH (n:="Short") x (by decide) rfl (x0 "Short" (by decide)) rfl hq rfl ?_))
      | (clear 30 (PS _ _ (RSg _ (μX _ _) (Hr _ _)));refine GI (PK x xn (hr.mono (by omega)) rfl hq rfl ?_))
      | (clear 30 (PS _ _ (RSg _ (μX _ _) (Fy ("NoName" : Str) _)));refine GI (KH (n:="NoName") x (by decide) rfl (x0 "NoName" (by decide)) rfl hq rfl ?_)))
    | (clear 30 (PS _ (.Try ..) ..);first
      | (clear 30 (PS _ _ (RSg _ (μR _) (D3 _ _)));refine PQ (qx:=true) x Xi rfl rfl (λpn E hp=>?_) ?_)
      | (clear 30 (PS _ _ (RSg _ (μX _ _) (D3 _ _)));refine PQ (qx:=true) x Xj rfl rfl (λpn E hp=>?_) ?_))
    | exact Nt
    | (clear 30 (PS _ (.While ..) ..);first
      | (clear 30 (PS _ (.While _ _ [] _) _);refine Mh PassesOwn.never ?_ ?_)
      | (clear 30 (PS _ (.While _ _ [] _) (RSg _ _ (Hy _ _)));refine Mh ho ?_ ?_))
    | (clear 30 (PS _ (.Break ..) ..);first
      | exact RN)
    | refine PL ?_
    | refine Nu ?_
    | refine Nv ?_
    | refine GI (Nw ?_)
    | refine Nr ?_)
  | (clear 30 (PT ..);first
    | (clear 30 (PT _ (.Compare ..) ..);first
      | (clear 30 (PT _ (.Compare _ [.Eq] [_] _) (RT _ (An (Ac _ _ (eqS _)))));refine EK (Qp hr.units) (HY (g:=id)) ?_ ?_ (DM _))
      | (clear 30 (PT _ _ (RT _ (An (Ac _ _ gtA))));refine EK Xo Vx ?_ ?_ (DM _))
      | (clear 30 (PT _ (.Compare _ [.NotEq] [_] _) (RT _ (An (Ac _ _ (eqS _)))));refine EK (Mw hr.units) (HY (g:=λb=>!b)) ?_ ?_ (DM _))
      | (clear 30 (PT _ _ (RT _ (An (Ac _ _ isC))));refine EK Qq QJ ?_ ?_ (DM _))
      | (clear 30 (PT _ _ (RT _ (An (Ac _ _ geA))));refine EK Xn Vw ?_ ?_ (DM _))
      | (clear 30 (PT _ _ (RT _ (An (Ac _ _ ltA))));refine EK Xq VB ?_ ?_ (DM _))
      | (clear 30 (PT _ _ (RT _ (An (Ac _ _ (eqO _)))));refine EK (Mw hr.units) (Vu (g:=λb=>!b)) ?_ ?_ (DM _))
      | (clear 30 (PT _ _ (RT _ (An (Ac _ _ (inS _)))));refine EK (Xp hr.units) (Vy (neg:=false)) ?_ ?_ (by with_unfolding_all rfl)))
    | (clear 30 (PT _ (.BoolOp ..) ..);first
      | refine YQ ?_)
    | (clear 30 (PT _ (.UnaryOp ..) ..);first
      | refine WW ?_)
    | (clear 30 (PT _ _ (RT _ (An _)));refine PR ?_)
    | (clear 30 (PT _ _ (RT _ (An _)));refine PR ?_))
  | (clear 30 (PG ..);first
    | (clear 30 (PG _ (.Name ..) ..);first
      | (clear 30 (PG _ (.Name _ _) (RG _ (AF _)));exact (Du nd rfl (.inl rfl)))
      | (clear 30 (PG _ (.Name _ _) (RG _ (AF _)));exact (Du nd rfl (.inr rfl)))
      | (clear 30 (PG _ (.Name _ _) (RG _ (AF _)));exact (Du (by show List.Nodup [("k" : Str) ,("cell" : Str) ,("cells" : Str)] ;decide +kernel) rfl (.inl rfl)))
      | (clear 30 (PG _ (.Name _ _) (RG _ (AF _)));exact (Du (by show List.Nodup [("told" : Str) ,("copy" : Str)] ;decide +kernel) rfl (.inl rfl)))
      | (clear 30 (PG _ (.Name _ _) (RG _ (AF _)));exact (Du (by show List.Nodup [("state" : Str)] ;decide +kernel) rfl (.inl rfl)))
      | (clear 30 (PG _ (.Name _ _) (RG _ (AF _)));exact (Du (by show List.Nodup [("sign" : Str)] ;decide +kernel) rfl (.inl rfl)))
      | (clear 30 (PG _ (.Name _ _) (RG _ (AF _)));exact (Du (by show List.Nodup [("k" : Str) ,("number" : Str) ,("width" : Str)] ;decide +kernel) rfl (.inl rfl)))
      | (clear 30 (PG _ (.Name _ _) (RG _ (AF _)));exact (Du (by show List.Nodup [("k" : Str) ,("left" : Str)] ;decide +kernel) rfl (.inl rfl)))
      | (clear 30 (PG _ (.Name _ _) (RG _ (AF _)));exact (Du (by show List.Nodup [("k" : Str) ,("script" : Str)] ;decide +kernel) rfl (.inl rfl))))
    | (clear 30 (PG _ (.Tuple ..) ..);first
      | refine YK rfl ?_)
    | (clear 30 (PG _ (.Subscript ..) ..);first
      | refine Px ?_ ?_))
  | (clear 30 (PGs ..);first
    | refine RL ?_ ?_
    | exact Uu)
  | (clear 30 (PW ..);first
    | (clear 30 (PW _ (.BoolOp .Or (_ :: _ :: _) _) (RT _ (fOr _ _)));refine YR ?_ ?_)
    | (clear 30 (PW _ (.BoolOp .Or [_] _) (RT _ _));refine WY ?_)
    | (clear 30 (PW _ (.BoolOp .And (_ :: _ :: _) _) (RT _ (FT _ _)));refine WX ?_ ?_)
    | (clear 30 (PW _ (.BoolOp .And [_] _) (RT _ _));refine UF ?_))
  | (clear 30 (PI ..);first
    | (clear 30 (PI _ _ (.Call ..) ..);first
      | (clear 30 (PI _ _ _ (RI _ (C8 _)));refine Ol rfl M.dB ?_)
      | (clear 30 (PI _ _ _ (RI _ (Gm _)));refine Om rfl M.dB ?_))
    | (clear 30 (PI _ (.Tuple ..) ..);first
      | refine Uw rfl M.cK ?_)
    | (clear 30 (PI _ _ _ (RI _ (ES _)));refine WP ?_)
    | (clear 30 (PI _ _ _ (RIG _ (Hb _)));refine Uv ?_))
  | (clear 30 (PIf ..);first
    | exact Ux
    | (clear 30 (PIf _ [_] (RT _ _));refine Uy ?_))
  | (clear 30 (PO ..);first
    | refine UC ?_
    | exact UB)
theorem all_ok (M:Md K mg A fd):∀(n:Nat) (x:Fx),okK (kd x) P w K mg base (2 * n + 2) (A x) (fd x) (ps x) (run n x)
 | 0,x=>Sy
 | n + 1,x=>by
   have ih:=all_ok M n;exact step M ih x
end
abbrev fno (x:Fx)(kV dc pm:Value)(an:Option Addr)(cd ct:Value):FuncData:=PySem.W.fnOf (nm x) (ql x) (Cv (st x)) (A8 (st x)) (Al (st x)) .none kV dc pm an cd ct
structure At (K:PySem.W.Frag)(x:Fx)(f:Addr)(fd:FuncData):Prop where
 a:me x=false->PySem.W.nsIn K mainGlobals (nm x)=some (some (.ref f))
 m:me x=true->∃C,PySem.W.nsIn K mainGlobals (ow x)=some (some (.ref C))/\PySem.W.findIn K (.ref C) (nm x)=some (some (.ref f))/\PySem.W.isFn K (.ref f)=true
 fn:Fun K (nm x) (ql x) (st x) f fd
 bd:Binds K fd (ps x) []
 eq:∃kV dc pm an cd ct,fd=fno x kV dc pm an cd ct
theorem at_mk {K:PySem.W.Frag}{x:Fx}{f:Addr}{od an:Option Addr}{sl:Array (Option Value)}{oc kV dc pm cd ct:Value}(e:me x=false)(a:PySem.W.nsIn K mainGlobals (nm x)=some (some (.ref f)))(l:K.lookup f=some ⟨oc,od,.func (fno x kV dc pm an cd ct),sl⟩)(c:PySem.W.codeIn K cd (ql x)=true)(k:PySem.W.keepIn K (.ref f)=true):∃p:Addr×FuncData,At K x p.1 p.2:=by
 refine ⟨(f,fno x kV dc pm an cd ct),λ_=>a,λz=>(by rw [e] at z;cases z),EL (st:=st x) l c k,(EL (st:=st x) l c k).binds (ps:=ps x) λ_ _ _ _ _ _ us hl=>?_,_,_,_,_,_,_,rfl⟩
 cases x <;> first | (obtain rfl:=ua2 hl;rfl) | (obtain ⟨_,rfl⟩:=us1 hl;rfl) | (obtain ⟨_,_,rfl⟩:=us2 hl;rfl) | (obtain ⟨_,_,_,rfl⟩:=us3 hl;rfl) | (obtain ⟨_,_,_,_,rfl⟩:=us4 hl;rfl) | (obtain ⟨_,_,_,_,_,rfl⟩:=us5 hl;rfl) | (obtain ⟨_,_,_,_,_,_,rfl⟩:=us6 hl;rfl) | (obtain ⟨_,_,_,_,_,_,_,rfl⟩:=us7 hl;rfl)
theorem Wn {K:PySem.W.Frag}{x:Fx}{f C:Addr}{od an:Option Addr}{sl:Array (Option Value)}{oc kV dc pm cd ct:Value}(e:me x=true)(hc:PySem.W.nsIn K mainGlobals (ow x)=some (some (.ref C)))(a:PySem.W.findIn K (.ref C) (nm x)=some (some (.ref f)))(l:K.lookup f=some ⟨oc,od,.func (fno x kV dc pm an cd ct),sl⟩)(c:PySem.W.codeIn K cd (ql x)=true)(k:PySem.W.keepIn K (.ref f)=true)(t:PySem.W.isFn K (.ref f)=true):∃p:Addr×FuncData,At K x p.1 p.2:=by
 refine ⟨(f,fno x kV dc pm an cd ct),λz=>(by rw [e] at z;cases z),λ_=>⟨C,hc,a,t⟩,EL (st:=st x) l c k,(EL (st:=st x) l c k).binds (ps:=ps x) λ_ _ _ _ _ _ us hl=>?_,_,_,_,_,_,_,rfl⟩
 cases x <;> first | (obtain rfl:=ua2 hl;rfl) | (obtain ⟨_,rfl⟩:=us1 hl;rfl) | (obtain ⟨_,_,rfl⟩:=us2 hl;rfl) | (obtain ⟨_,_,_,rfl⟩:=us3 hl;rfl) | (obtain ⟨_,_,_,_,rfl⟩:=us4 hl;rfl) | (obtain ⟨_,_,_,_,_,rfl⟩:=us5 hl;rfl) | (obtain ⟨_,_,_,_,_,_,rfl⟩:=us6 hl;rfl) | (obtain ⟨_,_,_,_,_,_,_,rfl⟩:=us7 hl;rfl)
theorem xm_all {K:PySem.W.Frag}{h:Heap}{mg:Str->Option Value}{P c1 c2 c3 c4 c5 c6 c7:Addr}{f:Addr}{od an:Option Addr}{sl:Array (Option Value)}{oc kV dc pm cd ct:Value}{f2:Addr}{od2 an2:Option Addr}{sl2:Array (Option Value)}{oc2 kV2 dc2 pm2 cd2 ct2:Value}(X:K.In h)(G:h.Ns mainGlobals mg)(p:PySem.W.nsIn K mainGlobals "ParleyError" = some (some (.ref P)))(a1:PySem.W.nsIn K mainGlobals "NoValue" = some (some (.ref c1)))(a2:PySem.W.nsIn K mainGlobals "Short" = some (some (.ref c2)))(a3:PySem.W.nsIn K mainGlobals "Broken" = some (some (.ref c3)))(a4:PySem.W.nsIn K mainGlobals "NoTalk" = some (some (.ref c4)))(a5:PySem.W.nsIn K mainGlobals "NoName" = some (some (.ref c5)))(a6:PySem.W.nsIn K mainGlobals "NoText" = some (some (.ref c6)))(a7:PySem.W.nsIn K mainGlobals "NoRow" = some (some (.ref c7)))(q:O8 K P [c1,c2,c3,c4,c5,c6,c7]=true)(nd:[P,c1,c2,c3,c4,c5,c6,c7].Nodup)(fi:PySem.W.findIn K (.ref c4) "__init__" = some (some (.ref f)))(l:K.lookup f=some ⟨oc,od,.func (PySem.W.fnOf "__init__" "NoTalk.__init__" (Cv (AO (top 6) 0)) (A8 (AO (top 6) 0)) (Al (AO (top 6) 0)) .none kV dc pm an cd ct),sl⟩)(ii:F0 K c4 f=true)(hf:PySem.W.isFn K (.ref f)=true)(hs:PySem.W.findIn K (.ref c4) "__setattr__" = some (some (.builtin "object.__setattr__")))(cc:PySem.W.codeIn K cd "NoTalk.__init__" = true)(k:PySem.W.keepIn K (.ref f)=true)(fi2:PySem.W.findIn K (.ref c3) "__init__" = some (some (.ref f2)))(l2:K.lookup f2=some ⟨oc2,od2,.func (PySem.W.fnOf "__init__" "Broken.__init__" (Cv (AO (top 5) 0)) (A8 (AO (top 5) 0)) (Al (AO (top 5) 0)) .none kV2 dc2 pm2 an2 cd2 ct2),sl2⟩)(ii2:F0 K c3 f2=true)(hf2:PySem.W.isFn K (.ref f2)=true)(hs2:PySem.W.findIn K (.ref c3) "__setattr__" = some (some (.builtin "object.__setattr__")))(cc2:PySem.W.codeIn K cd2 "Broken.__init__" = true)(k2:PySem.W.keepIn K (.ref f2)=true)(n5:Jp K c5=true)(n2:Jp K c2=true):∃(P:Addr) (ca:Str->Addr),XM K mg P ca/\(XF1 K (ca "NoTalk") P "NoTalk.__init__" (AO (top 6) 0)/\XF2 K (ca "Broken") P "Broken.__init__" (AO (top 5) 0))/\∀n∈(["NoName", "Short"]:List Str),XN0 K (ca n):=by
 have x:=ZX X G p a1 a2 a3 a4 a5 a6 a7 q nd;refine ⟨P,_,x,⟨YC (C:=c4) (st:=(AO (top 6) 0)) ⟨x.cl "NoTalk" (by decide),x.kp "NoTalk" (by decide),x.gt "NoTalk" (by decide),x.gc "NoTalk" (by decide),x.na "NoTalk" (by decide),x.nd "NoTalk" (by decide)⟩ ii hf hs l cc k (λ_ _ _ _ _ _ us hl=>by match us,hl with | [_,_],_=>rfl),YD (C:=c3) (st:=(AO (top 5) 0)) ⟨x.cl "Broken" (by decide),x.kp "Broken" (by decide),x.gt "Broken" (by decide),x.gc "Broken" (by decide),x.na "Broken" (by decide),x.nd "Broken" (by decide)⟩ ii2 hf2 hs2 l2 cc2 k2 (λ_ _ _ _ _ _ us hl=>by match us,hl with | [_,_,_],_=>rfl)⟩,?_⟩;intro n hn;simp only [uj5,uh0,or_false] at hn;rcases hn with rfl | rfl
 ·exact Q6 n5
 ·exact Q6 n2
theorem fin_mk {K:PySem.W.Frag}{h:Heap}{mg:Str->Option Value}{fa:Addr}(X:K.In h)(G:h.Ns mainGlobals mg)(hmg:mg "law" = some (.ref fa))(H:∀x:Fx,∃p:Addr×FuncData,At K x p.1 p.2)(cI:PySem.W.nsIn K mainGlobals "ValueError" = some none)(dO:PySem.W.nsIn K mainGlobals "bool" = some none)(dM:PySem.W.nsIn K mainGlobals "dict" = some none)(cK:PySem.W.nsIn K mainGlobals "enumerate" = some none)(eA:PySem.W.nsIn K mainGlobals "int" = some none)(b8:PySem.W.nsIn K mainGlobals "isinstance" = some none)(eB:PySem.W.nsIn K mainGlobals "len" = some none)(dF:PySem.W.nsIn K mainGlobals "list" = some none)(dZ:PySem.W.nsIn K mainGlobals "ord" = some none)(dB:PySem.W.nsIn K mainGlobals "range" = some none)(eC:PySem.W.nsIn K mainGlobals "str" = some none)(dE:PySem.W.nsIn K mainGlobals "tuple" = some none){dR:Tok}(cB:PySem.W.nsIn K mainGlobals "FIRST_SIGN" = some (some (.int 32 dR))){dW:Tok}(cE:PySem.W.nsIn K mainGlobals "LAST_SIGN" = some (some (.int 126 dW))){dI:Tok}(c9:PySem.W.nsIn K mainGlobals "PERCENT_SIGN" = some (some (.int 37 dI))){eM:Tok}(d7:PySem.W.nsIn K mainGlobals "SIGNS" = some (some (.str " !\"#$ &'()*+,-./0123456789:;<=>?@ABCDEFGHIJKLMNOPQRSTUVWXYZ[\\]^_`abcdefghijklmnopqrstuvwxyz{|}~" eM)))(xm:∃(P:Addr) (ca:Str->Addr),XM K mg P ca/\(XF1 K (ca "NoTalk") P "NoTalk.__init__" (AO (top 6) 0)/\XF2 K (ca "Broken") P "Broken.__init__" (AO (top 5) 0))/\∀n∈(["NoName", "Short"]:List Str),XN0 K (ca n)){cS cJ cA:Addr}(eG:PySem.W.nsIn K mainGlobals "Reader" = some none)(eF:PySem.W.nsIn K mainGlobals "Parley" = some none)(dQ:PySem.W.nsIn K mainGlobals "Listener" = some none)(eI:PySem.W.nsIn K mainGlobals "Relay" = some none)(eQ:PySem.W.nsIn K mainGlobals "Desk" = some none)(d5:PySem.W.nsIn K mainGlobals "Hearer" = some (some (.ref cS)))(c8:PySem.W.nsIn K mainGlobals "Side" = some (some (.ref cJ)))(b9:PySem.W.nsIn K mainGlobals "Lasting" = some (some (.ref cA)))(eO:L4 K cJ=true)(dY:L4 K cA=true)(dS:Lr K cA=true)(d9:PySem.W.findIn K (.ref cA) "speak" = PySem.W.findIn K (.ref cJ) "speak")(cZ:PySem.W.findIn K (.ref cA) "listen" = PySem.W.findIn K (.ref cJ) "listen")(cV:PySem.W.findIn K (.ref cA) "waiting" = PySem.W.findIn K (.ref cJ) "waiting")(cW:PySem.W.findIn K (.ref cA) "may_say" = PySem.W.findIn K (.ref cJ) "may_say")(cG:PySem.W.findIn K (.ref cA) "shape_to_say" = PySem.W.findIn K (.ref cJ) "shape_to_say")(cM:PySem.W.findIn K (.ref cA) "has_ended" = PySem.W.findIn K (.ref cJ) "has_ended")(d8:PySem.W.findIn K (.ref cA) "state" = PySem.W.findIn K (.ref cS) "state")(dC:PySem.W.findIn K (.ref cA) "hear" = PySem.W.findIn K (.ref cS) "hear")(cL:PySem.W.findIn K (.ref cA) "unread_of" = PySem.W.findIn K (.ref cS) "unread_of")(eS:Lr K cJ=true)(dG:PySem.W.findIn K (.ref cJ) "state" = PySem.W.findIn K (.ref cS) "state")(dJ:PySem.W.findIn K (.ref cJ) "hear" = PySem.W.findIn K (.ref cS) "hear")(d4:PySem.W.findIn K (.ref cJ) "unread_of" = PySem.W.findIn K (.ref cS) "unread_of")(eE:byB K cS "__init__" = true)(eT:byB K cJ "__init__" = true):∃(A:Fx->Addr) (fd:Fx->FuncData),Md K mg A fd/\A .law_=fa/\∀(s:Shared) (u:Value),BindsTo s (fd .law_) ⟨[u],[]⟩ [("script",u)]:=by
 obtain ⟨F,hF⟩:=Classical.axiomOfChoice H;have fm:∀x,me x=true->∀C,PySem.W.nsIn K mainGlobals (ow x)=some (some (.ref C))->PySem.W.findIn K (.ref C) (nm x)=some (some (.ref (F x).1))/\PySem.W.isFn K (.ref (F x).1)=true:=λx hx C h=>by
  obtain ⟨C,e1,e2,e3⟩:=(hF x).m hx;have e4:=e1.symm.trans h
  cases e4
  exact ⟨e2,e3⟩
 have dU:=fm .Az rfl _ d5;have cO:=fm .AG rfl _ d5;have cT:=fm .Aw rfl _ d5;have cF:=fm .AH rfl _ d5;have d6:=fm .Ay rfl _ c8;have eD:=fm .A7 rfl _ c8;have dX:=fm .A3 rfl _ c8;have cY:=fm .Ax rfl _ c8;have cU:=fm .Au rfl _ c8;have cR:=fm .AY rfl _ c8;have cQ:=fm .AX rfl _ c8;have cD:=fm .AC rfl _ c8;have cH:=fm .AM rfl _ c8;have dA:=fm .AA rfl _ b9;have dL:=fm .AE rfl _ b9;have dH:=fm .AL rfl _ b9;have dD:=fm .AB rfl _ b9;have cX:=fm .Am rfl _ b9;have cm:CM K:=YF λn hn=>by
  simp only [JS,uj5,uh0,or_false] at hn;rcases hn with rfl | rfl | rfl | rfl | rfl | rfl | rfl
  ·exact .inl eG
  ·exact .inr ⟨_,c8,eO⟩
  ·exact .inr ⟨_,b9,dY⟩
  ·exact .inl eF
  ·exact .inl dQ
  ·exact .inl eI
  ·exact .inl eQ
 refine ⟨λx=>(F x).1,λx=>(F x).2,{ fn:=λx=>(hF x).fn,mgs:=λx e=>uk3 X G ((hF x).a e),bd:=λx=>(hF x).bd,cm:=cm,Kv:=⟨_,b9,uk3 X G b9,TU dS dA.1 dA.2,⟨dL.1,dL.2,Fun.kp (hF .AE).fn⟩,⟨dH.1,dH.2,Fun.kp (hF .AL).fn⟩,⟨dD.1,dD.2,Fun.kp (hF .AB).fn⟩,⟨cX.1,cX.2,Fun.kp (hF .Am).fn⟩,⟨d9.trans cY.1,cY.2,Fun.kp (hF .Ax).fn⟩,⟨cZ.trans cU.1,cU.2,Fun.kp (hF .Au).fn⟩,⟨cV.trans cR.1,cR.2,Fun.kp (hF .AY).fn⟩,⟨cW.trans cQ.1,cQ.2,Fun.kp (hF .AX).fn⟩,⟨cG.trans cD.1,cD.2,Fun.kp (hF .AC).fn⟩,⟨cM.trans cH.1,cH.2,Fun.kp (hF .AM).fn⟩,⟨d8.trans cO.1,cO.2,Fun.kp (hF .AG).fn⟩,⟨dC.trans cT.1,cT.2,Fun.kp (hF .Aw).fn⟩,⟨cL.trans cF.1,cF.2,Fun.kp (hF .AH).fn⟩⟩,Ph:=⟨_,c8,uk3 X G c8,TU eS d6.1 d6.2,⟨eD.1,eD.2,Fun.kp (hF .A7).fn⟩,⟨dX.1,dX.2,Fun.kp (hF .A3).fn⟩,⟨cY.1,cY.2,Fun.kp (hF .Ax).fn⟩,⟨cU.1,cU.2,Fun.kp (hF .Au).fn⟩,⟨cR.1,cR.2,Fun.kp (hF .AY).fn⟩,⟨cQ.1,cQ.2,Fun.kp (hF .AX).fn⟩,⟨cD.1,cD.2,Fun.kp (hF .AC).fn⟩,⟨cH.1,cH.2,Fun.kp (hF .AM).fn⟩,⟨dG.trans cO.1,cO.2,Fun.kp (hF .AG).fn⟩,⟨dJ.trans cT.1,cT.2,Fun.kp (hF .Aw).fn⟩,⟨d4.trans cF.1,cF.2,Fun.kp (hF .AH).fn⟩⟩,eR:=⟨_,uk3 X G d5,TH eE dU.1 (Fun.kp (hF .Az).fn)⟩,fG:=⟨_,uk3 X G c8,TH eT d6.1 (Fun.kp (hF .Ay).fn)⟩,xm:=xm,cI:=ue9 X G cI,dO:=ue9 X G dO,dM:=ue9 X G dM,cK:=ue9 X G cK,eA:=ue9 X G eA,b8:=ue9 X G b8,eB:=ue9 X G eB,dF:=ue9 X G dF,dZ:=ue9 X G dZ,dB:=ue9 X G dB,eC:=ue9 X G eC,dE:=ue9 X G dE,cB:=⟨dR,uk3 X G cB⟩,cE:=⟨dW,uk3 X G cE⟩,c9:=⟨dI,uk3 X G c9⟩,d7:=⟨eM,uk3 X G d7⟩ },?_,λs u=>?_⟩
 ·have e:=hmg.symm.trans (uk3 X G ((hF .law_).a rfl))
  cases e
  rfl
 ·obtain ⟨_,_,_,_,_,_,e⟩:=(hF .law_).eq;show BindsTo s (F .law_).2 _ _;rw [e];exact .of_eq rfl
theorem walk {l:PySem.W.OpenLaw}{q:Program}{loose:List Str}{XP:(Str->Option Value)->Heap->Prop}{YP:World->Heap->Prop}{d:DefRec}{K:Params->PySem.W.Frag}(m:Nat)(hm:Room (2 * m + 2) callerA)(hn:l.most=some 63)(hdf:d.params.defaults=[])
 (hY:∀(w:World) (h:Heap),YP w h->(K w.params).In h) (lt:∀ns:List Int,ns.length<=63->∃S',run m .law_ [.scr ns] []=some (.bl true,S'))
 (F:∀(w:World) (mg:Str->Option Value) (fa:Addr) (h:Heap),(K w.params).In h->h.Ns mainGlobals mg->mg d.name=some (.ref fa)->
   ∃(A:Fx->Addr) (fd:Fx->FuncData),Md (K w.params) mg A fd/\A .law_=fa/\∀(s:Shared) (u:Value),BindsTo s (fd .law_) ⟨[u],[]⟩ [("script",u)]) :
 PySem.W.WalkO q loose XP YP l.row.toRowW d [] (λf vs=>PySem.call f vs):=
 L2.V6 (n:=63) (k:=2 * m + 2) (x:="script") (CX:=λ_=>CX0) (sp:=λw=>spF (K w.params) (run m .law_)) hn (by decide) hdf hm hY
  (λw mg fa h KX G hmg=>by obtain ⟨A,fd,M,e,b⟩:=F w mg fa h KX G hmg;subst e;exact ⟨fd .law_,b,λbase _ _=>all_ok M m .law_⟩)
  (λw H a ns hl hO hS=>by obtain ⟨S',e⟩:=lt ns hl;exact Qa hO hS e) λ_ _ _ _ _ z=>z
theorem MO (k:Nat):IP (run (k + 1) .CI):=Ot
theorem Sw (k:Nat):Ra (run (k + 1) .Ck):=YY
theorem Fb (k:Nat):Fc (run (k + 2) .A1):=Tt (Sw k)
theorem Tg (k:Nat):N5 (run (k + 2) .Cj):=M5 (MO k)
theorem Iu:∀(n k:Nat),2 * n + 3<=k->Gf (run k .Ef) n
 | 0,k,_=>λs hs=>absurd s.depth_pos (by lia)
 | n + 1,k,h=>by
   obtain ⟨j,rfl⟩:∃j,k=j + 4:=Nat.exists_eq_add_of_le' (by lia);have ih:=Iu n (j + 2) (by lia);exact WQ (Le ih (Fb j)) (M4 ih) (M3 ih) (Tg (j + 1)) (Fb (j + 1))
theorem Mm (k:Nat):GR (run (k + 1) .CJ):=UQ
theorem Sx (k:Nat):LD (run (k + 2) .BD):=UX (Mm k)
theorem NY (k:Nat):IT (run (k + 1) .Bz):=Ts
theorem Mg:∀(n k:Nat),n + 3<=k->IM (run k .Bj) n
 | 0,k,_=>λs hs=>absurd s.depth_pos (by lia)
 | n + 1,k,h=>by
   obtain ⟨j,rfl⟩:∃j,k=j + 3:=Nat.exists_eq_add_of_le' (by lia);exact Uj (Mg n (j + 2) (by lia)) (NY (j + 1)) (Sx j)
theorem LN (k:Nat):BXw (run (k + 1) .Cn):=Wt
theorem Yn (k:Nat):UXw (run (k + 2) .Bw):=Yo (LN k)
theorem Yf (k:Nat):SXw (run (k + 2) .Dq):=Yg (MO k) (LN k)
theorem ME:∀(n k:Nat),2 * n + 4<=k->GV (run k .Bo) n
 | 0,k,_=>λs hs=>absurd s.depth_pos (by lia)
 | n + 1,k,h=>by
   obtain ⟨j,rfl⟩:∃j,k=j + 5:=Nat.exists_eq_add_of_le' (by lia);exact OP rfl rfl rfl rfl rfl (Yn (j + 1)) (Yf (j + 1)) (Mm (j + 2)) (LN (j + 2)) (NY (j + 2)) (ME n (j + 3) (by lia))
theorem US (k:Nat):Q9 (run (k + 11) .BE):=UR (ME 3 (k + 10) (by lia))
theorem OQ (k:Nat):JH (run (k + 12) .Dp):=Na (US k)
theorem R5 (k:Nat):N0 (run (k + 13) .Aw):=R0 (OQ k)
theorem NG (k:Nat):Lg (run (k + 1) .BN):=Xx
theorem Jo (k:Nat):HA (run (k + 14) .Au):=Ox (NG (k + 12)) (R5 k)
theorem KL (k:Nat):Hz (run (k + 1) .Dw):=P6
theorem PU (k:Nat):NZ (run (k + 2) .BC):=RW (KL k)
theorem PZ (k:Nat):LA (run (k + 3) .Az):=PY (PU k)
theorem KW (k:Nat):IN (run (k + 4) .Ay):=QK (NG (k + 2)) (PZ k)
theorem Qc (k:Nat):LB (run (k + 5) .AA):=Qb (KW k)
theorem Q5 (k:Nat):JI (run (k + 2) .CD):=Tu (KL k)
theorem KQ (k:Nat):Gg (run (k + 3) .BQ):=Kf (Q5 k)
theorem QF (k:Nat):JG (run (k + 10) .BO):=OG (Iu 3 (k + 9) (by lia)) (KQ (k + 6))
theorem QE (k:Nat):JF (run (k + 10) .BO):=OF (Iu 3 (k + 9) (by lia)) (KQ (k + 6))
theorem Sq (k:Nat):LC (run (k + 1) .B1):=UW
theorem Sn (k:Nat):N2 (run (k + 7) .Bt):=Sm (Mg 3 (k + 6) (by lia))
theorem KY (k:Nat):IQ (run (k + 11) .Ax):=QL (Sn (k + 3)) (Sq (k + 9)) (QF k)
theorem OV (k:Nat):LH (run (k + 11) .Ax):=QM (QE k)
theorem Ug (k:Nat):Q7 (run (k + 3) .Am):=Ue (Fb k)
theorem Ri (k:Nat):Q8 (run (k + 3) .Am):=Uf (Fb k)
theorem KU:∀(d k:Nat),d + 1<=k->FW (run k .BK) d
 | 0,k,h=>by
   obtain ⟨j,rfl⟩:∃j,k=j + 1:=Nat.exists_eq_add_of_le' (by lia);exact Ta
 | d + 1,k,h=>by
   obtain ⟨j,rfl⟩:∃j,k=j + 1:=Nat.exists_eq_add_of_le' (by lia);exact Tb (KU d j (by lia))
theorem NV:∀(n k:Nat),n<=k->LI (run k .BL) n
 | 0,k,_=>Q0
 | n + 1,k,h=>by
   obtain ⟨j,rfl⟩:∃j,k=j + 1:=Nat.exists_eq_add_of_le' (by lia);exact VU (NV n j (by lia))
theorem Nk:∀(n k:Nat),n + 1<=k->Lz (run k .Bq) n
 | 0,k,h=>by
   obtain ⟨j,rfl⟩:∃j,k=j + 1:=Nat.exists_eq_add_of_le' (by lia);exact Nj (.inl rfl)
 | n + 1,k,h=>by
   obtain ⟨j,rfl⟩:∃j,k=j + 1:=Nat.exists_eq_add_of_le' (by lia);exact Nj (.inr (Nk n j (by lia)))
theorem W0:GrC (run 99 .BB):=aj (az (KU 2 97 (by decide)) Xh)
theorem law_true (ns:List Int)(h:ns.length<=63):∃S',run 100 .law_ [.scr ns] []=some (.bl true,S'):=by
 obtain ⟨r,S',e,p⟩:=YX (Th (Ug 95) (Vm (Ri 94))) (QU (Jo 84)) (Nk 3 99 (by decide)) (SU (KY 87)) (NV 3 99 (by decide)) (QT (Jo 84)) (SV (KY 87)) (Su (Vs (OV 86))) (KW 95) (Qc 94) Wu W0 (ns:=ns);subst p;exact ⟨S',e⟩
end K79
namespace PySem.W.Fast
def tw10060558517137469605:=0
def tw10080055935908549600:=0
def tw10232158066162938922:=0
def tw10236794347387907369:=0
def tw1025859754002650420:=0
def tw10268006147849402500:=0
def tw10360594152247701052:=0
def tw10471136394065463192:=0
def tw10530424523482084154:=0
def tw10537897569632850953:=0
def tw10549748088928918642:=0
def tw10590271179119528254:=0
def tw10629648257817702947:=0
def tw1064763603391453183:=0
def tw10696012679971177663:=0
def tw10715892769008298181:=0
def tw10724616121649949111:=0
def tw10741236479886847275:=0
def tw1074442849974933771:=0
def tw10767231158476758467:=0
def tw10769032717497589312:=0
def tw10770142757045261298:=0
def tw10777615099673215279:=0
def tw10783786280302060030:=0
def tw10805099334563901844:=0
def tw10878094295715440217:=0
def tw10885776882299914397:=0
def tw10894580588956564455:=0
def tw10999564735147791851:=0
def tw11002725183219083453:=0
def tw11029564823371738839:=0
def tw11036753996680407890:=0
def tw11086323131725955963:=0
def tw11100871218624143765:=0
def tw11122133294529878210:=0
def tw11133906150202007129:=0
def tw11148425524811295167:=0
def tw11192000141628789094:=0
def tw112145149497536203:=0
def tw11271380665293369381:=0
def tw11271836572567023979:=0
def tw11275673913459814451:=0
def tw11345228141705034782:=0
def tw11369752194462302462:=0
def tw11395450020229904680:=0
def tw11417447139940470768:=0
def tw11433630387135659335:=0
def tw11439928471758647059:=0
def tw11450063131830366527:=0
def tw11459042066787074539:=0
def tw11517355320585361825:=0
def tw11641826550444885299:=0
def tw1164586763104460000:=0
def tw11678557190142891501:=0
def tw11700255015165458290:=0
def tw11729006772391430977:=0
def tw11750437043859181348:=0
def tw11759022811427297011:=0
def tw11761463176588879969:=0
def tw1179223840524647123:=0
def tw11796354229591162448:=0
def tw11804559334770768991:=0
def tw11807178104469356504:=0
def tw11807426867042160948:=0
def tw1181804166429424062:=0
def tw11819341784729244405:=0
def tw11837035030620798065:=0
def tw11845103439571950559:=0
def tw11860044715589834081:=0
def tw11926387564745510222:=0
def tw12022817458930995384:=0
def tw12159983828842547092:=0
def tw1221997318040467944:=0
def tw1224132657876337835:=0
def tw12242012291341305178:=0
def tw12284149298933581794:=0
def tw12382722809212721368:=0
def tw12386694851461835201:=0
def tw12403184653959677244:=0
def tw12409659525395862138:=0
def tw12470278634671575130:=0
def tw12499271995995282733:=0
def tw12602787660304038305:=0
def tw1262605304828293933:=0
def tw12635584416192947099:=0
def tw12687628135356171398:=0
def tw12713003416145345278:=0
def tw12784521637296000085:=0
def tw12807484801397167720:=0
def tw12827964622489066321:=0
def tw12930382223533850306:=0
def tw13009399131132105800:=0
def tw13032058898916207251:=0
def tw13075949203380549235:=0
def tw13087851338545740964:=0
def tw13099432220963750583:=0
def tw13100175391636763723:=0
def tw13133164027234249778:=0
def tw13165173554799511542:=0
def tw1318917357172467310:=0
def tw13190169340098060369:=0
def tw13284283516502740778:=0
def tw1331024625678254607:=0
def tw13320692313913367033:=0
def tw13329695929527505860:=0
def tw13351039645581482183:=0
def tw13374734939035584648:=0
def tw13432349411901435289:=0
def tw13475907119338968717:=0
def tw13523713091621194124:=0
def tw13533577107161344170:=0
def tw13542161468188196097:=0
def tw13551582937296369470:=0
def tw13559560028279097698:=0
def tw13639529274762770413:=0
def tw13650665878626676853:=0
def tw13691187511267170157:=0
def tw13704929408956647802:=0
def tw13758409751989410773:=0
def tw13774848000808585550:=0
def tw13785810275077765474:=0
def tw13940872940744642212:=0
def tw13950263709433265320:=0
def tw13953211071117038288:=0
def tw13959485941844385432:=0
def tw13963544019232701358:=0
def tw1397080831920262640:=0
def tw13975291361965184138:=0
def tw13977562536333611655:=0
def tw13997124226314520496:=0
def tw14010763667049240168:=0
def tw14055502677256497571:=0
def tw14081909360441786499:=0
def tw14141295253867418419:=0
def tw14207321629376266258:=0
def tw14260854019725337303:=0
def tw1426860367431720984:=0
def tw14308719005782862549:=0
def tw14394597339063367207:=0
def tw14402678164736722700:=0
def tw14430659770801375228:=0
def tw14516161951484183252:=0
def tw14566911065676788390:=0
def tw14584346894581651118:=0
def tw14626039469222879217:=0
def tw14641217118132388120:=0
def tw14684708996809097412:=0
def tw14698653553057463687:=0
def tw147353378236641829:=0
def tw14775016516324261326:=0
def tw14795796691965927806:=0
def tw14926254402623766043:=0
def tw14943771700380419558:=0
def tw14978294317062922370:=0
def tw14988074558629783039:=0
def tw14994128092526859356:=0
def tw15027703636154746617:=0
def tw15132606789977430405:=0
def tw15169363016917480140:=0
def tw1518631399497047145:=0
def tw15224945246991591651:=0
def tw15225073599726804800:=0
def tw15270141425914659224:=0
def tw15297014261533548445:=0
def tw15326707050426915620:=0
def tw15331002188893096472:=0
def tw15334420363368181446:=0
def tw15342414580086680403:=0
def tw15345094151426430917:=0
def tw15366389708929094217:=0
def tw1537061980985167117:=0
def tw15401139954118688918:=0
def tw15414359831482662874:=0
def tw15415680292672230617:=0
def tw15418857036793873243:=0
def tw15437183210713119245:=0
def tw15441289998777488637:=0
def tw15447649456561465320:=0
def tw15463113877602706960:=0
def tw15469131077843602034:=0
def tw15478212813646915140:=0
def tw1547823852772816579:=0
def tw15491285454987673499:=0
def tw15512224886471526515:=0
def tw15599725123272913865:=0
def tw15617649069923829659:=0
def tw15644702316949936464:=0
def tw15666873556992359185:=0
def tw1572587310182284290:=0
def tw15782212494859941826:=0
def tw15815281577280447851:=0
def tw15844895839232448252:=0
def tw15884078727819667689:=0
def tw15925905225659008594:=0
def tw15995802923679282160:=0
def tw16055250990546154917:=0
def tw160923577172335068:=0
def tw16104156617920059956:=0
def tw16122243041771407830:=0
def tw16128822808192117887:=0
def tw16146060403164140014:=0
def tw1617850890790521415:=0
def tw16215643319022387087:=0
def tw16217198535022436092:=0
def tw16230112491677427666:=0
def tw16355937042149812366:=0
def tw1637722592842871193:=0
def tw16426670948279207638:=0
def tw16493152379793877098:=0
def tw16500203071444079917:=0
def tw16525167659324517396:=0
def tw16547695967962195600:=0
def tw16570937083143354213:=0
def tw16577343348220988987:=0
def tw1662335831894208164:=0
def tw1663788930818973516:=0
def tw16653941370531344957:=0
def tw16710215343857414843:=0
def tw16739031086576169049:=0
def tw16745477474434901313:=0
def tw16747320467222917334:=0
def tw16756306281202700017:=0
def tw16758857301210623559:=0
def tw16791634477790440123:=0
def tw16803413207812980380:=0
def tw16812162437215132757:=0
def tw1683060307598832915:=0
def tw16859119738704609094:=0
def tw16860093939897867561:=0
def tw1688444816969094981:=0
def tw16906743291007674064:=0
def tw16951877726300917501:=0
def tw16964529882276759989:=0
def tw16967019926514675953:=0
def tw16995162738601506501:=0
def tw17054025555049023686:=0
def tw17057503208328504431:=0
def tw17107022522978601852:=0
def tw17128595316059323129:=0
def tw17161528648979103130:=0
def tw17162002216716306821:=0
def tw17176277977409918105:=0
def tw17256064420277588731:=0
def tw17289494330568577368:=0
def tw1729404559854950301:=0
def tw17322750047747501699:=0
def tw1735948001884882446:=0
def tw17417948695620563666:=0
def tw17488360679732531182:=0
def tw1752314684152742178:=0
def tw17554492650127328702:=0
def tw17616160552733886551:=0
def tw17628800620993484251:=0
def tw1765912423053692761:=0
def tw17659634753457175423:=0
def tw17685949501721358355:=0
def tw17751981553315050897:=0
def tw17806058746079900159:=0
def tw1786111794805489101:=0
def tw17917096191796380451:=0
def tw17936345022943347910:=0
def tw17979482441962705507:=0
def tw1799523774471685417:=0
def tw17995965487663378418:=0
def tw18002589918492561031:=0
def tw18016761380575666071:=0
def tw18026562726952905999:=0
def tw18044713913942167928:=0
def tw18081419485212080292:=0
def tw18093935976285269091:=0
def tw18119688829592395398:=0
def tw18164067508290586502:=0
def tw18165175893777653388:=0
def tw18213163019574489450:=0
def tw18249108930976111742:=0
def tw18251832507434677116:=0
def tw18312144757533608620:=0
def tw18314391629119952814:=0
def tw1833596751973797780:=0
def tw1833798567978090358:=0
def tw18354487812056489099:=0
def tw18374766499006017087:=0
def tw18406570266108903948:=0
def tw18444312367442265672:=0
def tw1859153738647554509:=0
def tw1894882728288765367:=0
def tw1941471750167603600:=0
def tw2016442402771082502:=0
def tw2018302138596725979:=0
def tw2067833168881436002:=0
def tw2124561939983309123:=0
def tw2203297535629150246:=0
def tw224257163016524176:=0
def tw2262701361505104885:=0
def tw2268967412229638454:=0
def tw2283675028859305246:=0
def tw2330624517235509125:=0
def tw2349257727047848675:=0
def tw2379099204296585086:=0
def tw2405678270410096471:=0
def tw2480560460216491792:=0
def tw2488283548122952904:=0
def tw2509398619303247724:=0
def tw2527901056326918647:=0
def tw2557215849522080544:=0
def tw2611862079155457458:=0
def tw2629715388453407294:=0
def tw2645322434171667346:=0
def tw2673230681570262897:=0
def tw2676914787782275083:=0
def tw2716864407969991092:=0
def tw273832945862896014:=0
def tw2760763909399210815:=0
def tw2782143191694544880:=0
def tw2820112584249894962:=0
def tw2863225461510117613:=0
def tw2865775197890379265:=0
def tw287071064704949670:=0
def tw2883539370136289365:=0
def tw2909791614851827491:=0
def tw2911710610828317558:=0
def tw2918407471800957169:=0
def tw2926385403071122192:=0
def tw2927635807184991086:=0
def tw2951893903821788443:=0
def tw3001504757635504298:=0
def tw3002301682451536215:=0
def tw3023846595955691169:=0
def tw3029704093968595226:=0
def tw3032443516365406986:=0
def tw3040245236066837216:=0
def tw3040947773218562020:=0
def tw3061271243618019876:=0
def tw308352285263279981:=0
def tw319385578256946929:=0
def tw3203450745434428723:=0
def tw320480746041346468:=0
def tw3209697974071648156:=0
def tw3220848558956698756:=0
def tw3221542448675061222:=0
def tw3253783433025949785:=0
def tw326339735668875945:=0
def tw3263617337528936135:=0
def tw3293377248814476615:=0
def tw3309180877939146973:=0
def tw3312275797957418353:=0
def tw3360385811273315077:=0
def tw3364731794342663604:=0
def tw3402228992918894176:=0
def tw3489062120666522670:=0
def tw3501011371335942466:=0
def tw3542840178623948422:=0
def tw3574066342980759481:=0
def tw3587517486571071889:=0
def tw3613950306335644815:=0
def tw3621275527513891988:=0
def tw3778240758413305991:=0
def tw3795558362917693395:=0
def tw3810409023014619950:=0
def tw3853711976193516425:=0
def tw3857332214851278776:=0
def tw3861810102873565072:=0
def tw3871230621230079907:=0
def tw3895429528772025568:=0
def tw3941417482546732214:=0
def tw3942784439360701209:=0
def tw3956661688430683351:=0
def tw404883723990672552:=0
def tw4076168591398446912:=0
def tw4090578368097313243:=0
def tw4122826117091107040:=0
def tw4139923629678477956:=0
def tw4194369960652158851:=0
def tw4223840889658857211:=0
def tw4264434963168211350:=0
def tw4264646014047816472:=0
def tw4338407845798323134:=0
def tw4379110680019324119:=0
def tw4394725158798609168:=0
def tw4469105048612577612:=0
def tw4477688450246879076:=0
def tw4489507200771098752:=0
def tw4506207175563793573:=0
def tw4507058518299260069:=0
def tw4530116616974486553:=0
def tw4548944389694001701:=0
def tw4642868273628532210:=0
def tw4676162357433786637:=0
def tw4678226994740052540:=0
def tw4681868636558831807:=0
def tw4721495838303744304:=0
def tw4721796997341055658:=0
def tw4788608588667387784:=0
def tw4796542861266070353:=0
def tw4862289645893555545:=0
def tw4934256934582736059:=0
def tw494284796761028437:=0
def tw4959077035214760124:=0
def tw4982033542422975205:=0
def tw4995256645477518051:=0
def tw5037011529953831450:=0
def tw5046920009973136922:=0
def tw5086145557123956914:=0
def tw513166101302575332:=0
def tw5183665553493716521:=0
def tw5203344359104358444:=0
def tw5219583230214561391:=0
def tw5229064337340911549:=0
def tw5242248315353677493:=0
def tw5271737054724466033:=0
def tw5282959503516637156:=0
def tw5286782401837389599:=0
def tw5291469258654224122:=0
def tw5325196226686641023:=0
def tw5399444634685085320:=0
def tw5470495975396695844:=0
def tw5475310844371382786:=0
def tw5550436642567358258:=0
def tw5572563332909666552:=0
def tw5602106338658917545:=0
def tw5602372642373019551:=0
def tw564370246159615063:=0
def tw5647353963940968472:=0
def tw567130937716119282:=0
def tw5707430792955641632:=0
def tw5729617340555323532:=0
def tw5804910454574864455:=0
def tw5813490160415151593:=0
def tw5823745034352002452:=0
def tw5834212186773385317:=0
def tw5920500713265740061:=0
def tw5953445154956691735:=0
def tw5977496965863375204:=0
def tw6047034418115803134:=0
def tw6050983849075742246:=0
def tw6056656220744381805:=0
def tw6084897838491969568:=0
def tw6135854700170362755:=0
def tw6178759689802863763:=0
def tw6181318063790262421:=0
def tw6225785385871652677:=0
def tw6228199637153178421:=0
def tw6304856070885581549:=0
def tw6319266329146811077:=0
def tw6452474434616893905:=0
def tw6452641619735337200:=0
def tw6528964319539576164:=0
def tw6641135024211774994:=0
def tw6728090414808430128:=0
def tw6747585577686274351:=0
def tw6754259748257056149:=0
def tw680034558164519991:=0
def tw6821388150182958045:=0
def tw6889523018080488674:=0
def tw6924355239785208953:=0
def tw6927938936239291342:=0
def tw6999362987201801998:=0
def tw7007616761253547785:=0
def tw7050949455136144311:=0
def tw7081256038041798987:=0
def tw7084077293540298571:=0
def tw709080434119896135:=0
def tw709724540122973061:=0
def tw7100512524189759578:=0
def tw7137430877240142325:=0
def tw7177916541264285729:=0
def tw7193521752952029770:=0
def tw7209292579656483878:=0
def tw721555675622161254:=0
def tw7230066302939456857:=0
def tw7239740447929617631:=0
def tw7247005730945031830:=0
def tw7270801389770137976:=0
def tw730627284556286696:=0
def tw7340590109852695029:=0
def tw7368622870431563457:=0
def tw7458595413939483344:=0
def tw747138929676065424:=0
def tw7477087318269460453:=0
def tw7500980751575201009:=0
def tw750480704605081904:=0
def tw7579360115683765513:=0
def tw7595267862142489232:=0
def tw761710023145392159:=0
def tw7657153796728384790:=0
def tw7812459927178038713:=0
def tw7877179690681985196:=0
def tw7987775566479374245:=0
def tw7998207359900191353:=0
def tw8000892779956168209:=0
def tw8015220359305184876:=0
def tw8055273963596565704:=0
def tw8132078344302470871:=0
def tw8155377218690364868:=0
def tw816969027105540951:=0
def tw8195025673893366021:=0
def tw8226405748971926728:=0
def tw8244330032603384905:=0
def tw8248702745920012299:=0
def tw8262053992458091710:=0
def tw8289429469040004597:=0
def tw8310165083933417570:=0
def tw8312317821132648820:=0
def tw8380734067832257639:=0
def tw8381411394596994944:=0
def tw8396019792576661627:=0
def tw8398693493428620686:=0
def tw8499746238237720912:=0
def tw8531590323656051084:=0
def tw8560163201487264632:=0
def tw858037956747700936:=0
def tw8586585056665724810:=0
def tw8629374200351397334:=0
def tw8767626896667801377:=0
def tw8783645654934336385:=0
def tw8789468638949507982:=0
def tw8808904687516029882:=0
def tw8819019964237026515:=0
def tw882335355353279920:=0
def tw882549638885936643:=0
def tw8831300217074373528:=0
def tw8848533620418498220:=0
def tw8939866467431735460:=0
def tw8945482107051232923:=0
def tw8963956217580248673:=0
def tw896422880672082286:=0
def tw8982693910631555771:=0
def tw9014264135335220126:=0
def tw9024716507199667933:=0
def tw9084714803882951817:=0
def tw9090621281300714951:=0
def tw9152644562676642744:=0
def tw923837173758687620:=0
def tw923837813228754061:=0
def tw9259811323583568512:=0
def tw9271427446154139628:=0
def tw9283211923739770642:=0
def tw9317856613247913897:=0
def tw9370120079947278440:=0
def tw9396315780027022367:=0
def tw9409234044136646630:=0
def tw9413156632111492350:=0
def tw9414971434004284453:=0
def tw9475676923363418271:=0
def tw9643750762614767888:=0
def tw9669257423625889934:=0
def tw9676997128057939049:=0
def tw9695315640217007064:=0
def tw9788857447444151705:=0
def tw9836647448844348653:=0
def tw9844482709482544106:=0
def tw9885944373490758921:=0
def tw9927559921648340537:=0
def tw9934763011246559206:=0
def tw9935163003849349310:=0
def tw9937404664569795128:=0
def tw9951597572914737343:=0
def tw9997937320066807919:=0
end PySem.W.Fast
open PySem PySem.W PyProof.Rows
set_option maxRecDepth 100000 in
set_option maxHeartbeats 0 in
theorem PySem.Challenge.cw_wireparley_k79_said_behind_holds : PySem.Challenge.rw_wireparley_k79_said_behind.Holds := by
 w_on;o_law;k_head;(case hw=>w_witness2)
 k_fill
 refine K79.walk (l:=PySem.Challenge.rw_wireparley_k79_said_behind) 100 ⟨rfl,by decide,by decide⟩ rfl rfl (λw h Y=>PySem.W.kIn_of Y) K79.law_true ?F
 case F=>
  intro w mg fa h KX G hmg;refine' K79.fin_mk KX G hmg ?H ?cI ?dO ?dM ?cK ?eA ?b8 ?eB ?dF ?dZ ?dB ?eC ?dE ?cB ?cE ?c9 ?d7 ?xm ?eG ?eF ?dQ ?eI ?eQ ?d5 ?c8 ?b9 ?eO ?dY ?dS ?d9 ?cZ ?cV ?cW ?cG ?cM ?d8 ?dC ?cL ?eS ?dG ?dJ ?d4 ?eE ?eT
  (case H=>intro x;cases x <;> first | (refine' K79.at_mk rfl ?a ?l ?c ?k;(case a=>k_is);(case l=>k_is);(case c=>k_is);(case k=>k_is)) | (refine' K79.Wn rfl ?h ?a ?l ?c ?k ?t;(case h=>k_is);(case a=>k_is);(case l=>k_is);(case c=>k_is);(case k=>k_is);(case t=>k_is)))
  (case eG=>k_is)
  (case eF=>k_is)
  (case dQ=>k_is)
  (case eI=>k_is)
  (case eQ=>k_is)
  (case d5=>k_is)
  (case c8=>k_is)
  (case b9=>k_is)
  (case eO=>kernel_rfl)
  (case dY=>kernel_rfl)
  (case dS=>kernel_rfl)
  (case d9=>kernel_rfl)
  (case cZ=>kernel_rfl)
  (case cV=>kernel_rfl)
  (case cW=>kernel_rfl)
  (case cG=>kernel_rfl)
  (case cM=>kernel_rfl)
  (case d8=>kernel_rfl)
  (case dC=>kernel_rfl)
  (case cL=>kernel_rfl)
  (case eS=>kernel_rfl)
  (case dG=>kernel_rfl)
  (case dJ=>kernel_rfl)
  (case d4=>kernel_rfl)
  (case eE=>kernel_rfl)
  (case eT=>kernel_rfl)
  (case cI=>k_is)
  (case dO=>k_is)
  (case dM=>k_is)
  (case cK=>k_is)
  (case eA=>k_is)
  (case b8=>k_is)
  (case eB=>k_is)
  (case dF=>k_is)
  (case dZ=>k_is)
  (case dB=>k_is)
  (case eC=>k_is)
  (case dE=>k_is)
  (case cB=>k_is)
  (case cE=>k_is)
  (case c9=>k_is)
  (case d7=>k_is)
  (case xm=>refine' K79.xm_all KX G ?x_p ?x_a1 ?x_a2 ?x_a3 ?x_a4 ?x_a5 ?x_a6 ?x_a7 ?x_q ?x_nd ?x_fi ?x_l ?x_ii ?x_hf ?x_hs ?x_cc ?x_k ?y_fi ?y_l ?y_ii ?y_hf ?y_hs ?y_cc ?y_k ?x_n5 ?x_n2;(case x_p=>k_is);(case x_a1=>k_is);(case x_a2=>k_is);(case x_a3=>k_is);(case x_a4=>k_is);(case x_a5=>k_is);(case x_a6=>k_is);(case x_a7=>k_is);(case x_q=>kernel_rfl);(case x_nd=>decide);(case x_fi=>k_is);(case x_l=>k_is);(case x_ii=>kernel_rfl);(case x_hf=>k_is);(case x_hs=>k_is);(case x_cc=>k_is);(case x_k=>k_is);(case y_fi=>k_is);(case y_l=>k_is);(case y_ii=>kernel_rfl);(case y_hf=>k_is);(case y_hs=>k_is);(case y_cc=>k_is);(case y_k=>k_is);(case x_n5=>kernel_rfl);(case x_n2=>kernel_rfl))
