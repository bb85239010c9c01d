import PyProof.Rows.All
import Wide.All
import OpenK.AllK
import Wide.FinOn
import Lean
import PyProof.EqAt
import PyProof.EqKinds
import PyProof.TupleCall
import PyProof.NeKinds
import PyProof.ListMulRoad
import PyProof.MaxThree
import PyProof.Rows.StrJoinMade
import PyProof.ListStr
import PyProof.Rows.MinMaxN
import PyProof.Rows.Range3
import PyProof.ListRange
import PyProof.Rows.SetFrom
import PyProof.Rows.StrCase
import PyProof.SumAny
import PyProof.AutoIntG2
import PyProof.AutoListH
import PyProof.EnumStmt
import PyProof.EnumFor
import PyProof.EnumMake
import PyProof.Rows.EnumRows
import PyProof.ConsumeS
import PyProof.Rows.SortWalk
import KE.KDictSum
import PyProof.ZipIter
import KE.KEqDict
import PyProof.ExcClass2
import PyProof.RaisesMany
import PyProof.ExcBaseAll.ValueError
import PyProof.RulesDel
import PyProof.RulesAs
import PyProof.ExcArgs
import KE.KDictOf
import PyProof.AttrMissHeap
import KE.KMinKey
import PyProof.Rows.CallKwBuiltin
import PyProof.RulesTry
import PySem.Challenge.RW_wireparley_k69_whole_beside_and_back
noncomputable section
abbrev fc:=PySem.Value
abbrev ff:=PySem.Addr
abbrev fg:=PySem.Shared
abbrev fh:=PySem.Program
abbrev fj:=PySem.World
abbrev fk:=PySem.FuncData
def fq:=@PySem.Calls.Name_function_global
def ft:=@PySem.F.slot_list_append
def fu:=@PySem.F.type_list_append
def fv:=@PySem.F.slot_list_extend
def fx:=@PySem.F.type_list_extend
def fy:=@Nat.exists_eq_add_of_le'
def fz:=@List.set_eq_of_length_le
def fS:=@PySem.wpAny_callSpecial?_slot
def fT:=@List.filter_cons_of_pos
def fU:=@List.filter_cons_of_neg
def fV:=@PySem.W.cellsFrom_some
def fW:=@List.range_succ_eq_map
def fX:=@Int.le_ediv_iff_mul_le
def fY:=@List.drop_eq_nil_of_le
def fZ:=@PySem.Obj.isFreed_of_fields
def gb:=@beq_eq_false_iff_ne
def ge:=@PySem.mem_of_lookup
def gf:=@PySem.wpAny_isSubtype_exc
def gg:=@PySem.wpAny_Call_Name_kw
def gh:=@PySem.wpAny_truthy_bool
def gi:=@PySem.wpAny_sequenceKey
def gj:=@PySem.wpAny_newObj_type
def gk:=@PySem.wpAny_loadPart_at
def gl:=@PySem.wpAny_call_entry
def gm:=@PySem.wpAny_execs_nil
def gn:=@PySem.wpAny_passesOwn
def gp:=@PySem.wpAny_specialOf
def gq:=@PySem.PassesOwn.never
def gu:=@PySem.wpAny_listPart
def gw:=@PySem.wpAny_setField
def gy:=@PySem.wpAny_standAt
def gz:=@Bool.false_or
def gC:=@List.set_comm
def gD:=@Nat.le_of_eq
def gE:=@PySem.codeAny_mono
def gF:=@PySem.wpAny_typeOf
def gG:=@Nat.add_comm
def gH:=@Nat.mul_comm
def gI:=@Nat.lt_or_ge
def gJ:=@PySem.sizeLine_eq
def gK:=@beq_iff_eq
def gL:=@PySem.wpAny_call
def gM:=@PySem.typeIs_int
def gN:=@PySem.call_meets
def gO:=@Nat.mod_lt
def gP:=@congrArg
def gQ:=@if_false
def gR:=@or_false
def gS:=@if_true
def gU:=@Iff.rfl
def gW:=@if_pos
def gX:=@if_neg
local macro_rules|`(tactic|clear 5 $t $[$a:ident]*)=>`(tactic|obtain⟨$[$a:ident],*⟩:=$t)
abbrev eh:=PySem.W.Frag
open PySem.W (codeIn)
def ua0:=@PyProof.Rows.slot_tuple_getitem
def ua1:=@List.eq_nil_of_length_eq_zero
def ua2:=@PyProof.Rows.callWith_type1
def ua3:=@PySem.F.slot_int_bit_length
def ua4:=@Int.fdiv_eq_ediv_of_nonneg
def ua5:=@List.getElem?_append_right
def ua6:=@Array.getElem?_eq_some_iff
def ua7:=@List.getD_eq_getElem?_getD
def ua8:=@List.getElem?_eq_some_iff
def ua9:=@List.getElem?_append_left
def ub0:=@List.drop_eq_getElem_cons
def ub1:=@List.getElem?_eq_none_iff
def ub2:=@List.getElem?_eq_getElem
def ub3:=@List.getElem?_replicate
def ub4:=@Int.eq_ofNat_of_zero_le
def ub5:=@PySem.F.plainAttrs_list
def ub6:=@List.getElem?_cons_succ
def ub7:=@Nat.add_sub_cancel_left
def ub8:=@List.getElem?_set_self
def ub9:=@PySem.Heap.get?_push_of_some
def uc0:=@PySem.Heap.get?_update_other
def uc1:=@List.take_of_length_le
def uc2:=@Option.map_eq_some_iff
def uc3:=@Nat.div_div_eq_div_mul
def uc4:=@Nat.le_of_succ_le_succ
def uc5:=@List.drop_of_length_le
def uc6:=@List.mem_append_right
def uc7:=@List.length_replicate
def uc8:=@PySem.Heap.get?_update_self
def uc9:=@List.length_singleton
def ud0:=@Nat.le_of_ble_eq_true
def ud1:=@List.take_append_drop
def ud2:=@List.mem_iff_getElem?
def ud3:=@List.set_append_right
def ud4:=@List.getElem?_eq_none
def ud5:=@List.length_filter_le
def ud6:=@List.mem_cons_of_mem
def ud7:=@List.mem_append_left
def ud8:=@List.getElem?_set_ne
def ud9:=@List.mem_of_getElem?
def ue0:=@List.forall_mem_cons
def ue1:=@Nat.mul_le_mul_right
def ue2:=@List.filterMap_cons
def ue3:=@Array.length_toList
def ue4:=@PySem.Heap.get?_push_size
def ue5:=@PySem.W.plainGet_of
def ue6:=@List.replicate_succ
def ue7:=@List.map_congr_left
def ue8:=@List.getElem?_range
def ue9:=@List.take_succ_cons
def uf0:=@Nat.lt_of_lt_of_le
def uf1:=@List.mem_cons_self
def uf2:=@Bool.false_ne_true
def uf3:=@PySem.W.callWith_K
def uf4:=@List.length_append
def uf5:=@PySem.W.KFB.if_not
def uf6:=@Bool.false_eq_true
def uf7:=@List.mem_singleton
def uf8:=@List.length_range'
def uf9:=@Int.emod_lt_of_pos
def ug0:=@PySem.W.mg_none_of
def ug1:=@List.size_toArray
def ug2:=@List.getElem?_map
def ug3:=@List.flatten_cons
def ug4:=@List.append_assoc
def ug5:=@Int.toNat_natCast
def ug6:=@Bool.eq_false_iff
def ug7:=@List.getElem?_set
def ug8:=@List.length_range
def ug9:=@decide_eq_true_eq
def uh0:=@of_decide_eq_true
def uh1:=@List.getElem_inj
def uh2:=@List.length_cons
def uh3:=@Nat.lt_succ_self
def uh4:=@List.length_take
def uh5:=@List.length_drop
def uh6:=@Bool.and_eq_true
def uh7:=@Option.getD_none
def uh8:=@Nat.le_add_right
def uh9:=@List.lookup_cons
def ui0:=@List.drop_length
def ui1:=@List.all_eq_true
def ui2:=@List.not_mem_nil
def ui3:=@List.getElem_mem
def ui4:=@List.cons_append
def ui5:=@Option.getD_some
def ui6:=@List.take_length
def ui7:=@beq_self_eq_true
def ui8:=@List.mem_filter
def ui9:=@List.mem_append
def uj0:=@Option.some.inj
def uj1:=@List.length_map
def uj2:=@PySem.W.kia_one
def uj3:=@List.append_nil
def uj4:=@List.nodup_cons
def uj5:=@List.of_mem_zip
def uj6:=@List.length_set
def uj7:=@List.foldl_cons
def uj8:=@List.nil_append
def uj9:=@List.find?_cons
def uk0:=@List.length_nil
def uk1:=@Option.map_some
def uk2:=@List.map_append
def uk3:=@Int.emod_nonneg
def uk4:=@decide_eq_false
def uk5:=@List.mem_range
def uk6:=@Bool.false_and
def uk7:=@PySem.Heap.size_push
def uk8:=@Bool.and_false
def uk9:=@List.drop_zero
def ul0:=@decide_eq_true
def ul1:=@Nat.lt_irrefl
def ul2:=@List.mem_cons
def ul3:=@List.map_cons
def ul4:=@Bool.or_false
def ul5:=@List.any_cons
def ul6:=@List.all_cons
def ul7:=@Bool.true_and
def ul8:=@Nat.add_assoc
def ul9:=@PySem.W.mg_of
def um0:=@PySem.wpAny_holding
def um1:=@PySem.Heap.lt_size
def um2:=@Nat.ne_of_lt
def um3:=@Nat.le_trans
def um4:=@Nat.le_of_lt
def um5:=@Nat.ne_of_gt
def um6:=@Nat.succ_mul
def um7:=@List.map_nil
def um8:=@Nat.pow_zero
def um9:=@Nat.pow_succ
def un0:=@List.mem_map
def un1:=@List.map_map
def un2:=@Nat.sub_self
def un3:=@Int.zero_add
def un4:=@Nat.succ.inj
def un5:=@Nat.le_refl
def un6:=@Nat.zero_le
def un7:=@Nat.le_succ
def un8:=@Nat.div_one
def un9:=@PySem.wpAny_field
def uo0:=@PySem.wpAny_bind
def uo1:=@PySem.wpAny_pure
def uo2:=@PySem.wpAny_mono
set_option Elab.async false
set_option linter.all false
set_option maxRecDepth 100000
set_option bootstrap.genMatcherCode false
set_option genSizeOf false
set_option maxHeartbeats 4000000
local macro_rules | `(tactic| walk_at"h") => `(tactic| first|exact Or.inl rfl|exact Or.inr rfl|exact Or.inr (Or.inl rfl)|exact Or.inr (Or.inr rfl)|assumption)
namespace L2
open PySem PySem.Spec PyProof.Rows
abbrev Key:=Sum Int Str
noncomputable def IC:Key->fc->Bool
 |.inl k,v=>Value.isInt k v
 |.inr x,v=>Value.isStrOf x v
noncomputable def bN(w:fj):Key->Int
 |.inl k=>hashInt k
 |.inr x=>hashStr w x
theorem BT:∀{k:Key}{v:fc},IC k v=true->(∃i t,k=Sum.inl i/\v=Value.int i t)\/(∃x t,k=Sum.inr x/\v=Value.str x t)
 |.inl i,v,h=>by
   clear 5(Value.isInt_shape (k:=i) (v:=v) h)t e;exact .inl ⟨i,t,rfl,e⟩
 |.inr x,v,h=>by
   clear 5(Value.isStrOf_shape (x:=x) (v:=v) h)t e;exact .inr ⟨x,t,rfl,e⟩
theorem QO(i:Int)(t:Tok):IC (.inl i) (.int i t)=true:=by simp[IC,Value.isInt]
theorem QP(x:Str)(t:Tok):IC (.inr x) (.str x t)=true:=by simp[IC,Value.isStrOf]
theorem Ym(a b:Int):decide ((Sum.inl a:Key)=Sum.inl b)=(a==b):=by
 by_cases e:a=b
 .subst e;simp
 .have h:¬(Sum.inl a:Key)=Sum.inl b:=λq=>e (Sum.inl.inj q);rw[uk4 h];exact(gb.mpr e).symm
theorem Yp(a b:Str):decide ((Sum.inr a:Key)=Sum.inr b)=decide (a=b):=by
 by_cases e:a=b
 .subst e;simp
 .have h:¬(Sum.inr a:Key)=Sum.inr b:=λq=>e (Sum.inr.inj q);rw[uk4 h,uk4 e]
theorem Yn(a:Int)(b:Str):decide ((Sum.inl a:Key)=Sum.inr b)=false:=uk4 (λq=>nomatch q)
theorem Yo(a:Str)(b:Int):decide ((Sum.inr a:Key)=Sum.inl b)=false:=uk4 (λq=>nomatch q)
def CH(prog:fh)(w:fj):PySem.KeyKind prog w Key where
 is:=IC
 hash:=bN w
 inj:=λv a b ha hb=>by
  rcases BT ha with⟨i,t,rfl,rfl⟩|⟨x,t,rfl,rfl⟩
  .rcases BT hb with⟨j,u,rfl,e⟩|⟨y,u,rfl,e⟩
   .injection e with e1 _;rw[e1]
   .exact nomatch e
  .rcases BT hb with⟨j,u,rfl,e⟩|⟨y,u,rfl,e⟩
   .exact nomatch e
   .injection e with e1 _;rw[e1]
 byValue:=λk v h=>by
  rcases BT h with⟨i,t,rfl,rfl⟩|⟨x,t,rfl,rfl⟩<;>rfl
 pyHash:=λhv h=>by
  rcases BT hv with⟨i,t,rfl,rfl⟩|⟨x,t,rfl,rfl⟩
  .exact wpAny_pyHash_int h
  .exact wpAny_pyHash_str h
 eqBool:=λhu hv h=>by
  rcases BT hu with⟨i,t,rfl,rfl⟩|⟨x,t,rfl,rfl⟩
  .rcases BT hv with⟨j,u,rfl,rfl⟩|⟨y,u,rfl,rfl⟩
   .rw[Ym] at h;exact wpAny_eqBool_int h
   .rw[Yn] at h;exact SeqAt.EqAt.int_str i t y u _ _ _ _ h
  .rcases BT hv with⟨j,u,rfl,rfl⟩|⟨y,u,rfl,rfl⟩
   .rw[Yo] at h;exact SeqAt.EqAt.str_int x t j u _ _ _ _ h
   .rw[Yp] at h;exact wpAny_eqBool_str h
 «strs»:=λk x t v h=>by
  rcases BT h with⟨i,u,rfl,e⟩|⟨y,u,rfl,e⟩
  .exact nomatch e
  .injection e with e1 _
   subst e1
   cases v<;>rfl
theorem Nr(prog:fh)(w:fj)(i:Int)(t:Tok):(CH prog w).is (.inl i) (.int i t)=true:=QO i t
theorem Nt(prog:fh)(w:fj)(x:Str)(t:Tok):(CH prog w).is (.inr x) (.str x t)=true:=QP x t
inductive V where
 |non|bl (b:Bool)|int (i:Int)|str (x:Str)|byt (b:Array UInt8)|flt (b:UInt64)|ref (a:ff)|ty (n:String)
 deriving DecidableEq
noncomputable def RelV:V->fc->Prop
 |.non,u=>u=Value.none
 |.bl b,u=>u=Value.bool b
 |.int i,u=>∃t,u=Value.int i t
 |.str x,u=>∃t,u=Value.str x t
 |.byt b,u=>∃t,u=Value.bytes b t
 |.flt b,u=>∃t,u=Value.float b t
 |.ref a,u=>u=Value.ref a
 |.ty n,u=>u=Value.type n
abbrev Vals:List V->List fc->Prop:=Paired RelV
theorem Vals.length{xs:List V}{us:List fc}(r:Vals xs us):xs.length=us.length:=Paired.length r
theorem Vals.get:∀{xs:List V}{us:List fc}{i:Nat}{x:V},Vals xs us->xs[i]?=some x->∃u,us[i]?=some u/\RelV x u
 |_,_,_,_,.nil,e=>by simp at e
 |_,_,0,_,.cons r _,e=>by simp at e;subst e;exact⟨_,rfl,r⟩
 |_,_,i+1,x,.cons _ t,e=>by
   clear 5(Vals.get (i:=i) (x:=x) t (by simpa using e))u h1 h2;exact⟨u,by simpa using h1,h2⟩
theorem Vals.set{x:V}{u:fc}(r:RelV x u):∀{xs:List V}{us:List fc} (i:Nat),Vals xs us->Vals (xs.set i x) (us.set i u)
 |_,_,_,.nil=>.nil
 |_,_,0,.cons _ t=>.cons r t
 |_,_,i+1,.cons q t=>.cons q (Vals.set r i t)
theorem Vals.append{xs ys:List V}{us ws:List fc}(r:Vals xs us)(s:Vals ys ws):Vals (xs++ys) (us++ws):=by
 cases r with
 |nil=>exact s
 |cons r t=>exact .cons r (Vals.append t s)
theorem Vals.take:∀{xs:List V}{us:List fc} (n:Nat),Vals xs us->Vals (xs.take n) (us.take n)
 |_,_,0,_=>.nil
 |_,_,_+1,.nil=>.nil
 |_,_,n+1,.cons r t=>.cons r (Vals.take n t)
theorem Vals.drop:∀{xs:List V}{us:List fc} (n:Nat),Vals xs us->Vals (xs.drop n) (us.drop n)
 |_,_,0,r=>r
 |_,_,_+1,.nil=>.nil
 |_,_,n+1,.cons _ t=>Vals.drop n t
def RelO:Option V->Option fc->Prop
 |some v,some u=>RelV v u
 |none,none=>True
 |_,_=>False
def KV{κ:Type}:List (κ×V)->List (κ×fc)->Prop:=Paired λ(p:κ×V) (q:κ×fc)=>p.1=q.1/\RelV p.2 q.2
noncomputable def kV:Key->V
 |.inl i=>.int i
 |.inr x=>.str x
inductive HO where
 /-- a list -/
 |lst (xs:List V)
 /-- a tuple (never changes) -/
 |tup (xs:List V)
 /-- a dict whose keys are ints and texts;one whose keys are tuples of ints and texts (the empty one is both) -/
 |dK (kvs:List (Key×V))|dT (kvs:List (List Key×V))
 /-- a set of ints: its members,its size -/
 |set (S:Int->Bool) (n:Nat)
 /-- an instance of the class at C,its dict at dx,its attributes -/
 |ins (C dx:ff) (fs:List (Str×V))
 /-- the dict of the instance at x -/
 |own (x:ff)
 /-- the dict of an exception -/
 |xd (fs:List (Str×V))
 /-- a bound method,f of x -/
 |met (f x:ff)
 /-- a range object lo,lo+1,.. below hi -/
 |rng (lo hi:Int)
 /-- a thing that is known to the object (the script;a dict while a loop walks it): read,never written while it is so -/
 |frz (o:Obj) (u:HO)
 /-- a code object's table -/
 |tbl (ps:Array fc)
 /-- any other thing,by what is true of its one object (a def of one's own: SetO a S n:=HO.ext λh=>..) -/
 |ext (φ:Heap->Prop)
abbrev Hp:=ff->Option HO
noncomputable def upd(H:Hp)(a:ff)(o:HO):Hp:=λb=>if b=a then some o else H b
section
variable{H:Hp}{a:ff}
theorem AJ{o:HO}:upd H a o a=some o:=by unfold upd;rw[gW rfl]
variable{b:ff}
theorem Av{o:HO}(h:b≠a):upd H a o b=H b:=by unfold upd;rw[gX h]
theorem AD{o:HO}(h:H a=some o)(h':H b=none):a≠b:=by
 intro e;subst e;rw[h] at h';cases h'
section
variable(P:fh)(w:fj)
def ObjOk(H:Hp)(h:Heap)(a:ff):HO->Prop
 |.lst xs=>xs.length<=sizeLine/\∃(its:List fc) (n:Nat),Vals xs its/\h.get? a=some {cls:=.type "list",data:=.seq its.toArray n}
 |.tup xs=>xs.length<=sizeLine/\∃its:List fc,Vals xs its/\IsTup h a its.toArray
 |.dK kvs=>kvs.length<=sizeLine/\(a==sysModules)=false/\∃vs,KV kvs vs/\h.DictOf (CH P w) a vs
 | .dT kvs=>kvs.length<=sizeLine/\(a == sysModules)=false/\∃xs:List (List Key×ff×fc),
    Paired (λ(p:List Key×V) (q:List Key×ff×fc)=>p.1=q.1/\H q.2.1=some (.tup (p.1.map kV))/\RelV p.2 q.2.2) kvs xs/\
    ∃o es ep,h.get? a=some o/\o.ExactDict/\o.data=.dict es ep/\es.toList=xs.map (entryOfKey (tupleKind (CH P w)))/\(xs.map (·.1)).Nodup
 |.set S n=>h.SetOf (intKind P w) a S n
 | .ins C dx fs=>H dx=some (.own a)/\fs.length<=1000/\dx≠a/\h.get? a=some (PySem.W.instObj C dx)/\
    ∃mA,h.Ns1 dx mA/\(∀f,RelO (fs.lookup f) (mA f))/\PySem.Within mA (fs.map (·.1))
 |.own _=>∃o,h.get? a=some o
 |.xd fs=>∃mA,h.Ns1 a mA/\∀f,RelO (fs.lookup f) (mA f)
 |.rng lo hi=>∃t u v,h.get? a=some {cls:=.type "range",data:=.fields #[.int lo t,.int hi u,.int 1 v]}
 |.frz o u=>h.get? a=some o/\ObjOk H h a u
 |.tbl ps=>h.get? a=some {cls:=.none,data:=.fields ps}
 |.met f x=>h.get? a=some (PySem.W.methodObj (.ref f) (.ref x))
 |.ext φ=>φ h/\(∃o,h.get? a=some o)/\∀h1 h2:Heap,φ h1->(∀o,h1.get? a=some o->h2.get? a=some o)->φ h2
def HOk(H:Hp)(h:Heap):Prop:=∀a o,H a=some o->ObjOk P w H h a o
end
section
variable{P:fh}{w:fj}{H H':Hp}{h h':Heap}{a:ff}{o:HO}
theorem ObjOk.lt(x:ObjOk P w H h a o):a<h.objs.size:=by
 cases o with
 |lst xs=>obtain⟨_,_,_,_,e⟩:=x;exact um1 e
 |tup xs=>obtain⟨_,_,_,p⟩:=x;exact p.lt
 |dK kvs=>obtain⟨_,_,_,_,o,_,_,e,_⟩:=x;exact um1 e
 |dT kvs=>obtain⟨_,_,_,_,o,_,_,e,_⟩:=x;exact um1 e
 |set S n=>obtain⟨o,_,_,_,e,_⟩:=x;exact um1 e
 |ins C dx fs=>obtain⟨_,_,_,e,_⟩:=x;exact um1 e
 |own y=>obtain⟨_,e⟩:=x;exact um1 e
 |xd fs=>obtain⟨_,⟨_,_,_,e,_⟩,_⟩:=x;exact um1 e
 |rng lo hi=>obtain⟨_,_,_,e⟩:=x;exact um1 e
 |frz ob u=>obtain⟨e,_⟩:=x;exact um1 e
 |tbl ps=>exact um1 (show h.get? a=some _ from x)
 |met f y=>exact um1 (show h.get? a=some _ from x)
 |ext φ=>obtain⟨_,⟨_,e⟩,_⟩:=x;exact um1 e
theorem Paired.mapP{α β:Type}{F G:α->β->Prop}:∀{l₁:List α}{l₂:List β},Paired F l₁ l₂->(∀a b,F a b->G a b)->Paired G l₁ l₂
 |_,_,.nil,_=>.nil
 |_,_,.cons r t,f=>.cons (f _ _ r) (Paired.mapP t f)
theorem ObjOk.stay(x:ObjOk P w H h a o)(k:∀b u,(b=a\/H b=some (.own a))->h.get? b=some u->h'.get? b=some u)
 (ho:∀b,H b=some (.own a)->H' b=some (.own a)) (ht:∀b xs,H b=some (.tup xs)->H' b=some (.tup xs)):ObjOk P w H' h' a o:=by
 induction o with
 |lst xs=>clear 5 x z its n r e;exact⟨z,its,n,r,k _ _ (.inl rfl) e⟩
 |tup xs=>clear 5 x z its r ob e c;exact⟨z,its,r,ob,k _ _ (.inl rfl) e,c⟩
 |dK kvs=>clear 5 x z y vs r ob es ep e c;exact⟨z,y,vs,r,ob,es,ep,k _ _ (.inl rfl) e,c⟩
 |dT kvs=>
   clear 5 x z y xs r ob es ep e c;exact⟨z,y,xs,Paired.mapP r λp q z=>⟨z.1,ht _ _ z.2.1,z.2.2⟩,ob,es,ep,k _ _ (.inl rfl) e,c⟩
 |set S n=>clear 5 x ob es ep t e c;exact⟨ob,es,ep,t,k _ _ (.inl rfl) e,c⟩
 |ins C dx fs=>
   obtain⟨d,z,ne,e,mA,⟨od,es,ep,e2,c⟩,r⟩:=x;exact⟨ho _ d,z,ne,k _ _ (.inl rfl) e,mA,⟨od,es,ep,k _ _ (.inr d) e2,c⟩,r⟩
 |own y=>clear 5 x ob e;exact⟨ob,k _ _ (.inl rfl) e⟩
 |xd fs=>obtain⟨mA,⟨od,es,ep,e,c⟩,r⟩:=x;exact⟨mA,⟨od,es,ep,k _ _ (.inl rfl) e,c⟩,r⟩
 |rng lo hi=>clear 5 x t u v e;exact⟨t,u,v,k _ _ (.inl rfl) e⟩
 |frz ob u ih=>clear 5 x e q;exact⟨k _ _ (.inl rfl) e,ih q⟩
 |tbl ps=>
   have e:h.get? a=some {cls:=.none,data:=.fields ps}:=x;show h'.get? a=some {cls:=.none,data:=.fields ps};exact k a _ (.inl rfl) e
 |met f y=>
   have e:h.get? a=some (PySem.W.methodObj (.ref f) (.ref y)):=x;show h'.get? a=some (PySem.W.methodObj (.ref f) (.ref y));exact k a _ (.inl rfl) e
 |ext φ=>obtain⟨p,⟨o,e⟩,st⟩:=x;exact⟨st _ _ p λo q=>k _ _ (.inl rfl) q,⟨o,k _ _ (.inl rfl) e⟩,st⟩
theorem HOk.lt(x:HOk P w H h)(e:H a=some o):a<h.objs.size:=(x a o e).lt
theorem HOk.fresh(x:HOk P w H h)(e:h.objs.size<=a):H a=none:=by
 cases q:H a with
 |none=>rfl
 |some u=>exact absurd (uf0 (x.lt q) e) (ul1 _)
theorem HOk.kept(x:HOk P w H h)(k:∀b u,h.get? b=some u->h'.get? b=some u):HOk P w H h':=λa o e=>
 (x a o e).stay (λb u _ q=>k b u q) (λ_ q=>q) λ_ _ q=>q
theorem HOk.laid(x:HOk P w H h)(k:∀b u,h.get? b=some u->h'.get? b=some u)(hp:h.objs.size<=a)(new:ObjOk P w (upd H a o) h' a o):HOk P w (upd H a o) h':=λb u e=>by
 have hn:=x.fresh hp
 by_cases hb:b=a
 .subst hb;rw[AJ] at e;cases e;exact new
 .rw[Av hb] at e;exact(x b u e).stay (λc v _ q=>k c v q) (λc q=>by rw[Av (AD q hn)];exact q) λc xs q=>by rw[Av (AD q hn)];exact q
end
noncomputable def Rd(H:Hp)(a:ff)(u:HO):Prop:=H a=some u\/∃o,H a=some (.frz o u)
variable{P:fh}{w:fj}{h:Heap}
theorem Rd.ok{u:HO}(r:Rd H a u)(x:HOk P w H h):ObjOk P w H h a u:=by
 rcases r with r|⟨o,r⟩
 .exact x a u r
 .obtain⟨_,q⟩:=x a _ r;exact q
def Mut:Option HO->Prop
 |some (.lst _)=>True
 |some (.dK _)=>True
 |some (.dT _)=>True
 |some (.set _ _)=>True
 |some (.ins _ _ _)=>True
 |some (.ext _)=>True
 |_=>False
section
variable{P:fh}{w:fj}{H:Hp}{h h':Heap}{x e:ff}{o':HO}
theorem HOk.write(ok:HOk P w H h)(mu:Mut (H x))(he:e=x\/H e=some (.own x))(k:∀b u,b≠e->h.get? b=some u->h'.get? b=some u)(heo:∃u,h'.get? e=some u)
 (new:ObjOk P w (upd H x o') h' x o'):HOk P w (upd H x o') h':=λb u q=>by
 have nown:∀c y,H c=some (.own y)->c≠x:=λc y r z=>by subst z;rw[r] at mu;exact mu
 have ntup:∀c xs,H c=some (.tup xs)->c≠x:=λc xs r z=>by subst z;rw[r] at mu;exact mu
 by_cases hb:b=x
 .subst hb;rw[AJ] at q;cases q;exact new
 .rw[Av hb] at q
  by_cases hbe:b=e
  .have q':H b=some (.own x):=by
    rcases he with z|z
    .exact absurd (hbe.trans z) hb
    .rw[hbe];exact z
   rw[q] at q';cases q'
   clear 5 heo v hv;exact⟨v,by rw[hbe];exact hv⟩
  .refine(ok b u q).stay (λc v hc r=>k c v ?_ r) (λc r=>by rw[Av (nown c b r)];exact r) λc xs r=>by rw[Av (ntup c xs r)];exact r
   rcases hc with rfl|hc
   .exact hbe
   .rintro rfl;rcases he with z|z
    .exact nown c b hc z
    .rw[hc] at z;cases z;exact hb rfl
end
structure Un(fs ex:List ff)(H H':Hp)(h h':Heap):Prop where
 keep:∀b o,h.get? b=some o->H b=none->b∉fs->b∉ex->h'.get? b=some o
 slot:∀b o,h.get? b=some o->H b=none->b∈fs->b∉ex->∃sl,h'.get? b=some {o with slots:=sl}
 free:∀b o,h.get? b=some o->H b=none->b∉ex->H' b=none
 there:∀b o,h.get? b=some o->b∉ex->∃o',h'.get? b=some o'
 tups:∀b xs,H b=some (.tup xs)->H' b=some (.tup xs)
 frzs:∀b o u,H b=some (.frz o u)->H' b=some (.frz o u)
 tbls:∀b ps,H b=some (.tbl ps)->∃more,H' b=some (.tbl (ps++more))
section
variable{fs fs' ex ex':List ff}{H H1 H2:Hp}{h h1 h2 h':Heap}{a x e:ff}{o:HO}
theorem Un.any(u:Un fs ex H H1 h h1){b:ff}{ob:Obj}(q:h.get? b=some ob)(n:H b=none)(hx:b∉ex):∃sl,h1.get? b=some {ob with slots:=sl}:=by
 by_cases hb:b∈fs
 .exact u.slot b ob q n hb hx
 .exact⟨ob.slots,u.keep b ob q n hb hx⟩
theorem Un.kept(k:∀b u,h.get? b=some u->h'.get? b=some u):Un fs ex H H h h':=
 ⟨λb ob q _ _ _=>k b ob q,λb ob q _ _ _=>⟨ob.slots,k b ob q⟩,λ_ _ _ n _=>n,λb ob q _=>⟨ob,k b ob q⟩,λ_ _ q=>q,λ_ _ _ q=>q,λ_ ps q=>⟨#[],by rw[q];simp⟩⟩
theorem Un.refl:Un fs ex H H h h:=Un.kept λ_ _ q=>q
theorem Un.laid(k:∀b u,h.get? b=some u->h'.get? b=some u)(hp:h.objs.size<=a)(hn:H a=none):Un fs ex H (upd H a o) h h' where
 keep:=λb u q _ _ _=>k b u q
 slot:=λb u q _ _ _=>⟨u.slots,k b u q⟩
 free:=λb u q n _=>by rw[Av (um2 (uf0 (um1 q) hp))];exact n
 there:=λb u q _=>⟨u,k b u q⟩
 tups:=λb xs q=>by rw[Av (AD q hn)];exact q
 frzs:=λb u xs q=>by rw[Av (AD q hn)];exact q
 tbls:=λb ps q=>⟨#[],by rw[Av (AD q hn),q];simp⟩
theorem Un.write(mu:Mut (H x))(he:e=x\/H e=some (.own x))(k:∀b u,b≠e->h.get? b=some u->h'.get? b=some u)(heo:∃u,h'.get? e=some u):Un fs ex H (upd H x o) h h':=by
 have hx:∀b,H b=none->b≠x:=λb n z=>by subst z;rw[n] at mu;exact mu
 have hb:∀b,H b=none->b≠e:=λb n z=>by
  subst z;rcases he with r|r
  .exact hx b n r
  .rw[n] at r;cases r
 have hm:∀b u,H b=some u->¬Mut (some u)->b≠x:=λb u q nm z=>by subst z;rw[q] at mu;exact nm mu
 refine⟨λb u q n _ _=>k b u (hb b n) q,λb u q n _ _=>⟨u.slots,k b u (hb b n) q⟩,λb u q n _=>by rw[Av (hx b n)];exact n,λb u q _=>?_,
  λb xs q=>by rw[Av (hm b _ q λz=>z)];exact q,λb u xs q=>by rw[Av (hm b _ q λz=>z)];exact q,λb ps q=>⟨#[],by rw[Av (hm b _ q λz=>z),q];simp⟩⟩
 by_cases hbe:b=e
 .subst hbe;exact heo
 .exact⟨u,k b u hbe q⟩
end
noncomputable def trk(h:Heap)(H:Hp):List ff:=(List.range h.objs.size).filter λa=>(H a).isSome
def Ha(h:Heap)(H:Hp):Heap:=PySem.W.hideAll h (trk h H)
theorem QH(h:Heap)(H:Hp):(Ha h H).objs.size=h.objs.size:=PySem.W.hideAll_size _ _
variable{o:Obj}
theorem Tl(e:h.get? b=some o)(n:H b=none):(Ha h H).get? b=some o:=
 PySem.W.hideAll_get _ e λhm=>by
  have q:(H b).isSome=true:=(ui8.mp hm).2;rw[n] at q;simp at q
theorem V3(e:(Ha h H).get? b=some o):h.get? b=some o/\H b=none:=by
 have e':h.get? b=some o:=PySem.W.of_hideAll (trk h H) e;refine⟨e',?_⟩
 cases q:H b with
 |none=>rfl
 |some x=>
   have hm:b∈trk h H:=ui8.mpr ⟨uk5.mpr (um1 e'),by simp[q]⟩;have z:(Ha h H).get? b=none:=PySem.W.hideAll_none (trk h H) hm;rw[z] at e;cases e
noncomputable def UU(g h:Heap)(L:ff):List (ff×Obj):=(List.range h.objs.size).filterMap λa=>if a=L\/(g.get? a).isSome=true then none else(h.get? a).map λo=>(a,o)
def rest(g h:Heap)(L d:ff):List (ff×Obj):=(UU g h L).filter λp=>decide (p.1≠d)
structure Mod(K:eh)(mg:Str->Option fc)(base:Heap):Prop where
 kin:K.In base
 glob:base.Ns mainGlobals mg
 blt:∃mb,base.Ns builtinsNs mb/\∀x:Str,x≠"__name__"->mb x=bootBuiltins x
 nolimit:base.NoLimit
structure Cx where
 prog:fh
 w:fj
 K:eh
 mg:Str->Option fc
 base:Heap
 A:Around
 N:List Str
 s₀:fg
 H₀:Hp
 env:Env
 outer:List Env
 stack:List Env
 ex:List ff
 fn:Str->Bool
 calm:Bool
 pn:List (ff×Obj)
 xe:fc->fg->Prop
noncomputable def frs(l:List Env):List ff:=l.filterMap (·.frame)
abbrev Cx.fs(X:Cx):List ff:=frs X.outer
def Vis(sc:Scope)(x:Str):Prop:=sc.names.lookup x=some .local\/sc.names.lookup x=some .cell\/sc.names.lookup x=some .free
def Loc(sc:Scope)(x:Str):Prop:=sc.names.lookup x=some .local\/sc.names.lookup x=some .cell
def bp(env:Env)(h:Heap)(m:Str->Option fc)(x:Str)(u:fc):Prop:=
 (env.kindOf x=some .local/\m x=some u)\/((env.kindOf x=some .cell\/env.kindOf x=some .free)/\∃c,env.cells.lookup x=some c/\h.IsCell c (some u))
structure Cx.Ok(X:Cx):Prop where
 mod:Mod X.K X.mg X.base
 kind:X.env.scope.kind=.function
 glob:X.env.globals=mainGlobals
 blt:X.env.builtins=builtinsNs
 above:X.s₀.heap.objs.size<=X.env.locals
 inj:∀x y c,X.env.cells.lookup x=some c->X.env.cells.lookup y=some c->x=y
 has:∀x,(X.env.kindOf x=some .cell\/X.env.kindOf x=some .free)->∃c,X.env.cells.lookup x=some c
 cab:∀x c,X.fn x=true->X.env.cells.lookup x=some c->X.s₀.heap.objs.size<=c
 hd:X.calm=true->X.A.handled=none
 frames:X.A.frames=some X.stack
 stk:X.stack=X.outer\/(X.stack=X.env::X.outer/\X.env.frame=some X.env.locals)
 exf:∀b∈X.ex,b≠X.env.locals/\∀x c,X.env.cells.lookup x=some c->c≠b
 bs:∀b o,X.base.get? b=some o->X.s₀.heap.get? b=some o/\X.H₀ b=none
 bsz:X.base.objs.size<=X.s₀.heap.objs.size
 noex:∀b o,X.base.get? b=some o->b∉X.ex
 exfs:∀b∈X.ex,b∉X.fs
 funs:X.s₀.heap.FunFrames X.base X.outer
 frf:∀b∈X.fs,X.H₀ b=none
structure Inv(X:Cx)(fb:List (ff×Obj))(σ:List (Option V))(H:Hp)(s:fg):Prop where
 ok:X.Ok
 os:s.os=X.s₀.os
 bare:AllBare s.gens
 base:Un X.fs X.ex X.H₀ H X.s₀.heap s.heap
 loc:∃m,s.heap.Ns X.env.locals m/\∀(i:Nat) (x:Str) (v:V),X.N[i]?=some x->σ[i]?=some (some v)->Vis X.env.scope x->∃u,RelV v u/\bp X.env s.heap m x u
 cell:∀x c,X.env.cells.lookup x=some c->∃v,s.heap.IsCell c v
 free:H X.env.locals=none
 freeC:∀x c,X.env.cells.lookup x=some c->H c=none
 pin:∀p∈X.pn++fb,s.heap.get? p.1=some p.2/\H p.1=none/\p.1≠X.env.locals/\p.1∉X.fs/\∀v,p.2.data≠.cell v
 hok:HOk X.prog X.w H s.heap
 len:σ.length=X.N.length
variable{t' i:Nat}{E:fc->fg->Prop}{x:Str}{v:V}{u:fc}{Q:Unit->fg->Prop}
section
variable{X:Cx}{fb:List (ff×Obj)}{σ:List (Option V)}{H H':Hp}{s:fg}{h':Heap}
theorem Cx.Ok.nofr(ok:X.Ok){b:ff}{o:Obj}(e:X.base.get? b=some o):b∉X.fs:=λhb=>by
 have:=(ok.funs.mem hb).1;rw[e] at this;cases this
theorem Inv.bs(I:Inv X fb σ H s):∀b o,X.base.get? b=some o->s.heap.get? b=some o/\H b=none:=λb o e=>
 ⟨I.base.keep b o (I.ok.bs b o e).1 (I.ok.bs b o e).2 (I.ok.nofr e) (I.ok.noex b o e),I.base.free b o (I.ok.bs b o e).1 (I.ok.bs b o e).2 (I.ok.noex b o e)⟩
theorem Inv.bk(I:Inv X fb σ H s):∀b o,X.base.get? b=some o->s.heap.get? b=some o:=λb o e=>(I.bs b o e).1
theorem Inv.mod(I:Inv X fb σ H s):Mod X.K X.mg X.base:=I.ok.mod
theorem Inv.kIn(I:Inv X fb σ H s):X.K.In s.heap:=I.ok.mod.kin.keeps I.bk
theorem Inv.lt(I:Inv X fb σ H s):X.env.locals<s.heap.objs.size:=let ⟨_,hn,_⟩:=I.loc;hn.lt
theorem Inv.sz(I:Inv X fb σ H s):X.s₀.heap.objs.size<=s.heap.objs.size:=um3 I.ok.above (um4 I.lt)
theorem Inv.nofs(I:Inv X fb σ H s){a:ff}(h:s.heap.objs.size<=a):a∉X.fs:=λhb=>by
 obtain⟨_,o,ho,_⟩:=I.ok.funs.mem hb;exact absurd (uf0 (um1 ho) (um3 I.sz h)) (ul1 _)
theorem Inv.cne(I:Inv X fb σ H s):∀x c,X.env.cells.lookup x=some c->c≠X.env.locals:=λx c e z=>by
 clear 5(I.cell x c e)v o ho hd;obtain⟨m,⟨o',es,ep,ho',hd',_⟩,_⟩:=I.loc;rw[z,ho'] at ho;cases ho;rw[hd'] at hd;cases hd
theorem Inv.funs(I:Inv X fb σ H s):s.heap.FunFrames X.base X.outer:=by
 have all:∀(l:List Env),(∀b∈frs l,b∈X.fs)->X.s₀.heap.FunFrames X.base l->s.heap.FunFrames X.base l:=by
  intro l
  induction l with
  |nil=>intro _ _;trivial
  |cons env r ih=>
    intro hs hl;obtain⟨hk,⟨L,o,hf,hn,ho,hd⟩,hr⟩:=hl;have hL:L∈X.fs:=hs L (by unfold frs;rw[ue2,hf];exact uf1);obtain⟨sl,e⟩:=I.base.slot L o ho (I.ok.frf L hL) hL λz=>I.ok.exfs L z hL;exact⟨hk,⟨L,_,hf,hn,e,hd⟩,ih (λb hb=>hs b (by unfold frs;rw[ue2,hf];exact ud6 _ hb)) hr⟩
 exact all X.outer (λ_ hb=>hb) I.ok.funs
theorem Inv.stack(I:Inv X fb σ H s):s.heap.FunFrames X.base X.stack:=by
 rcases I.ok.stk with e|⟨e,hf⟩
 .rw[e];exact I.funs
 .rw[e];obtain⟨m,hn,_⟩:=I.loc;refine .cons (by rw[I.ok.kind];decide) hf hn ?_ I.funs;exact Heap.get?_none_of_le (um3 I.ok.bsz I.ok.above)
theorem Inv.stkSub(I:Inv X fb σ H s):∀b∈frs X.stack,b∈X.env.locals::X.fs:=λb hb=>by
 rcases I.ok.stk with e|⟨e,hf⟩
 .rw[e] at hb;exact ud6 _ hb
 .rw[e] at hb;unfold frs at hb;rw[ue2,hf] at hb;exact hb
theorem Inv.stkFree(I:Inv X fb σ H s):∀b∈frs X.stack,H b=none:=λb hb=>by
 rcases ul2.mp (I.stkSub b hb) with e|hb
 .rw[e];exact I.free
 .obtain⟨_,o,ho,_⟩:=I.ok.funs.mem hb;exact I.base.free b o ho (I.ok.frf b hb) λz=>I.ok.exfs b z hb
theorem Inv.step{g':Array GenState}{t':Nat}{d':Drawn}{ch:List ff}(I:Inv X fb σ H s)
 (hch:∀b∈ch,(b∈X.ex\/X.s₀.heap.objs.size<=b)/\b≠X.env.locals/\(∀x c,X.env.cells.lookup x=some c->c≠b)/\∀p∈X.pn++fb,p.1≠b)
 (keep:∀b o,b≠X.env.locals->b∉X.fs->b∉ch->s.heap.get? b=some o->H b=none->h'.get? b=some o)
 (slot:∀b o,b≠X.env.locals->b∈X.fs->b∉ch->s.heap.get? b=some o->H b=none->∃sl,h'.get? b=some {o with slots:=sl}) (free:∀b o,b∉ch->s.heap.get? b=some o->H b=none->H' b=none)
 (there:∀b o,b∉ch->s.heap.get? b=some o->∃o',h'.get? b=some o')
 (tups:∀b xs,H b=some (.tup xs)->H' b=some (.tup xs)) (frzs:∀b o u,H b=some (.frz o u)->H' b=some (.frz o u)) (tbls:∀b ps,H b=some (.tbl ps)->∃more,H' b=some (.tbl (ps++more)))
 (ns:∀m,s.heap.Ns X.env.locals m->h'.Ns X.env.locals m) (hok:HOk X.prog X.w H' h') (hg:AllBare g') :
 Inv X fb σ H' {s with heap:=h',gens:=g',drawn:=d',toks:=t'}:=by
 have neL:∀b o,X.s₀.heap.get? b=some o->b≠X.env.locals:=λb o e=>um2 (uf0 (um1 e) I.ok.above);have neC:∀b o,X.s₀.heap.get? b=some o->b∉X.ex->b∉ch:=λb o e hx hb=>by
  rcases (hch b hb).1 with z|z
  .exact hx z
  .exact absurd (uf0 (um1 e) z) (ul1 _)
 have cellK:∀x c,X.env.cells.lookup x=some c->∀v,s.heap.IsCell c v->h'.IsCell c v:=λx c e v z9=>by
  clear 5 z9 o ho hd;have nch:c∉ch:=λz=>(hch c z).2.2.1 x c e rfl
  by_cases hc:c∈X.fs
  .clear 5(slot c o (I.cne x c e) hc nch ho (I.freeC x c e))sl q;exact⟨_,q,hd⟩
  .exact⟨o,keep c o (I.cne x c e) hc nch ho (I.freeC x c e),hd⟩
 refine⟨I.ok,I.os,hg,⟨λb o e n hb hx=>?_,λb o e n hb hx=>?_,λb o e n hx=>?_,λb o e hx=>?_,λb xs e=>tups b xs (I.base.tups b xs e),λb o xs e=>frzs b o xs (I.base.frzs b o xs e),λb ps e=>?_⟩,?_,λx c e=>?_,?_,λx c e=>?_,λp hp=>?_,hok,I.len⟩
 .exact keep b o (neL b o e) hb (neC b o e hx) (I.base.keep b o e n hb hx) (I.base.free b o e n hx)
 .clear 5(I.base.slot b o e n hb hx)sl e1;clear 5(slot b _ (neL b o e) hb (neC b o e hx) e1 (I.base.free b o e n hx))sl' e2;exact⟨sl',e2⟩
 .clear 5(I.base.there b o e hx)o' e1;exact free b o' (neC b o e hx) e1 (I.base.free b o e n hx)
 .clear 5(I.base.there b o e hx)o' e1;exact there b o' (neC b o e hx) e1
 .clear 5(I.base.tbls b ps e)m1 e1;clear 5(tbls b _ e1)m2 e2;exact⟨m1++m2,by rw[e2,Array.append_assoc]⟩
 .clear 5 I.loc m hn hl;refine⟨m,ns m hn,λi x v e1 e2 e3=>?_⟩;clear 5(hl i x v e1 e2 e3)u r l;refine⟨u,r,?_⟩;rcases l with l|⟨k,c,e,z⟩
  .exact .inl l
  .exact .inr ⟨k,c,e,cellK x c e _ z⟩
 .clear 5(I.cell x c e)v z;exact⟨v,cellK x c e v z⟩
 .obtain⟨m,⟨o,_,_,ho,_⟩,_⟩:=I.loc;exact free _ o (λz=>(hch _ z).2.1 rfl) ho I.free
 .clear 5(I.cell x c e)v o ho hd;exact free c o (λz=>(hch c z).2.2.1 x c e rfl) ho (I.freeC x c e)
 .clear 5(I.pin p hp)e n ne nf d;have nch:p.1∉ch:=λz=>(hch p.1 z).2.2.2 p hp rfl;exact⟨keep p.1 p.2 ne nf nch e n,free p.1 p.2 nch e n,ne,nf,d⟩
theorem Inv.un(I:Inv X fb σ H s)(u:Un X.fs [] H H' s.heap h')(hok:HOk X.prog X.w H' h'):Inv X fb σ H' {s with heap:=h',toks:=t'}:=by
 obtain⟨m,⟨o,es,ep,ho,r⟩,_⟩:=id I.loc;clear 5(u.any ho I.free (by simp))sl hL;exact I.step (g':=s.gens) (d':=s.drawn) (ch:=[]) (λ_ z=>nomatch z) (λb o _ hb _ e n=>u.keep b o e n hb (by simp)) (λb o _ hb _ e n=>u.slot b o e n hb (by simp)) (λb o _ e n=>u.free b o e n (by simp)) (λb o _ e=>u.there b o e (by simp)) u.tups u.frzs u.tbls (λm' hm=>by
  clear 5 hm o' es' ep' ho' r';rw[ho] at ho';cases ho'
  exact⟨_,es',ep',hL,r'⟩) hok I.bare
theorem Inv.call{g':Array GenState}{d':Drawn}{ch:List ff}(I:Inv X fb σ H s)(u:Un (frs X.stack) ch H H' s.heap h')(hok:HOk X.prog X.w H' h')(hg:AllBare g')
 (hch:∀b∈ch,(b∈X.ex\/X.s₀.heap.objs.size<=b)/\b≠X.env.locals/\(∀x c,X.env.cells.lookup x=some c->c≠b)/\∀p∈X.pn++fb,p.1≠b) :
 Inv X fb σ H' {s with heap:=h',gens:=g',drawn:=d',toks:=t'}:=by
 obtain⟨m,⟨o,es,ep,ho,r⟩,_⟩:=id I.loc;obtain⟨sl,hL⟩:=u.any ho I.free λz=>(hch _ z).2.1 rfl;exact I.step (ch:=ch) hch (λb o hL hb hc e n=>u.keep b o e n (λz=>(ul2.mp (I.stkSub b z)).elim hL hb) hc) (λb o _ _ hc e n=>u.any e n hc) (λb o hc e n=>u.free b o e n hc) (λb o hc e=>u.there b o e hc) u.tups u.frzs u.tbls (λm' hm=>by
  clear 5 hm o' es' ep' ho' r';rw[ho] at ho';cases ho'
  exact⟨_,es',ep',hL,r'⟩) hok hg
theorem Inv.turned{it:ff}(I:Inv X fb σ H s)(k:∀b o,b≠it->s.heap.get? b=some o->h'.get? b=some o)(hn:H it=none)(hL:it≠X.env.locals)
 (h1:it∈X.ex\/X.s₀.heap.objs.size<=it) (h2:∀x c,X.env.cells.lookup x=some c->c≠it) (h3:∀p∈X.pn++fb,p.1≠it):Inv X fb σ H {s with heap:=h',toks:=t'}:=by
 have nit:∀b u,H b=some u->b≠it:=λb u e z=>by rw[z,hn] at e;cases e
 refine I.step (g':=s.gens) (d':=s.drawn) (ch:=[it]) (λb hb=>?_) (λb o _ _ hc e _=>k b o (λz=>hc (by simp[z])) e) (λb o _ _ hc e _=>⟨o.slots,k b o (λz=>hc (by simp[z])) e⟩) (λ_ _ _ _ n=>n)
  (λb o hc e=>⟨o,k b o (λz=>hc (by simp[z])) e⟩) (λ_ _ e=>e) (λ_ _ _ e=>e) (λb ps e=>⟨#[],by rw[e];simp⟩) (λm hm=>?_) (λb u e=>?_) I.bare
 .have e:b=it:=by simpa using hb
  subst e;exact⟨h1,hL,h2,h3⟩
 .clear 5 hm o es ep ho r;exact⟨o,es,ep,k _ o (Ne.symm hL) ho,r⟩
 .refine(I.hok b u e).stay (λc v hc q=>k c v ?_ q) (λ_ q=>q) λ_ _ q=>q;rcases hc with z|z
  .rw[z];exact nit b u e
  .exact nit c _ z
theorem Inv.tok(I:Inv X fb σ H s)(t:Nat):Inv X fb σ H {s with toks:=t}:=I.un (h':=s.heap) (t':=t) Un.refl I.hok
theorem Inv.kept{t':Nat}(I:Inv X fb σ H s)(k:∀b u,s.heap.get? b=some u->h'.get? b=some u):Inv X fb σ H {s with heap:=h',toks:=t'}:=I.un (Un.kept k) (I.hok.kept k)
theorem Inv.laid{a:ff}{o:HO}{t':Nat}(I:Inv X fb σ H s)(k:∀b u,s.heap.get? b=some u->h'.get? b=some u)(hp:s.heap.objs.size<=a)(new:ObjOk X.prog X.w (upd H a o) h' a o) :
 Inv X fb σ (upd H a o) {s with heap:=h',toks:=t'}:=I.un (Un.laid k hp (I.hok.fresh hp)) (I.hok.laid k hp new)
theorem Inv.write{x e:ff}{o:HO}{t':Nat}(I:Inv X fb σ H s)(mu:Mut (H x))(he:e=x\/H e=some (.own x))(k:∀b u,b≠e->s.heap.get? b=some u->h'.get? b=some u)(heo:∃u,h'.get? e=some u)
 (new:ObjOk X.prog X.w (upd H x o) h' x o):Inv X fb σ (upd H x o) {s with heap:=h',toks:=t'}:=I.un (Un.write mu he k heo) (I.hok.write mu he k heo new)
theorem Inv.pins_of{pins':List (ff×Obj)}(I:Inv X fb σ H s)(h:∀p∈pins',s.heap.get? p.1=some p.2/\H p.1=none/\p.1≠X.env.locals/\p.1∉X.fs/\∀v,p.2.data≠.cell v):Inv X pins' σ H s:=
 ⟨I.ok,I.os,I.bare,I.base,I.loc,I.cell,I.free,I.freeC,λp hp=>(ui9.mp hp).elim (λz=>I.pin p (ud7 _ z)) (h p),I.hok,I.len⟩
theorem Je{N:List Str}(hN:N.Nodup){i j:Nat}{x:Str}(a:N[i]?=some x)(b:N[j]?=some x):i=j:=by
 clear 5(ua8.mp a)h1 e1;clear 5(ua8.mp b)h2 e2;exact(uh1 hN).mp (e1.trans e2.symm)
theorem Lp{M:Model}{A:Around}(I:Inv X fb σ H s)(hN:X.N.Nodup)(hi:X.N[i]?=some x)(hx:Loc X.env.scope x)(r:RelV v u)
 (h:∀s',Inv X fb (σ.set i (some v)) H s'->(∃a,Heap.SameBut a s.heap s'.heap/\(a=X.env.locals\/X.env.cells.lookup x=some a))->Q () s') (hf:X.fn x=true\/X.env.scope.names.lookup x=some .local:=by walk_at"h"):wpAny M A (storeName X.env x u) Q E s:=by
 clear 5(id I.loc)m hn hl;have hcls:(X.env.scope.kind==.class||(X.env.scope.kind==.module&&X.env.locals != X.env.globals))=false:=by rw[I.ok.kind];rfl
 have hiσ:i < σ.length:=by rw[I.len];exact(ua8.mp hi).1
 have cne:=I.cne;have tracked:∀{a:ff}{h':Heap},(∃o,s.heap.get? a=some o/\H a=none)->Heap.SameBut a s.heap h'->HOk X.prog X.w H h':=λ{a h'} ha hs b ob e=>by
  obtain⟨_,_,hfree⟩:=ha;refine(I.hok b ob e).stay (λc w' hc q=>(hs.2 c ?_).trans q) (λ_ q=>q) λ_ _ q=>q;rintro rfl;rcases hc with rfl|hc
  .rw[hfree] at e;cases e
  .rw[hfree] at hc;cases hc
 rcases hx with hk|hk
 .refine wpAny_storeName_local hk hn (λh' hn' hs=>?_) hcls;obtain⟨oL,_,_,hoL,_⟩:=id hn;refine h _ ⟨I.ok,I.os,I.bare,⟨λb o e n hb hx=>?_,λb o e n hb hx=>?_,I.base.free,λb o e hx=>?_,I.base.tups,I.base.frzs,I.base.tbls⟩,⟨_,hn',λj y v' e1 e2 e3=>?_⟩,λy c e=>?_,I.free,I.freeC,λp hp=>?_,tracked ⟨oL,hoL,I.free⟩ hs,by simpa using I.len⟩ ⟨_,hs,.inl rfl⟩
  .exact(hs.2 b (um2 (uf0 (um1 e) I.ok.above))).trans (I.base.keep b o e n hb hx)
  .clear 5(I.base.slot b o e n hb hx)sl e1;exact⟨sl,(hs.2 b (um2 (uf0 (um1 e) I.ok.above))).trans e1⟩
  .clear 5(I.base.there b o e hx)o' e1;exact⟨o',(hs.2 b (um2 (uf0 (um1 e) I.ok.above))).trans e1⟩
  .by_cases hj:j=i
   .subst hj;rw[hi] at e1;cases e1
    rw[ub8 hiσ] at e2
    cases e2
    exact⟨u,r,.inl ⟨hk,by simp⟩⟩
   .rw[ud8 (Ne.symm hj)] at e2;clear 5(hl j y v' e1 e2 e3)u' r' q;refine⟨u',r',?_⟩;rcases q with⟨k,e⟩|⟨k,c,e,z⟩
    .refine .inl ⟨k,?_⟩;have:y≠x:=λe=>hj (Je hN e1 (e ▸ hi));simp[this,e]
    .exact .inr ⟨k,c,e,z.sameBut hs (cne y c e)⟩
  .clear 5(I.cell y c e)w' z;exact⟨w',z.sameBut hs (cne y c e)⟩
  .clear 5(I.pin p hp)e n ne nf d;exact⟨(hs.2 p.1 ne).trans e,n,ne,nf,d⟩
 .have hfn:X.fn x=true:=by
   rcases hf with z|z
   .exact z
   .rw[z] at hk;cases hk
  clear 5(I.ok.has x (.inl hk))c hc;clear 5(I.cell x c hc)w' z;refine wpAny_storeName_cell I.ok.kind hk hc z (λh' hc' hs=>?_);clear 5(id z)oc hoc hocd;refine h {s with heap:=h'} ⟨I.ok,I.os,I.bare,⟨λb o e n hb hx=>?_,λb o e n hb hx=>?_,I.base.free,λb o e hx=>?_,I.base.tups,I.base.frzs,I.base.tbls⟩,⟨m,hn.sameBut hs (Ne.symm (cne x c hc)),λj y v' e1 e2 e3=>?_⟩,λy c' e=>?_,I.free,I.freeC,λp hp=>?_,tracked ⟨oc,hoc,I.freeC x c hc⟩ hs,by simpa using I.len⟩ ⟨c,hs,.inr hc⟩
  .exact(hs.2 b (um2 (uf0 (um1 e) (I.ok.cab x c hfn hc)))).trans (I.base.keep b o e n hb hx)
  .clear 5(I.base.slot b o e n hb hx)sl e1;exact⟨sl,(hs.2 b (um2 (uf0 (um1 e) (I.ok.cab x c hfn hc)))).trans e1⟩
  .clear 5(I.base.there b o e hx)o' e1;exact⟨o',(hs.2 b (um2 (uf0 (um1 e) (I.ok.cab x c hfn hc)))).trans e1⟩
  .by_cases hj:j=i
   .subst hj;rw[hi] at e1;cases e1
    rw[ub8 hiσ] at e2
    cases e2
    exact⟨u,r,.inr ⟨.inl hk,c,hc,hc'⟩⟩
   .rw[ud8 (Ne.symm hj)] at e2;clear 5(hl j y v' e1 e2 e3)u' r' q;refine⟨u',r',?_⟩;rcases q with q|⟨k,c',e,z'⟩
    .exact .inl q
    .refine .inr ⟨k,c',e,z'.sameBut hs ?_⟩;rintro rfl;exact hj (Je hN e1 (I.ok.inj _ _ _ e hc ▸ hi))
  .by_cases hcc:c'=c
   .subst hcc;exact⟨_,hc'⟩
   .clear 5(I.cell y c' e)w2 z2;exact⟨w2,z2.sameBut hs hcc⟩
  .clear 5(I.pin p hp)e n ne nf d;refine⟨(hs.2 p.1 ?_).trans e,n,ne,nf,d⟩;intro q;rw[q,hoc] at e;have q':oc=p.2:=uj0 e;exact d w' (by rw[<-q'];exact hocd)
theorem Ho{M:Model}{A:Around}(I:Inv X fb σ H s)(hN:X.N.Nodup)(hi:X.N[i]?=some x)(hx:Loc X.env.scope x)(r:RelV v u)
 (h:∀s',Inv X fb (σ.set i (some v)) H s'->Q () s') (hf:X.fn x=true\/X.env.scope.names.lookup x=some .local:=by walk_at"h"):wpAny M A (storeName X.env x u) Q E s:=
 Lp I hN hi hx r (λs' I' _=>h s' I') hf
theorem Inv.call'{s':fg}{ch:List ff}(I:Inv X fb σ H s)(ho:s'.os=s.os)(u:Un (frs X.stack) ch H H' s.heap s'.heap)(hok:HOk X.prog X.w H' s'.heap)(hg:AllBare s'.gens)
 (hch:∀b∈ch,(b∈X.ex\/X.s₀.heap.objs.size<=b)/\b≠X.env.locals/\(∀x c,X.env.cells.lookup x=some c->c≠b)/\∀p∈X.pn++fb,p.1≠b):Inv X fb σ H' s':=by
 clear 5 s' h' g' d' t' o';have e:o'=s.os:=ho;subst e;exact I.call (g':=g') (t':=t') (d':=d') u hok hg hch
end
abbrev XK:=fc->Option ff->Hp->Prop
abbrev St:=List (Option V)
abbrev VK:=V->Hp->Prop
abbrev TE:=St->Hp->VK->Prop
abbrev TT:=St->Hp->(Bool->Hp->Prop)->Prop
abbrev TA:=St->Hp->(List V->Hp->Prop)->Prop
structure Ends where
 nx:St->Hp->Prop
 rt:VK
 bk:St->Hp->Prop:=λ_ _=>False
 ct:St->Hp->Prop:=λ_ _=>False
abbrev TS:=Ends->St->Hp->Prop
inductive EP(X:Cx)(fb:List (ff×Obj))(σ:St)(Q:VK)(u:fc)(s':fg):Prop where
 |mk (v:V) (H':Hp) (i:Inv X fb σ H' s') (r:RelV v u) (q:Q v H'):EP X fb σ Q u s'
inductive TP(X:Cx)(fb:List (ff×Obj))(σ:St)(Q:Bool->Hp->Prop)(b:Bool)(s':fg):Prop where
 |mk (H':Hp) (i:Inv X fb σ H' s') (q:Q b H'):TP X fb σ Q b s'
inductive AP(X:Cx)(fb:List (ff×Obj))(σ:St)(Q:List V->Hp->Prop)(us:List fc)(s':fg):Prop where
 |mk (vs:List V) (H':Hp) (i:Inv X fb σ H' s') (r:Vals vs us) (q:Q vs H'):AP X fb σ Q us s'
def SP(X:Cx)(fb:List (ff×Obj))(D:Ends)(f:Flow)(s':fg):Prop:=
 match f with
 |.next=>∃σ' H',Inv X fb σ' H' s'/\D.nx σ' H'
 |.brk=>∃σ' H',Inv X fb σ' H' s'/\D.bk σ' H'
 |.cont=>∃σ' H',Inv X fb σ' H' s'/\D.ct σ' H'
 |.ret u=>∃v σ' H',Inv X fb σ' H' s'/\RelV v u/\D.rt v H'
def PE(X:Cx)(e:Expr)(t:TE):Prop:=
 ∀(fb:List (ff×Obj)) (s:fg) (σ:St) (H:Hp) (Q:VK),Inv X fb σ H s->t σ H Q->wpAny (model X.prog X.w) X.A (eval e X.env) (EP X fb σ Q) X.xe s
def PT(X:Cx)(e:Expr)(t:TT):Prop:=
 ∀(fb:List (ff×Obj)) (s:fg) (σ:St) (H:Hp) (Q:Bool->Hp->Prop),Inv X fb σ H s->t σ H Q->wpAny (model X.prog X.w) X.A (isTrue e X.env (eval e X.env)) (TP X fb σ Q) X.xe s
def PW(X:Cx)(e:Expr)(t:TT):Prop:=
 ∀(whole:Sem fc) (fb:List (ff×Obj)) (s:fg) (σ:St) (H:Hp) (Q:Bool->Hp->Prop),Inv X fb σ H s->t σ H Q->wpAny (model X.prog X.w) X.A (isTrue e X.env whole) (TP X fb σ Q) X.xe s
variable{X:Cx}{e:Expr}
theorem PW.pt{t:TT}(h:PW X e t):PT X e t:=h _
def PA(X:Cx)(es:List Expr)(t:TA):Prop:=
 ∀(pos:Pos) (fb:List (ff×Obj)) (s:fg) (σ:St) (H:Hp) (Q:List V->Hp->Prop),Inv X fb σ H s->t σ H Q->wpAny (model X.prog X.w) X.A (spliced (backTo pos (starEach es X.env))) (AP X fb σ Q) X.xe s
def PS(X:Cx)(st:Stmt)(t:TS):Prop:=
 ∀(fb:List (ff×Obj)) (s:fg) (σ:St) (H:Hp) (D:Ends),Inv X fb σ H s->t D σ H->wpAny (model X.prog X.w) X.A (exec st X.env) (SP X fb D) X.xe s
def PSs(X:Cx)(st:List Stmt)(t:TS):Prop:=
 ∀(fb:List (ff×Obj)) (s:fg) (σ:St) (H:Hp) (D:Ends),Inv X fb σ H s->t D σ H->wpAny (model X.prog X.w) X.A (execs st X.env) (SP X fb D) X.xe s
variable{s:fg}
theorem thn{α:Type}{t:Sem α}{Q Q':α->fg->Prop}{M:Model}{A:Around}(h:wpAny M A t Q E s)(hQ:∀a s,Q a s->Q' a s):wpAny M A t Q' E s:=uo2 h hQ λ_ _ x=>x
variable{fb:List (ff×Obj)}{σ:St}{c:Expr}
section
variable{X:Cx}
def Zm(i:Nat):TE:=λσ H Q=>∃v,σ[i]?=some (some v)/\Q v H
def tC(v:V):TE:=λ_ H Q=>Q v H
theorem E4{pos:Pos}(hN:X.N[i]?=some x)(hv:Vis X.env.scope x)(hd:(x==("__debug__":Str))=false:=by decide)(hcd:(x==("__classdict__":Str))=false:=by decide):PE X (.Name x pos) (Zm i):=by
 intro fb s σ H Q I h;clear 5 h v e h;clear 5 I.loc m hn hl;clear 5(hl i x v hN e hv)u r l;have fin:EP X fb σ Q u s:=⟨v,H,I,r,h⟩;rcases l with⟨hk,hm⟩|⟨hk,c,hc,hcell⟩
 .exact wpAny_Name (wpAny_loadName_local I.ok.kind hk hn hm fin) hd
 .rcases hk with hk|hk
  .exact wpAny_Name (wpAny_loadName_cell I.ok.kind hk hc hcell fin) hd
  .exact wpAny_Name (wpAny_loadName_free I.ok.kind hk hc hcell fin hcd) hd
theorem YI{i j pos}:PE X (.Constant (.int i) j pos) (tC (.int i)):=λ_ _ _ H _ I h=>wpAny_Constant_int ⟨.int i,H,I.tok _,⟨_,rfl⟩,h⟩
theorem Z2{b j pos}:PE X (.Constant (.bool b) j pos) (tC (.bl b)):=λ_ _ _ H _ I h=>Constant_bool ⟨.bl b,H,I,rfl,h⟩
theorem YK{j pos}:PE X (.Constant .none j pos) (tC .non):=λ_ _ _ H _ I h=>Constant_none ⟨.non,H,I,rfl,h⟩
theorem Rj{x j pos}:PE X (.Constant (.str x) j pos) (tC (.str x)):=λ_ _ _ H _ I h=>Calls.Constant_str ⟨.str x,H,I.tok _,⟨_,rfl⟩,h⟩
def Gl(X:Cx)(x:Str):Prop:=X.env.kindOf x=some .globalImplicit
theorem EM{pos:Pos}{Q:fc->fg->Prop}(I:Inv X fb σ H s)(hg:Gl X x)(hm:X.mg x=some u)(h:Q u s)
 (hd:(x==("__debug__":Str))=false:=by decide):wpAny (model X.prog X.w) X.A (eval (.Name x pos) X.env) Q E s:=
 fq I.ok.kind hg (Calls.loadGlobal_global (by rw[I.ok.glob];exact I.mod.glob.keeps I.bk) hm h) hd
theorem GC{pos:Pos}{Q:fc->fg->Prop}(I:Inv X fb σ H s)(hg:Gl X x)(hm:X.mg x=none)(hv:bootBuiltins x=some u)(h:Q u s)
 (hn:x≠"__name__":=by decide) (hd:(x==("__debug__":Str))=false:=by decide):wpAny (model X.prog X.w) X.A (eval (.Name x pos) X.env) Q E s:=by
 clear 5 I.mod.blt mb h1 h2;exact fq I.ok.kind hg (Calls.loadGlobal_builtin (by rw[I.ok.glob];exact I.mod.glob.keeps I.bk) hm (by rw[I.ok.blt];exact h1.keeps I.bk) ((h2 x hn).trans hv) h) hd
theorem Oa{pos:Pos}(hg:Gl X x)(hm:X.mg x=some u)(r:RelV v u)(hd:(x==("__debug__":Str))=false:=by decide):PE X (.Name x pos) (tC v):=
 λ_ _ _ H _ I h=>EM I hg hm ⟨v,H,I,r,h⟩ hd
theorem Wa{pos:Pos}(hg:Gl X x)(hm:X.mg x=none)(hv:bootBuiltins x=some u)(r:RelV v u)(hn:x≠"__name__":=by decide)(hd:(x==("__debug__":Str))=false:=by decide):PE X (.Name x pos) (tC v):=
 λ_ _ _ H _ I h=>GC I hg hm hv ⟨v,H,I,r,h⟩ hn hd
variable{a b:Expr}{ta tb:TE}{pos:Pos}
def tB(t:TE):TT:=λσ H Q=>t σ H λx H1=>∃c,x=.bl c/\Q c H1
theorem YV{t:TE}(h:PE X e t)(he:∀whole,isTrue e X.env whole=(do let v <-whole;standAt e.pos;holding [v] (truthy v)):=by intro _;rfl):PT X e (tB t):=by
 intro fb s σ H Q I hw;refine isTrue_plain (thn (h fb s σ H _ I hw) λv s1 z9=>?_) (he _);clear 5 z9 x H1 I1 r1 q1;clear 5 q1 d rfl q
 cases r1
 exact gh ⟨H1,I1,q⟩
variable{tA tB':TT}{rest:List Expr}
def bQ(t u:TT):TT:=λσ H Q=>t σ H λc H1=>if c=true then u σ H1 Q else Q false H1
def tOr(t u:TT):TT:=λσ H Q=>t σ H λc H1=>if c=true then Q true H1 else u σ H1 Q
def bX(t:TT):TT:=λσ H Q=>t σ H λc H1=>Q (!c) H1
theorem Wx(ha:PT X a tA):PW X (.BoolOp .And [a] pos) tA:=by
 intro wh fb s σ H Q I h;refine isTrue_and (thn (ha fb s σ H Q I h) λc s1 e=>?_)
 cases c with
 |true=>exact isTrue_and_nil e
 |false=>exact e
theorem YX(ha:PT X a tA):PW X (.BoolOp .Or [a] pos) tA:=by
 intro wh fb s σ H Q I h;refine isTrue_or (thn (ha fb s σ H Q I h) λc s1 e=>?_)
 cases c with
 |false=>exact isTrue_or_nil e
 |true=>exact e
theorem YW(ha:PT X a tA)(hb:PW X (.BoolOp .And (b::rest) pos) tB'):PW X (.BoolOp .And (a::b::rest) pos) (bQ tA tB'):=by
 intro wh fb s σ H Q I h;refine isTrue_and (thn (ha fb s σ H _ I h) λc s1 z9=>?_);clear 5 z9 H1 I1 q1
 cases c with
 |true=>exact hb wh fb s1 σ H1 Q I1 q1
 |false=>exact⟨H1,I1,q1⟩
theorem Z9(ha:PT X a tA)(hb:PW X (.BoolOp .Or (b::rest) pos) tB'):PW X (.BoolOp .Or (a::b::rest) pos) (tOr tA tB'):=by
 intro wh fb s σ H Q I h;refine isTrue_or (thn (ha fb s σ H _ I h) λc s1 z9=>?_);clear 5 z9 H1 I1 q1
 cases c with
 |true=>exact⟨H1,I1,q1⟩
 |false=>exact hb wh fb s1 σ H1 Q I1 q1
theorem YU(ha:PT X a tA):PT X (.UnaryOp .Not a pos) (bX tA):=by
 intro fb s σ H Q I h;refine isTrue_not (thn (ha fb s σ H (λc H1=>Q (!c) H1) I h) λc s1 z=>?_);clear 5 z H1 I1 q1;exact⟨H1,I1,q1⟩
def ah(ta tb:TE):TE:=λσ H Q=>ta σ H λx H1=>∃c,x=.bl c/\if c=true then tb σ H1 Q else Q (.bl false) H1
def bY(ta tb:TE):TE:=λσ H Q=>ta σ H λx H1=>∃c,x=.bl c/\if c=true then Q (.bl true) H1 else tb σ H1 Q
def ao(ta:TE):TE:=λσ H Q=>ta σ H λx H1=>∃c,x=.bl c/\Q (.bl (!c)) H1
theorem YM{op}{t:TE}(h:PE X a t):PE X (.BoolOp op [a] pos) t:=λfb s σ H Q I hw=>BoolOp_one (h fb s σ H Q I hw)
theorem YG(ha:PE X a ta)(hb:PE X (.BoolOp .And (b::rest) pos) tb):PE X (.BoolOp .And (a::b::rest) pos) (ah ta tb):=by
 intro fb s σ H Q I h;refine BoolOp_and (thn (ha fb s σ H _ I h) λv s1 z9=>?_);clear 5 z9 x H1 I1 r1 q1;clear 5 q1 c rfl q1
 cases r1
 refine gh ?_
 cases c with
 |true=>exact hb fb s1 σ H1 Q I1 q1
 |false=>exact⟨.bl false,H1,I1,rfl,q1⟩
theorem Z3(ha:PE X a ta)(hb:PE X (.BoolOp .Or (b::rest) pos) tb):PE X (.BoolOp .Or (a::b::rest) pos) (bY ta tb):=by
 intro fb s σ H Q I h;refine BoolOp_or (thn (ha fb s σ H _ I h) λv s1 z9=>?_);clear 5 z9 x H1 I1 r1 q1;clear 5 q1 c rfl q1
 cases r1
 refine gh ?_
 cases c with
 |false=>exact hb fb s1 σ H1 Q I1 q1
 |true=>exact⟨.bl true,H1,I1,rfl,q1⟩
theorem YL(ha:PE X a ta):PE X (.UnaryOp .Not a pos) (ao ta):=by
 intro fb s σ H Q I h;refine UnaryOp_ (thn (ha fb s σ H _ I h) λv s1 z9=>?_);clear 5 z9 x H1 I1 r1 q1;clear 5 q1 c rfl q1
 cases r1
 exact not_of (gh ⟨.bl (!c),H1,I1,rfl,q1⟩)
def tIf(t:TT)(ta tb:TE):TE:=λσ H Q=>t σ H λc H1=>if c=true then ta σ H1 Q else tb σ H1 Q
theorem TF(hc:PT X c tA)(ha:PE X a ta)(hb:PE X b tb):PE X (.IfExp c a b pos) (tIf tA ta tb):=by
 intro fb s σ H Q I h;refine wpAny_IfExp (thn (hc fb s σ H _ I h) λd s1 z9=>?_);clear 5 z9 H1 I1 q1
 cases d with
 |true=>exact ha fb s1 σ H1 Q I1 q1
 |false=>exact hb fb s1 σ H1 Q I1 q1
end
noncomputable def SqL(K:eh)(H:Hp)(a:ff)(xs:List V):Prop:=
 Rd H a (.lst xs)\/
  ∃(o:Obj) (its:Array fc) (n:Nat),K.lookup a=some o/\o.cls=.type "list"/\o.dict=none/\o.data=.seq its n/\its.size<=sizeLine/\Vals xs its.toList
noncomputable def SqT(K:eh)(H:Hp)(a:ff)(xs:List V):Prop:=
 Rd H a (.tup xs)\/
  ∃(o:Obj) (its:Array fc) (n:Nat),K.lookup a=some o/\o.cls=.type "tuple"/\o.data=.seq its n/\its.size<=sizeLine/\Vals xs its.toList
noncomputable def bC:fc->Option V
 |.none=>some .non
 |.bool b=>some (.bl b)
 |.int i _=>some (.int i)
 |.str x _=>some (.str x)
 |.bytes b _=>some (.byt b)
 |.float b _=>some (.flt b)
 |.ref a=>some (.ref a)
 |.type n=>some (.ty n)
 |_=>none
theorem RelV.abs{x:V}(r:RelV x u):bC u=some x:=by
 cases x with
 |non=>cases r;rfl
 |bl _=>cases r;rfl
 |int _=>clear 5 r t rfl;rfl
 |str _=>clear 5 r t rfl;rfl
 |byt _=>clear 5 r t rfl;rfl
 |flt _=>clear 5 r t rfl;rfl
 |ref _=>cases r;rfl
 |ty _=>cases r;rfl
theorem RelV.inj{x y:V}{u:fc}(r:RelV x u)(q:RelV y u):x=y:=uj0 (r.abs.symm.trans q.abs)
theorem Vals.inj{xs ys:List V}{us:List fc}(a:Vals xs us)(b:Vals ys us):xs=ys:=by
 cases a with
 |nil=>
   cases b
   rfl
 |cons r t=>
   cases b with
   |cons r' t'=>rw[r.inj r',Vals.inj t t']
variable{K:eh}
section
variable{X:Cx}{fb:List (ff×Obj)}{σ:St}{H:Hp}{s:fg}{a:ff}{xs ys:List V}
theorem SqL.of(h:H a=some (.lst xs)):SqL K H a xs:=.inl (.inl h)
theorem SqT.of(h:H a=some (.tup xs)):SqT K H a xs:=.inl (.inl h)
theorem Inv.list(I:Inv X fb σ H s)(h:SqL X.K H a xs):∃its:List fc,Vals xs its/\PlainL s.heap a its.toArray/\xs.length<=sizeLine:=by
 rcases h with h|⟨o,its,n,hk,hc,hd,hs,hz,r⟩
 .clear 5(h.ok I.hok)z its n r e;exact⟨its,r,⟨_,n,e,rfl,rfl,rfl⟩,z⟩
 .refine⟨its.toList,r,⟨o,n,I.kIn a o hk,hc,hd,by simpa using hs⟩,?_⟩;have e:=r.length;simp only[ue3] at e;lia
theorem Inv.tuple(I:Inv X fb σ H s)(h:SqT X.K H a xs):∃its:List fc,Vals xs its/\IsTup s.heap a its.toArray/\xs.length<=sizeLine:=by
 rcases h with h|⟨o,its,n,hk,hc,hs,hz,r⟩
 .clear 5(h.ok I.hok)z its r p;exact⟨its,r,p,z⟩
 .refine⟨its.toList,r,⟨o,I.kIn a o hk,hc,n,by simpa using hs⟩,?_⟩;have e:=r.length;simp only[ue3] at e;lia
theorem Inv.list_inj(I:Inv X fb σ H s)(h:SqL X.K H a xs)(h':SqL X.K H a ys):xs=ys:=by
 obtain⟨its,r,⟨o,n,e,_,_,d⟩,_⟩:=I.list h;obtain⟨its',r',⟨o',n',e',_,_,d'⟩,_⟩:=I.list h';rw[e] at e';cases e'
 rw[d] at d';injection d' with d1 _
 have:its=its':=by simpa using gP Array.toList d1
 subst this;exact r.inj r'
theorem Inv.tuple_inj(I:Inv X fb σ H s)(h:SqT X.K H a xs)(h':SqT X.K H a ys):xs=ys:=by
 obtain⟨its,r,⟨o,e,_,n,d⟩,_⟩:=I.tuple h;obtain⟨its',r',⟨o',e',_,n',d'⟩,_⟩:=I.tuple h';rw[e] at e';cases e'
 rw[d] at d';injection d' with d1 _
 have:its=its':=by simpa using gP Array.toList d1
 subst this;exact r.inj r'
end
abbrev Cx.wish(X:Cx)(E:fc->fg->Prop):Cx:={X with xe:=E}
abbrev Cx.nox(X:Cx):Cx:=X.wish λ_ _=>False
theorem Cx.Ok.wish{X:Cx}(ok:X.Ok)(E:fc->fg->Prop):(X.wish E).Ok:=
 ⟨ok.mod,ok.kind,ok.glob,ok.blt,ok.above,ok.inj,ok.has,ok.cab,ok.hd,ok.frames,ok.stk,ok.exf,ok.bs,ok.bsz,ok.noex,ok.exfs,ok.funs,ok.frf⟩
theorem Cx.Ok.unwish(ok:(X.wish E).Ok):X.Ok:=
 ⟨ok.mod,ok.kind,ok.glob,ok.blt,ok.above,ok.inj,ok.has,ok.cab,ok.hd,ok.frames,ok.stk,ok.exf,ok.bs,ok.bsz,ok.noex,ok.exfs,ok.funs,ok.frf⟩
section
variable{X:Cx}{fb:List (ff×Obj)}{σ:St}{H:Hp}{s:fg}{E:fc->fg->Prop}
theorem Inv.wish(I:Inv X fb σ H s)(E:fc->fg->Prop):Inv (X.wish E) fb σ H s:=⟨I.ok.wish E,I.os,I.bare,I.base,I.loc,I.cell,I.free,I.freeC,I.pin,I.hok,I.len⟩
theorem Inv.unwish(I:Inv (X.wish E) fb σ H s):Inv X fb σ H s:=⟨I.ok.unwish,I.os,I.bare,I.base,I.loc,I.cell,I.free,I.freeC,I.pin,I.hok,I.len⟩
theorem SP.unwish{D:Ends}{f:Flow}{s':fg}(h:SP (X.wish E) fb D f s'):SP X fb D f s':=by
 cases f with
 |next=>clear 5 h σ' H' I q;exact⟨σ',H',I.unwish,q⟩
 |brk=>clear 5 h σ' H' I q;exact⟨σ',H',I.unwish,q⟩
 |cont=>clear 5 h σ' H' I q;exact⟨σ',H',I.unwish,q⟩
 |ret u=>clear 5 h v σ' H' I r q;exact⟨v,σ',H',I.unwish,r,q⟩
theorem PSs.nox{st:List Stmt}{t:TS}(h:PSs X.nox st t):PSs X st t:=λfb s σ H D I hw=>
 uo2 (h fb s σ H D (I.wish _) hw) (λ_ _ q=>q.unwish) λ_ _ z=>False.elim z
end
section
variable{X:Cx}{st:Stmt}{rest:List Stmt}{t u:TS}{e:Expr}{te:TE}{pos:Pos}
def UP:TS:=λD σ H=>D.nx σ H
def b7(t u:TS):TS:=λD σ H=>t {D with nx:=u D} σ H
theorem Wt:PSs X [] UP:=λ_ _ σ H _ I h=>gm ⟨σ,H,I,h⟩
theorem TR(h1:PS X st t)(h2:PSs X rest u):PSs X (st::rest) (b7 t u):=by
 intro fb s σ H D I h;refine wpAny_execs_cons (thn (h1 fb s σ H {D with nx:=u D} I h) λf s1 q=>?_)
 cases f with
 |next=>
   clear 5 q σ' H' I' q;exact h2 fb s1 σ' H' D I' q
 |ret v=>exact q
 |brk=>exact q
 |cont=>exact q
theorem Od(h1:PS X st t):PSs X [st] t:=by
 intro fb s σ H D I h;refine wpAny_execs_cons (thn (h1 fb s σ H D I h) λf s1 q=>?_)
 cases f with
 |next=>exact gm q
 |ret v=>exact q
 |brk=>exact q
 |cont=>exact q
theorem Wq:PS X (.Pass pos) UP:=λ_ _ σ H _ I h=>wpAny_Pass ⟨σ,H,I,h⟩
theorem Inv.quiet(I:Inv X fb σ H s):interactive X.env=false:=by simp[interactive,I.ok.kind]
def UO(te:TE):TS:=λD σ H=>te σ H λ_ H1=>D.nx σ H1
theorem KM(he:PE X e te)(hs:swapsWith e none pos.line X.env=pure false:=by rfl):PS X (.Expr e pos) (UO te):=by
 intro fb s σ H D I h;exact wpAny_Expr_any (thn (he fb s σ H _ I h) λv s1 z9=>by clear 5 z9 x H1 I1 r1 q1;exact⟨σ,H1,I1,q1⟩) I.quiet hs
def bZ(te:TE):TS:=λD σ H=>te σ H D.rt
theorem Ih(he:PE X e te):PS X (.Return (some e) pos) (bZ te):=by
 intro fb s σ H D I h;exact wpAny_Return_some (thn (he fb s σ H _ I h) λv s1 z9=>by clear 5 z9 x H1 I1 r1 q1;exact⟨x,σ,H1,I1,r1,q1⟩)
def bU(c:TT)(t u:TS):TS:=λD σ H=>c σ H λb H1=>if b=true then t D σ H1 else u D σ H1
theorem Z8{a b:List Stmt}{tc:TT}(hc:PT X c tc)(ha:PSs X a t)(hb:PSs X b u):PS X (.If c a b pos) (bU tc t u):=by
 intro fb s σ H D I h;refine wpAny_If (thn (hc fb s σ H _ I h) λd s1 z9=>?_);clear 5 z9 H1 I1 q1
 cases d with
 |true=>exact ha fb s1 σ H1 D I1 q1
 |false=>exact hb fb s1 σ H1 D I1 q1
end
abbrev TG:=V->St->Hp->(St->Hp->Prop)->Prop
abbrev TGs:=List V->St->Hp->(St->Hp->Prop)->Prop
def PG(X:Cx)(target:Expr)(t:TG):Prop:=
 ∀(fb:List (ff×Obj)) (s:fg) (σ:St) (H:Hp) (v:V) (u:fc) (Q:St->Hp->Prop),Inv X fb σ H s->RelV v u->t v σ H Q->
  wpAny (model X.prog X.w) X.A (assign target X.env u) (λ_ s'=>∃σ' H',Inv X fb σ' H' s'/\Q σ' H') X.xe s
def PGs(X:Cx)(ts:List Expr)(t:TGs):Prop:=
 ∀(fb:List (ff×Obj)) (s:fg) (σ:St) (H:Hp) (vs:List V) (us:List fc) (Q:St->Hp->Prop),Inv X fb σ H s->Vals vs us->t vs σ H Q->
  wpAny (model X.prog X.w) X.A (assignInOrder ((assignEach ts X.env).map (·.2)) us) (λ_ s'=>∃σ' H',Inv X fb σ' H' s'/\Q σ' H') X.xe s
abbrev Sv:=V->V->V->Hp->(Hp->Prop)->Prop
def Su(X:Cx)(t:Sv):Prop:=
 ∀(fb:List (ff×Obj)) (s:fg) (σ:St) (H:Hp) (o i v:V) (ov iv u:fc) (Q:Hp->Prop),Inv X fb σ H s->RelV o ov->RelV i iv->RelV v u->t o i v H Q->
  wpAny (model X.prog X.w) X.A (setItem ov iv u) (λ_ s'=>∃H',Inv X fb σ H' s'/\Q H') X.xe s
variable{tg:Expr}
section
variable{X:Cx}{pos:Pos}
def JN(i:Nat):TG:=λv σ H Q=>Q (σ.set i (some v)) H
theorem Wh(hN:X.N.Nodup)(hi:X.N[i]?=some x)(hx:Loc X.env.scope x)(hf:X.fn x=true\/X.env.scope.names.lookup x=some .local:=by walk_at"h"):PG X (.Name x pos) (JN i):=by
 intro fb s σ H v u Q I r h;exact wpAny_assign_Name (Ho I hN hi hx r (λs' I'=>⟨_,H,I',h⟩) hf)
def bH:TGs:=λvs σ H Q=>vs=[]/\Q σ H
def UF(t:TG)(u:TGs):TGs:=λvs σ H Q=>∃v r,vs=v::r/\t v σ H λσ' H'=>u r σ' H' Q
theorem Wi:PGs X [] bH:=by
 intro fb s σ H vs us Q I r h;clear 5 h e h;subst e
 cases r
 exact assignInOrder_nil ⟨σ,H,I,h⟩
theorem TJ{es:List Expr}{t:TG}{u:TGs}(h1:PG X e t)(h2:PGs X es u)
 (hs:(assignEach (e::es) X.env).map (·.2)=assign e X.env::(assignEach es X.env).map (·.2):=by rfl):PGs X (e::es) (UF t u):=by
 intro fb s σ H vs us Q I r h;clear 5 h v vr e1 h;subst e1
 cases r with
 |cons r rr=>
   rw[hs];refine assignInOrder_cons (thn (h1 fb s σ H _ _ _ I r h) λ_ s1 z9=>?_);clear 5 z9 σ1 H1 I1 q1;exact h2 fb s1 σ1 H1 _ _ Q I1 rr q1
def bK(K:eh)(n:Nat)(t:TGs):TG:=λv σ H Q=>∃a xs,v=.ref a/\SqT K H a xs/\xs.length=n/\t xs σ H Q
theorem YQ{es:List Expr}{k:Nat}{t:TGs}{n:Nat}(hc:X.calm=true)(h:PGs X es t)
 (hn:(assignEach es X.env).length=n:=by rfl) (hst:(assignEach es X.env).findIdx? (·.1)=none:=by rfl):PG X (.Tuple es k pos) (bK X.K n t):=by
 intro fb s σ H v u Q I r hw;clear 5 hw a xs e1 hq hl hw;subst e1
 cases r
 clear 5(I.tuple hq)its rv ht hz;refine assign_Tuple_tuple (I.ok.hd hc) ht (by simp[hn,<-hl,rv.length]) hst λh' hx=>?_;have I1:Inv X fb σ H {s with heap:=h'}:=I.kept (t':=s.toks) λb o e=>hx b o (um2 (um1 e)) e;exact h fb _ σ H xs _ Q I1 (by simpa using rv) hw
def bJ(to ti:TE)(t:Sv):TG:=λv σ H Q=>to σ H λo H1=>ti σ H1 λi H2=>t o i v H2 λH3=>Q σ H3
theorem MS{o i:Expr}{to ti:TE}{t:Sv}(ho:PE X o to)(hi:PE X i ti)(hs:Su X t)
 (ha:∀v,assign (.Subscript o i pos) X.env v=(do
   let ov <-holding [v] (eval o X.env)
   let iv <-holding [v,ov] (eval i X.env)
   standAt pos
   holding [v,ov,iv] (setItem ov iv v)
   release [v,ov,iv] []):=by intro _;rfl):PG X (.Subscript o i pos) (bJ to ti t):=by
 intro fb s σ H v u Q I r h;rw[ha];refine uo0 (um0 (thn (ho fb s σ H _ I h) λov s1 z9=>?_));clear 5 z9 x H1 I1 r1 q1;refine uo0 (um0 (thn (hi fb s1 σ H1 _ I1 q1) λiv s2 z9=>?_));clear 5 z9 y H2 I2 r2 q2;refine uo0 (gy (uo0 (um0 (thn (hs fb s2 σ H2 x y v ov iv u _ I2 r1 r2 r q2) λ_ s3 z9=>?_))));clear 5 z9 H3 I3 q3;exact wpAny_release ⟨σ,H3,I3,q3⟩
def Ng(te:TE)(g:TG):TS:=λD σ H=>te σ H λx H1=>g x σ H1 D.nx
theorem Rn{te:TE}{g:TG}(he:PE X e te)(hg:PG X tg g)(hs:swapsWithSole [tg] e pos.line X.env=pure false:=by rfl)(hw:swappedStores [tg] e X.env=pure none:=by rfl)
 (h1:(assignEach [tg] X.env).map (·.2)=[assign tg X.env]:=by rfl):PS X (.Assign [tg] e pos) (Ng te g):=by
 intro fb s σ H D I h;refine wpAny_Assign_stores (thn (he fb s σ H _ I h) λv s1 z9=>?_) hs hw;clear 5 z9 x H1 I1 r1 q1;rw[h1];exact thn (hg fb s1 σ H1 x v _ I1 r1 q1) λ_ s2 q=>q
theorem MU{te:TE}{pos':Pos}(hN:X.N.Nodup)(hi:X.N[i]?=some x)(hx:Loc X.env.scope x)(he:PE X e te)(hs:swapsWith e (some (.Name x pos')) pos.line X.env=pure false:=by rfl)(hf:X.fn x=true\/X.env.scope.names.lookup x=some .local:=by walk_at"h") :
 PS X (.Assign [.Name x pos'] e pos) (Ng te (JN i)):=by
 intro fb s σ H D I h;refine wpAny_Assign_Name (thn (he fb s σ H _ I h) λv s1 z9=>?_) hs;clear 5 z9 y H1 I1 r1 q1;exact Ho I1 hN hi hx r1 (λs2 I2=>⟨_,H1,I2,q1⟩) hf
end
section
variable{X:Cx}{pos:Pos}
def R0(c:TT)(tb:TS):TS:=λD σ H=>∃W:Nat->St->Hp->Prop,(∃m,W m σ H)/\∀m σ H,W m σ H->
 c σ H λb H1=>if b=true then ∃N:St->Hp->Prop,(∀σ' H',N σ' H'->∃m',m'<m/\W m' σ' H')/\tb {D with nx:=N,ct:=N,bk:=D.nx} σ H1 else D.nx σ H1
theorem TQ{body:List Stmt}{tc:TT}{tb:TS}(hp:PassesOwn (model X.prog X.w) X.A X.env X.xe)(hc:PT X c tc)(hb:PSs X body tb):PS X (.While c body [] pos) (R0 tc tb):=by
 intro fb s σ H D I h;obtain⟨W,⟨m0,w0⟩,turn⟩:=h;refine wpAny_While (codeAny_whileLoop (λn s'=>∃σ' H',Inv X fb σ' H' s'/\W n σ' H') ?_ m0 ⟨σ,H,I,w0⟩);rintro n s1 ⟨σ1,H1,I1,w1⟩;refine gn hp (thn (hc fb s1 σ1 H1 _ I1 (turn n σ1 H1 w1)) λb s2 z9=>?_);clear 5 z9 H2 I2 q2
 cases b with
 |true=>
   clear 5 q2 N hN q2;rw[gW rfl];refine gn hp (thn (hb fb s2 σ1 H2 _ I2 q2) λf s3 q3=>?_)
   cases f with
   |next=>
     clear 5 q3 σ3 H3 I3 n3;clear 5(hN σ3 H3 n3)m' hm w3;exact⟨m',hm,σ3,H3,I3,w3⟩
   |cont=>
     clear 5 q3 σ3 H3 I3 n3;clear 5(hN σ3 H3 n3)m' hm w3;exact⟨m',hm,σ3,H3,I3,w3⟩
   |brk=>exact q3
   |ret v=>exact q3
 |false=>
   rw[gX uf2];exact gm ⟨σ1,H2,I2,q2⟩
end
structure It where
 go:Nat->Hp->Prop
 yld:Nat->Hp->V->Hp->Prop
 stop:Nat->Hp->Prop
def FpOk(X:Cx)(fb:List (ff×Obj))(H:Hp)(b:ff):Prop:=
 H b=none/\b≠X.env.locals/\b∉X.fs/\(b∈X.ex\/X.s₀.heap.objs.size<=b)/\(∀x c,X.env.cells.lookup x=some c->c≠b)/\∀p∈X.pn++fb,p.1≠b
theorem Inv.fpOk{H':Hp}(I:Inv X fb σ H s)(hb:s.heap.objs.size<=b)(hn:H' b=none):FpOk X fb H' b:=by
 refine⟨hn,um5 (uf0 I.lt hb),I.nofs hb,.inr (um3 I.sz hb),λx c e z=>?_,λp hp z=>?_⟩
 .clear 5(I.cell x c e)v q;exact absurd (uf0 q.lt (by rw[z];exact hb)) (ul1 _)
 .exact absurd (uf0 (um1 (I.pin p hp).1) (by rw[z];exact hb)) (ul1 _)
structure Turn(P:fh)(w:fj)(K:eh)(tg:Expr)(J:It)(fp:List ff)(it:ff)(tn:Nat->Heap->Prop):Prop where
 mem:it∈fp
 obj:∀i h,tn i h->∀b∈fp,∃o,h.get? b=some o/\∀v,o.data≠.cell v
 keep:∀i h h',tn i h->(∀b∈fp,∀o,h.get? b=some o->h'.get? b=some o)->tn i h'
 item:∀(X:Cx),X.prog=P->X.w=w->X.K=K->X.calm=true->∀(i:Nat) (fb:List (ff×Obj)) (s:fg) (σ:St) (H:Hp) (E:fc->fg->Prop),Inv X fb σ H s->(∀b∈fp,FpOk X fb H b)->tn i s.heap->J.go i H->
  wpAny (model P w) X.A (pyNext (.ref it)) (λr s1=>∃u,r=some u/\
   wpAny (model P w) X.A (letOwnedTupleGo tg (.ref it) u) (λ_ s2=>∃x H',Inv X fb σ H' s2/\RelV x u/\J.yld i H x H'/\tn (i+1) s2.heap/\∀b∈fp,H' b=none) E s1) E s
 done:∀(X:Cx),X.prog=P->X.w=w->X.K=K->X.calm=true->∀(i:Nat) (fb:List (ff×Obj)) (s:fg) (σ:St) (H:Hp) (E:fc->fg->Prop),Inv X fb σ H s->(∀b∈fp,FpOk X fb H b)->tn i s.heap->J.stop i H->
  wpAny (model P w) X.A (pyNext (.ref it)) (λr s1=>r=none/\Inv X fb σ H s1) E s
 self:∀(A:Around) (i:Nat) (s:fg) (Q:fc->fg->Prop) (E:fc->fg->Prop),tn i s.heap->Q (.ref it) s->wpAny (model P w) A (pyIter (.ref it)) Q E s
abbrev TI:=St->Hp->(It->Hp->Prop)->Prop
def PIE(X:Cx)(fb:List (ff×Obj))(σ:St)(tg:Expr)(R:It->Hp->Prop)(itv:fc)(s2:fg):Prop:=
 ∃(it:ff) (fp:List ff) (tn:Nat->Heap->Prop) (J:It) (H':Hp),itv=.ref it/\Inv X fb σ H' s2/\Turn X.prog X.w X.K tg J fp it tn/\tn 0 s2.heap/\(∀b∈fp,FpOk X fb H' b)/\R J H'
def PI(X:Cx)(tg iter:Expr)(wi:TI):Prop:=
 ∀(fb:List (ff×Obj)) (s:fg) (σ:St) (H:Hp) (R:It->Hp->Prop),Inv X fb σ H s->wi σ H R->
  wpAny (model X.prog X.w) X.A (eval iter X.env) (λv s1=>wpAny (model X.prog X.w) X.A (pyIter v) (PIE X fb σ tg R) X.xe s1) X.xe s
theorem LI{M:Model}{A:Around}{it:ff}{n:String}{vs:Array fc}(ho:s.heap.get? it=some o)(hc:o.cls=.type n)(hd:o.data=.fields vs)
 (hn:["enumerate", "zip", "dict_itemiterator", "dict_reverseitemiterator", "odict_iterator", "itertools.zip_longest", "itertools.pairwise"].contains n=false) (hQ:Q () s):wpAny M A (letOwnedTupleGo tg (.ref it) u) Q E s:=by
 unfold letOwnedTupleGo
 cases tg<;>first
  |exact uo1 hQ
  | (cases u <;> first
      |exact uo1 hQ
      | (refine uo0 (wpAny_load ho ?_)
         rw[hc,hd];show wpAny M A (if (["enumerate", "zip", "dict_itemiterator", "dict_reverseitemiterator", "odict_iterator", "itertools.zip_longest", "itertools.pairwise"].contains n&&vs[0]?==some (rawInt _))=true then _ else _) Q E s;rw[gX (by intro h;rw[hn,uk6] at h;cases h)]
         exact uo1 hQ))
def Itl(K:eh)(a:ff):It:=
 ⟨λi H=>∃xs x,SqL K H a xs/\xs[i]?=some x,λi H x H'=>H'=H/\∀xs,SqL K H a xs->xs[i]?=some x,λi H=>∃xs,SqL K H a xs/\xs.length<=i⟩
def Itt(K:eh)(a:ff):It:=
 ⟨λi H=>∃xs x,SqT K H a xs/\xs[i]?=some x,λi H x H'=>H'=H/\∀xs,SqT K H a xs->xs[i]?=some x,λi H=>∃xs,SqT K H a xs/\xs.length<=i⟩
noncomputable def Itr(lo:Int)(n:Nat):It:=⟨λi _=>i<n,λi H x H'=>H'=H/\x=.int (lo+i),λi _=>n<=i⟩
theorem R7(a it:ff):Turn P w K tg (Itl K a) [it] it (λi h=>h.IsListIter it a i) where
 mem:=by simp
 obj:=λi h st b hb=>by
  have e:b=it:=by simpa using hb
  subst e;clear 5 st o e c d;exact⟨o,e,λv z=>by rw[d] at z;cases z⟩
 keep:=λi h h' st k=>st.at λo e=>k it (by simp) o e
 item:=by
  intro X hP hw hK hc i fb s σ H E I hf st hg;subst hP hw hK;clear 5 hg xs x hq hx;clear 5(I.list hq)its rv p hz;clear 5(rv.get hx)u hu ru;clear 5(hf it (by simp))f0 f1 f2 f3 f4 f5;refine wpAny_pyNext_list_item st p.isList (x:=u) (by simpa using hu) λh' st' sb=>?_;have I1:Inv X fb σ H {s with heap:=h'}:=I.turned (t':=s.toks) (λb o hb e=>(sb.2 b hb).trans e) f0 f1 f3 f4 f5;clear 5(id st')o e c d;exact⟨u,rfl,LI (s:={s with heap:=h'}) e c d (by decide) ⟨x,H,I1,ru,⟨rfl,λys hy=>by rw[I.list_inj hy hq];exact hx⟩,st',λb hb=>(hf b hb).1⟩⟩
 done:=by
  intro X hP hw hK hc i fb s σ H E I hf st hg;subst hP hw hK;clear 5 hg xs hq hx;clear 5(I.list hq)its rv p hz;clear 5(hf it (by simp))f0 f1 f2 f3 f4 f5;have hl:=rv.length;exact wpAny_pyNext_list_end (I.ok.hd hc) st p.isList (by simp;lia) λh' eb=>⟨rfl,I.turned (t':=s.toks) (λb o hb e=>eb b o hb e) f0 f1 f3 f4 f5⟩
 self:=λ_ _ _ _ _ st h=>wpAny_pyIter_listiter st h
theorem PL(a it:ff):Turn P w K tg (Itt K a) [it] it (λi h=>h.IsTupleIter it a i) where
 mem:=by simp
 obj:=λi h st b hb=>by
  have e:b=it:=by simpa using hb
  subst e;clear 5 st o e c d;exact⟨o,e,λv z=>by rw[d] at z;cases z⟩
 keep:=λi h h' st k=>st.at λo e=>k it (by simp) o e
 item:=by
  intro X hP hw hK hc i fb s σ H E I hf st hg;subst hP hw hK;clear 5 hg xs x hq hx;clear 5(I.tuple hq)its rv p hz;clear 5(rv.get hx)u hu ru;clear 5(hf it (by simp))f0 f1 f2 f3 f4 f5;refine wpAny_pyNext_tuple_item st (show s.heap.IsTuple a its.toArray from p) (x:=u) (by simpa using hu) λh' st' sb=>?_;have I1:Inv X fb σ H {s with heap:=h'}:=I.turned (t':=s.toks) (λb o hb e=>(sb.2 b hb).trans e) f0 f1 f3 f4 f5;clear 5(id st')o e c d;exact⟨u,rfl,LI (s:={s with heap:=h'}) e c d (by decide) ⟨x,H,I1,ru,⟨rfl,λys hy=>by rw[I.tuple_inj hy hq];exact hx⟩,st',λb hb=>(hf b hb).1⟩⟩
 done:=by
  intro X hP hw hK hc i fb s σ H E I hf st hg;subst hP hw hK;clear 5 hg xs hq hx;clear 5(I.tuple hq)its rv p hz;clear 5(hf it (by simp))f0 f1 f2 f3 f4 f5;have hl:=rv.length;exact wpAny_pyNext_tuple_end (I.ok.hd hc) st (show s.heap.IsTuple a its.toArray from p) (by simp;lia) λh' eb=>⟨rfl,I.turned (t':=s.toks) (λb o hb e=>eb b o hb e) f0 f1 f3 f4 f5⟩
 self:=λ_ _ _ _ _ st h=>wpAny_pyIter_tupleiter st h
theorem PK(it:ff)(lo:Int)(n:Nat):Turn P w K tg (Itr lo n) [it] it (λi h=>IsRangeIter h it (lo+(i:Nat)*1) ((n:Int)-(i:Nat)) 1) where
 mem:=by simp
 obj:=λi h st b hb=>by
  have e:b=it:=by simpa using hb
  subst e;exact⟨_,st,λv z=>by
   have z':Data.fields _=Data.cell v:=z
   cases z'⟩
 keep:=λi h h' st k=>k it (by simp) _ st
 item:=by
  intro X hP hw hK hc i fb s σ H E I hf st hg;subst hP hw hK;clear 5(hf it (by simp))f0 f1 f2 f3 f4 f5;have W:=Walks.range (prog:=X.prog) (w:=X.w) (I.ok.hd hc) it lo 1 n;refine W.item i s _ _ hg st λv h' tk hv st' kk=>?_;clear 5 hv t rfl;have I1:Inv X fb σ H {s with heap:=h',toks:=tk}:=I.turned (λb o hb e=>kk b o (by simpa using hb) e) f0 f1 f3 f4 f5;refine⟨_,rfl,LI (s:={s with heap:=h',toks:=tk}) (n:="range_iterator") st' rfl rfl (by decide) ⟨.int (lo+i),H,I1,⟨t,?_⟩,⟨rfl,rfl⟩,st',λb hb=>(hf b hb).1⟩⟩;rw[Int.mul_one]
 done:=by
  intro X hP hw hK hc i fb s σ H E I hf st hg;subst hP hw hK;clear 5(hf it (by simp))f0 f1 f2 f3 f4 f5;exact wpAny_pyNext_range_end (I.ok.hd hc) st (by have:n<=i:=hg;lia) λh' eb=>⟨rfl,I.turned (t':=s.toks) (λb o hb e=>eb b o hb e) f0 f1 f3 f4 f5⟩
 self:=λ_ _ _ _ _ st h=>wpAny_pyIter_rangeiter st h
variable{fp:List ff}
section
variable{X:Cx}{tg:Expr}
theorem MW{R:It->Hp->Prop}{lo hi:Int}{t u v:Tok}{tk:Nat}(I:Inv X fb σ H s)(h1 : -(2 ^ 62)<=lo)(h2:lo<2 ^ 62)(h3 : -(2 ^ 62)<=hi)(h4:hi<2 ^ 62)
 (q:R (Itr lo (hi-lo).toNat) H):wpAny (model X.prog X.w) X.A (pyIter (.ref s.heap.objs.size)) (PIE X fb σ tg R) E {s with heap:=s.heap.push {cls:=.type "range",data:=.fields #[.int lo t,.int hi u,.int 1 v]},toks:=tk}:=by
 refine wpAny_pyIter_range (IsRange.new ..) (small_one h1 h2 h3 h4) ?_;have I1:Inv X fb σ H {s with heap:=s.heap.push {cls:=.type "range",data:=.fields #[.int lo t,.int hi u,.int 1 v]},toks:=tk}:=I.kept λb o e=>ub9 _ e;refine⟨(s.heap.push {cls:=.type "range",data:=.fields #[.int lo t,.int hi u,.int 1 v]}).objs.size,[(s.heap.push {cls:=.type "range",data:=.fields #[.int lo t,.int hi u,.int 1 v]}).objs.size],_,_,H,rfl,
  I1.kept (t':=tk) λb o e=>ub9 _ e,PK _ lo (hi-lo).toNat,?_,λb hb=>?_,q⟩
 .have e1:lo+((0:Nat):Int)*1=lo:=by simp
  have e2:(((hi-lo).toNat:Nat):Int)-((0:Nat):Int)=Builtin.Range.rangeSize lo hi 1:=by rw[rangeSize_one];split<;>lia
  show IsRangeIter _ _ (lo+((0:Nat):Int)*1) ((((hi-lo).toNat:Nat):Int)-((0:Nat):Int)) 1;rw[e1,e2];exact ue4 _ rfl
 .have e:b=(s.heap.push {cls:=.type "range",data:=.fields #[.int lo t,.int hi u,.int 1 v]}).objs.size:=by simpa using hb
  subst e;exact I1.fpOk (un5 _) (I1.hok.fresh (un5 _))
def ZY(ta:TA):TI:=λσ H R=>ta σ H λvs H1=>∃j:Int,vs=[.int j]/\-(2 ^ 62)<=j/\j<2 ^ 62/\R (Itr 0 j.toNat) H1
def ZZ(ta:TA):TI:=λσ H R=>ta σ H λvs H1=>∃i j:Int,vs=[.int i,.int j]/\(-(2 ^ 62)<=i/\i<2 ^ 62/\-(2 ^ 62)<=j/\j<2 ^ 62)/\R (Itr i (j-i).toNat) H1
theorem Rk{a:Expr}{ta:TA}{p pos:Pos}(hg:Gl X "range")(hm:X.mg "range" = none)(ha:PA X [a] ta)(hs:starEach [a] X.env=[(false,eval a X.env)]:=by rfl):PI X tg (.Call (.Name "range" p) [a] [] pos) (ZY ta):=by
 intro fb s σ H R I h;refine Call_ (GC I hg hm boot_range (ua2 (thn (ha pos fb s σ H _ I h) λus s1 z9=>?_) hs rfl));clear 5 z9 vs H1 I1 r1 q1;clear 5 q1 j e q1 q2 q;subst e
 cases r1 with
 |cons r rr=>
   cases rr
   clear 5 r t rfl;exact call_range_1 (MW I1 (by lia) (by lia) q1 q2 (by simpa using q))
theorem Rl{a b:Expr}{ta:TA}{p pos:Pos}(hg:Gl X "range")(hm:X.mg "range" = none)(ha:PA X [a,b] ta)(hs:starEach [a,b] X.env=[(false,eval a X.env),(false,eval b X.env)]:=by rfl)(hs2:starEach [b] X.env=[(false,eval b X.env)]:=by rfl) :
 PI X tg (.Call (.Name "range" p) [a,b] [] pos) (ZZ ta):=by
 intro fb s σ H R I h;refine Call_ (GC I hg hm boot_range (ua2 (thn (ha pos fb s σ H _ I h) λus s1 z9=>?_) (by rw[hs,hs2]) (by rw[hs2];rfl)));clear 5 z9 vs H1 I1 r1 q1;obtain⟨i,j,e,⟨q1,q2,q3,q4⟩,q⟩:=q1;subst e
 cases r1 with
 |cons r rr=>
   cases rr with
   |cons r' rr=>
     cases rr
     clear 5 r t rfl;clear 5 r' t' rfl;exact call_range_2 (MW I1 q1 q2 q3 q4 q)
def Ug(wi:TI)(g:TG)(tb:TS):TS:=λD σ H=>wi σ H λJ H1=>∃W:Nat->Nat->St->Hp->Prop,(∃m,W 0 m σ H1)/\∀i m σ H,W i m σ H->
 (J.stop i H/\D.nx σ H)\/(J.go i H/\∃N:St->Hp->Prop,(∀σ' H',N σ' H'->∃m',m'<m/\W (i+1) m' σ' H')/\∀x H',J.yld i H x H'->g x σ H' λσ2 H2=>tb {D with nx:=N,ct:=N,bk:=D.nx} σ2 H2)
noncomputable def Ie(fp:List ff)(h:Heap):List (ff×Obj):=fp.filterMap λb=>(h.get? b).map λo=>(b,o)
theorem Fo(hb:b∈fp)(e:h.get? b=some o):(b,o)∈Ie fp h:=List.mem_filterMap.mpr ⟨b,hb,by rw[e];rfl⟩
theorem Q9{p:ff×Obj}(hp:p∈Ie fp h):p.1∈fp/\h.get? p.1=some p.2:=by
 clear 5(List.mem_filterMap.mp hp)b hb e
 cases q:h.get? b with
 |none=>rw[q] at e;cases e
 |some o=>
   rw[q] at e;have e':(b,o)=p:=uj0 e;subst e';exact⟨hb,q⟩
theorem Inv.pinned(I:Inv X fb σ H s)(hf:∀b∈fp,FpOk X fb H b)(ho:∀b∈fp,∃o,s.heap.get? b=some o/\∀v,o.data≠.cell v):Inv X (fb++Ie fp s.heap) σ H s:=
 I.pins_of λp hp=>(ui9.mp hp).elim (λz=>I.pin p (uc6 _ z)) λz=>by
  clear 5(Q9 z)hb e;obtain⟨f0,f1,f2,_⟩:=hf p.1 hb;clear 5(ho p.1 hb)o e' d;rw[e] at e';cases e'
  exact⟨e,f0,f1,f2,d⟩
theorem Inv.unpinned{pl:List (ff×Obj)}(I:Inv X (fb++pl) σ H s):Inv X fb σ H s:=I.pins_of λp hp=>I.pin p (uc6 _ (ud7 _ hp))
theorem Ro{iter:Expr}{body:List Stmt}{wi:TI}{g:TG}{tb:TS}{pos:Pos}(hp:PassesOwn (model X.prog X.w) X.A X.env X.xe)(hc:X.calm=true)(hi:PI X tg iter wi)(hg:PG X tg g)(hb:PSs X body tb)
 (hs:∀x,foldedSetIterable iter X.env x=pure x:=by intro _;rfl):PS X (.For tg iter body [] pos) (Ug wi g tb):=by
 intro fb s σ H D I h;refine wpAny_For (thn (hi fb s σ H _ I h) λv s1 h1=>thn h1 λitv s2 h2=>?_) hs;obtain⟨it,fp,tn,J,H2,e,I2,T,st2,f2,W,⟨m0,w0⟩,turn⟩:=h2;subst e
 -- what stays true of the iterator's objects through the loop
 have stat:∀{H':Hp},(∀b∈fp,H' b=none)->∀b∈fp,FpOk X fb H' b:=λhn b hb=>⟨hn b hb,(f2 b hb).2⟩;refine codeAny_forLoop_any (λn s'=>∃i σ' H',Inv X fb σ' H' s'/\tn i s'.heap/\(∀b∈fp,H' b=none)/\W i n σ' H') ?_ m0 ⟨0,σ,H2,I2,st2,λb hb=>(f2 b hb).1,w0⟩;rintro n s3 ⟨i,σ3,H3,I3,st3,fr3,w3⟩;rcases turn i n σ3 H3 w3 with⟨stop,qn⟩|⟨go,N,hN,step⟩
 .refine gn hp (thn (T.done X rfl rfl rfl hc i fb s3 σ3 H3 X.xe I3 (stat fr3) st3 stop) λr s4 z9=>?_);clear 5 z9 hr I4;subst hr;exact gm ⟨σ3,H3,I4,qn⟩
 .refine gn hp (thn (T.item X rfl rfl rfl hc i fb s3 σ3 H3 X.xe I3 (stat fr3) st3 go) λr s4 z9=>?_);clear 5 z9 u hr h4;subst hr;refine gn hp (thn h4 λ_ s5 z9=>?_);clear 5 z9 x H5 I5 r5 y5 st5 fr5;have I5':=I5.pinned (stat fr5) (T.obj _ _ st5);refine gn hp (thn (hg _ s5 σ3 H5 x u _ I5' r5 (step x H5 y5)) λ_ s6 z9=>?_);clear 5 z9 σ6 H6 I6 q6;refine gn hp (thn (hb _ s6 σ6 H6 _ I6 q6) λf s7 q7=>?_);have again:∀{σ7:St}{H7:Hp},Inv X (fb++Ie fp s5.heap) σ7 H7 s7->N σ7 H7->∃m,m<n/\∃i σ' H',Inv X fb σ' H' s7/\tn i s7.heap/\(∀b∈fp,H' b=none)/\W i m σ' H':=λ{σ7 H7} I7 n7=>by
   clear 5(hN σ7 H7 n7)m' hm w7;refine⟨m',hm,i+1,σ7,H7,I7.unpinned,T.keep _ _ _ st5 λb hb o e=>(I7.pin (b,o) (uc6 _ (uc6 _ (Fo hb e)))).1,λb hb=>?_,w7⟩;clear 5(T.obj _ _ st5 b hb)o e d;exact(I7.pin (b,o) (uc6 _ (uc6 _ (Fo hb e)))).2.1
  cases f with
  |next=>clear 5 q7 σ7 H7 I7 n7;exact again I7 n7
  |cont=>clear 5 q7 σ7 H7 I7 n7;exact again I7 n7
  |brk=>clear 5 q7 σ7 H7 I7 q7;exact⟨σ7,H7,I7.unpinned,q7⟩
  |ret v=>clear 5 q7 x7 σ7 H7 I7 r7 q7;exact⟨x7,σ7,H7,I7.unpinned,r7,q7⟩
end
abbrev R2:=V->V->Hp->VK->Prop
def OpR(X:Cx)(f:fc->fc->Sem fc)(r:R2):Prop:=
 ∀(fb:List (ff×Obj)) (s:fg) (σ:St) (H:Hp) (x y:V) (v u:fc) (Q:VK),Inv X fb σ H s->RelV x v->RelV y u->r x y H Q->
  wpAny (model X.prog X.w) X.A (f v u) (EP X fb σ Q) X.xe s
def Co(X:Cx)(f:fc)(r:List V->Hp->VK->Prop):Prop:=
 ∀(fb:List (ff×Obj)) (s:fg) (σ:St) (H:Hp) (xs:List V) (us:List fc) (Q:VK),Inv X fb σ H s->Vals xs us->r xs H Q->
  wpAny (model X.prog X.w) X.A (call f us) (EP X fb σ Q) X.xe s
def tOp(r:R2)(ta tb:TE):TE:=λσ H Q=>ta σ H λx H1=>tb σ H1 λy H2=>r x y H2 Q
def rI(C:Int->Int->Prop)(g:Int->Int->V):R2:=λx y H Q=>∃i j,x=.int i/\y=.int j/\C i j/\Q (g i j) H
def rI0(g:Int->Int->V):R2:=λx y H Q=>∃i j,x=.int i/\y=.int j/\Q (g i j) H
variable{r:R2}{f:fc->fc->Sem fc}
section
variable{X:Cx}{a b c:Expr}{ta tb tc:TE}{pos:Pos}
theorem SD(ha:PE X a ta)(hb:PE X b tb){fb:List (ff×Obj)}{s:fg}{σ:St}{H:Hp}{R:V->V->Hp->Prop}(I:Inv X fb σ H s)
 (h:ta σ H λx H1=>tb σ H1 λy H2=>R x y H2){Q:fc->fg->Prop}{f:fc->fc->Sem fc}
 (hf:∀v u s2 x y H2,Inv X fb σ H2 s2->RelV x v->RelV y u->R x y H2->wpAny (model X.prog X.w) X.A (f v u) Q X.xe s2) :
 wpAny (model X.prog X.w) X.A (eval a X.env) (λv s₁=>wpAny (model X.prog X.w) X.A (eval b X.env) (λu s₂=>wpAny (model X.prog X.w) X.A (f v u) Q X.xe s₂) X.xe s₁) X.xe s:=by
 refine thn (ha fb s σ H _ I h) λv s1 z9=>?_;clear 5 z9 x H1 I1 r1 q1;refine thn (hb fb s1 σ H1 _ I1 q1) λu s2 z9=>?_;clear 5 z9 y H2 I2 r2 q2;exact hf v u s2 x y H2 I2 r1 r2 q2
theorem Pn{op:Operator}(ho:OpR X (binaryOp op) r)(ha:PE X a ta)(hb:PE X b tb):PE X (.BinOp a op b pos) (tOp r ta tb):=by
 intro fb s σ H Q I h;exact wpAny_BinOp (SD ha hb I h λv u s2 x y H2 I2 rx ry q=>ho fb s2 σ H2 x y v u Q I2 rx ry q)
theorem opI{C:Int->Int->Prop}{g:Int->Int->Int}
 (rule:∀(i j:Int) (t u:Tok) (s:fg) (Q:fc->fg->Prop) (E:fc->fg->Prop),C i j->Q (.int (g i j) s.toks) {s with toks:=s.toks+1}->wpAny (model X.prog X.w) X.A (f (.int i t) (.int j u)) Q E s) :
 OpR X f (rI C λi j=>.int (g i j)):=by
 intro fb s σ H x y v u Q I rx ry h;clear 5 h i j rfl rfl hc q;clear 5 rx t rfl;clear 5 ry t' rfl;exact rule i j t t' s _ _ hc ⟨.int (g i j),H,I.tok _,⟨_,rfl⟩,q⟩
theorem Yx{g:Int->Int->Int}
 (rule:∀(i j:Int) (t u:Tok) (s:fg) (Q:fc->fg->Prop) (E:fc->fg->Prop),Q (.int (g i j) s.toks) {s with toks:=s.toks+1}->wpAny (model X.prog X.w) X.A (f (.int i t) (.int j u)) Q E s) :
 OpR X f (rI0 λi j=>.int (g i j)):=by
 intro fb s σ H x y v u Q I rx ry h;clear 5 h i j rfl rfl q;clear 5 rx t rfl;clear 5 ry t' rfl;exact rule i j t t' s _ _ ⟨.int (g i j),H,I.tok _,⟨_,rfl⟩,q⟩
theorem Pm{g:Int->Int->Bool}
 (rule:∀(i j:Int) (t u:Tok) (s:fg) (Q:fc->fg->Prop) (E:fc->fg->Prop),Q (.bool (g i j)) s->wpAny (model X.prog X.w) X.A (f (.int i t) (.int j u)) Q E s) :
 OpR X f (rI0 λi j=>.bl (g i j)):=by
 intro fb s σ H x y v u Q I rx ry h;clear 5 h i j rfl rfl q;clear 5 rx t rfl;clear 5 ry t' rfl;exact rule i j t t' s _ _ ⟨.bl (g i j),H,I,rfl,q⟩
def Xq(i j:Int):Prop:=0<j/\j<1073741824
def Xr(i j:Int):Prop:=0<=j/\j<=1000000/\i.natAbs<2 ^ 64
def CMul(i j:Int):Prop:=(-(2 ^ 64)<i/\i<2 ^ 64)\/(-(2 ^ 64)<j/\j<2 ^ 64)
theorem CMul.ok{i j:Int}(h:CMul i j):IntMulOk i j:=by
 rcases h with⟨h1,h2⟩|⟨h1,h2⟩
 .exact .of_left (intBits_le_64 h1 h2)
 .exact .of_right (intBits_le_64 h1 h2)
theorem two_pow_nn(k:Nat):(0:Int)<=2 ^ k:=by
 rw[two_pow_cast];exact Int.natCast_nonneg _
theorem op_add:OpR X (binaryOp .Add) (rI0 λi j=>.int (i+j)):=Yx λ_ _ _ _ _ _ _ q=>add_int q
theorem YE:OpR X (binaryOp .Sub) (rI0 λi j=>.int (i-j)):=Yx λ_ _ _ _ _ _ _ q=>sub_int q
theorem YA:OpR X (binaryOp .Mult) (rI CMul λi j=>.int (i*j)):=opI λ_ _ _ _ _ _ _ hc q=>mul_int q hc.ok
theorem V5:OpR X (binaryOp .FloorDiv) (rI Xq λi j=>.int (i/j)):=opI λi j _ _ _ _ _ hc q=>by
 have h1:(0:Int)<j:=hc.1;have h2:j<1073741824:=hc.2;exact floordiv_int (by lia) (by rw[ua4 i (by lia)];exact q) (.inl (PyProof.noPylong_small (by lia)))
theorem Yz:OpR X (binaryOp .Mod) (rI (λ_ j=>0<j) λi j=>.int (i%j)):=opI λi j _ _ _ _ _ hc q=>by
 have h1:(0:Int)<j:=hc;exact mod_int' (by lia) (by rw[Int.fmod_eq_emod_of_nonneg i (by lia)];exact q)
theorem YB:OpR X (binaryOp .Pow) (rI Xr λi j=>.int (i ^ j.toNat)):=opI λ_ _ _ _ _ _ _ hc q=>pow_int_small hc.1 hc.2.1 hc.2.2 q
theorem YD:OpR X (binaryOp .RShift) (rI (λ_ j=>0<=j) λi j=>.int (i/2 ^ j.toNat)):=opI λi j _ _ _ _ _ hc q=>
 rshift_int hc (by rw[ua4 i (two_pow_nn _)];exact q)
end
variable{op:CmpOp}{us:List fc}
section
variable{X:Cx}{a b c:Expr}{ta tb tc:TE}{pos:Pos}
theorem op_lt:OpR X (compareOp .Lt) (rI0 λi j=>.bl (decide (i<j))):=Pm λ_ _ _ _ _ _ _ q=>lt_int q
theorem op_le:OpR X (compareOp .LtE) (rI0 λi j=>.bl (decide (i<=j))):=Pm λ_ _ _ _ _ _ _ q=>le_int q
theorem op_gt:OpR X (compareOp .Gt) (rI0 λi j=>.bl (decide (j<i))):=Pm λ_ _ _ _ _ _ _ q=>gt_int q
theorem op_ge:OpR X (compareOp .GtE) (rI0 λi j=>.bl (decide (j<=i))):=Pm λ_ _ _ _ _ _ _ q=>ge_int q
theorem OpR.or{r':R2}(h:OpR X f r)(h':OpR X f r'):OpR X f (λx y H Q=>r x y H Q\/r' x y H Q):=by
 intro fb s σ H x y v u Q I rx ry q;rcases q with q|q
 .exact h fb s σ H x y v u Q I rx ry q
 .exact h' fb s σ H x y v u Q I rx ry q
theorem Cs(b:Expr){op:CmpOp}(h:op≠.In:=by decide)(h2:op≠.NotIn:=by decide):behindInMarks op b=false:=by
 have e1:(op==CmpOp.In)=false:=by cases op<;>first|rfl|exact absurd rfl h
 have e2:(op==CmpOp.NotIn)=false:=by cases op<;>first|rfl|exact absurd rfl h2
 cases b<;>simp[behindInMarks,e1,e2]
theorem Wb(ho:OpR X (compareOp op) r)(ha:PE X a ta)(hb:PE X b tb)(hm:behindInMarks op b=false):PE X (.Compare a [op] [b] pos) (tOp r ta tb):=by
 intro fb s σ H Q I h;exact wpAny_Compare1 (SD ha hb I h λv u s2 x y H2 I2 rx ry q=>ho fb s2 σ H2 x y v u Q I2 rx ry q) hm
def aq(t:TE):TT:=λσ H Q=>t σ H λx H'=>∃k,x=.bl k/\Q k H'
theorem Wu(ho:OpR X (compareOp op) r)(ha:PE X a ta)(hb:PE X b tb)(hm:behindInMarks op b=false):PT X (.Compare a [op] [b] pos) (aq (tOp r ta tb)):=by
 intro fb s σ H Q I h;refine wpAny_isTrue_Compare1 (thn (ha fb s σ H _ I h) λv s1 ⟨x,H1,I1,r1,q1⟩=>thn (hb fb s1 σ H1 _ I1 q1) λu s2 ⟨y,H2,I2,r2,q2⟩=>
  thn (ho fb s2 σ H2 x y v u _ I2 r1 r2 q2) λc s3 ⟨z,H3,I3,r3,k,e,q3⟩=>?_) hm
 subst e
 cases r3
 exact gh ⟨H3,I3,q3⟩
def RZ(r r':R2)(ta tb tc:TE):TE:=λσ H Q=>ta σ H λx H1=>tb σ H1 λy H2=>r x y H2 λz H3=>∃k,z=.bl k/\
 (if k=true then tc σ H3 λw' H4=>r' y w' H4 Q else Q (.bl false) H3)
theorem TD{op':CmpOp}{r':R2}(ho:OpR X (compareOp op) r)(ho':OpR X (compareOp op') r')(ha:PE X a ta)(hb:PE X b tb)(hc:PE X c tc)
 (hm:lastMarks [op,op'] [b,c]=false:=by with_unfolding_all rfl):PE X (.Compare a [op,op'] [b,c] pos) (RZ r r' ta tb tc):=by
 intro fb s σ H Q I h;refine Compare_chain (thn (ha fb s σ H _ I h) λv s1 ⟨x,H1,I1,r1,q1⟩=>chain_link (thn (hb fb s1 σ H1 _ I1 q1) λu s2 ⟨y,H2,I2,r2,q2⟩=>
  thn (ho fb s2 σ H2 x y v u _ I2 r1 r2 q2) λd s3 ⟨z,H3,I3,r3,k,e,q3⟩=>?_)) hm
 subst e
 cases r3
 refine gh ?_
 cases k with
 |false=>exact ite_ff ⟨.bl false,H3,I3,rfl,q3⟩
 |true=>exact ite_tt (chain_last (thn (hc fb s3 σ H3 _ I3 q3) λw' s4 z9=>by clear 5 z9 z' H4 I4 r4 q4;exact ho' fb s4 σ H4 y z' u w' Q I4 r2 r4 q4))
theorem GD:(sizeLine:Nat)<2 ^ 63:=by rw[gJ];decide
theorem op_add_str:OpR X (binaryOp .Add) (λx y H Q=>∃i j,x=.str i/\y=.str j/\i.length+j.length<=sizeLine/\Q (.str (i++j)) H):=by
 intro fb s σ H x y v u Q I rx ry h;clear 5 h i j rfl rfl hz q;clear 5 rx t rfl;clear 5 ry t' rfl;exact add_str (λt' tk=>⟨.str (i++j),H,I.tok _,⟨_,rfl⟩,q⟩) hz
theorem Gi{x:V}(r:Vals [x] us):∃u,us=[u]/\RelV x u:=by
 cases r with
 |cons r1 r2=>cases r2;exact⟨_,rfl,r1⟩
theorem PP{x y:V}(r:Vals [x,y] us):∃u w',us=[u,w']/\RelV x u/\RelV y w':=by
 cases r with
 |cons r1 r2=>
   cases r2 with
   |cons r3 r4=>cases r4;exact⟨_,_,rfl,r1,r3⟩
theorem Qe(hc:X.calm=true):Co X (.builtin "max") (λxs H Q=>∃i j,xs=[.int i,.int j]/\Q (.int (if j > i then j else i)) H):=by
 intro fb s σ H xs us Q I r h;clear 5 h i j rfl q;obtain⟨u,w',rfl,⟨t,rfl⟩,⟨t',rfl⟩⟩:=PP r;refine max_two_ints (I.ok.hd hc) λh' tk k=>⟨_,H,I.kept k,?_,q⟩
 by_cases hj:j > i
 .rw[gW hj,gW hj];exact⟨_,rfl⟩
 .rw[gX hj,gX hj];exact⟨_,rfl⟩
theorem Qf(hc:X.calm=true):Co X (.builtin "min") (λxs H Q=>∃i j,xs=[.int i,.int j]/\Q (.int (if j<i then j else i)) H):=by
 intro fb s σ H xs us Q I r h;clear 5 h i j rfl q;obtain⟨u,w',rfl,⟨t,rfl⟩,⟨t',rfl⟩⟩:=PP r;refine min_two_ints (I.ok.hd hc) λh' tk k=>⟨_,H,I.kept k,?_,q⟩
 by_cases hj:j<i
 .rw[gW hj,gW hj];exact⟨_,rfl⟩
 .rw[gX hj,gX hj];exact⟨_,rfl⟩
theorem Qd:Co X (.type "int") (λxs H Q=>(∃i,xs=[.int i]/\Q (.int i) H)\/∃k,xs=[.bl k]/\Q (.int (if k then 1 else 0)) H):=by
 intro fb s σ H xs us Q I r h;rcases h with⟨i,rfl,q⟩|⟨k,rfl,q⟩
 .clear 5(Gi r)u rfl t rfl;exact call_int_int ⟨.int i,H,I,⟨_,rfl⟩,q⟩
 .obtain⟨u,rfl,r1⟩:=Gi r
  cases r1
  exact call_int_bool ⟨.int (if k then 1 else 0),H,I.tok _,⟨_,rfl⟩,q⟩
theorem SI:Co X (.builtin "ord") (λxs H Q=>∃x,xs=[.str x]/\x.length=1/\Q (.int (x.cps.getD 0 0:Nat)) H):=by
 intro fb s σ H xs us Q I r h;clear 5 h x rfl hz q;clear 5(Gi r)u rfl t rfl;exact ord_of_one hz ⟨.int _,H,I.tok _,⟨_,rfl⟩,q⟩
def Xs(K:eh)(x:V)(H:Hp)(n:Nat):Prop:=
 match x with
 |.str y=>y.length<=sizeLine/\n=y.length
 |.byt y=>y.size<=sizeLine/\n=y.size
 |.ref p=>(∃xs,SqL K H p xs/\n=xs.length)\/∃xs,SqT K H p xs/\n=xs.length
 |_=>False
theorem SH:Co X (.builtin "len") (λxs H Q=>∃x n,xs=[x]/\Xs X.K x H n/\Q (.int n) H):=by
 intro fb s σ H xs us Q I r h;clear 5 h x n rfl e q;clear 5(Gi r)u rfl rx;have hl:=GD;have hs:sizeLine=16777216:=gJ
 cases x with
 |str y=>
   clear 5 rx t rfl;obtain⟨hy,e'⟩:y.length<=sizeLine/\n=y.length:=e;subst e';exact len_str (by lia) ⟨.int _,H,I.tok _,⟨_,rfl⟩,q⟩
 |byt y=>
   clear 5 rx t rfl;obtain⟨hy,e'⟩:y.size<=sizeLine/\n=y.size:=e;subst e';exact PySem.W.len_bytes (by lia) ⟨.int _,H,I.tok _,⟨_,rfl⟩,q⟩
 |ref p=>
   cases rx
   have e':(∃xs,SqL X.K H p xs/\n=xs.length)\/∃xs,SqT X.K H p xs/\n=xs.length:=e;rcases e' with⟨xs,hx,e'⟩|⟨xs,hx,e'⟩
   .subst e';clear 5(I.list hx)its r' pl hz;have hlen:=r'.length;exact Calls.call_len_list pl.isList (by simp only[ug1];lia) ⟨.int xs.length,H,I.tok _,⟨_,by simp only[ug1];rw[hlen]⟩,q⟩
   .subst e';clear 5(I.tuple hx)its r' pl hz;have hlen:=r'.length;exact len_tuple pl (by simp only[ug1];lia) ⟨.int xs.length,H,I.tok _,⟨_,by simp only[ug1];rw[hlen]⟩,q⟩
 |_=>exact(show False from e).elim
end
structure ObjM(h:Heap)(x dx C:ff)(mA:Str->Option fc):Prop where
 obj:h.get? x=some (PySem.W.instObj C dx)
 ns:h.Ns1 dx mA
 ne:dx≠x
theorem QT{dx:ff}{mA:Str->Option fc}(n:h.Ns1 dx mA):∃od,h.get? dx=some od/\∀name,PySem.W.lookIn name od=some (mA name):=by
 obtain⟨o,es,ep,ho,hd,hk,_,hm⟩:=n;refine⟨o,ho,λname=>?_⟩;have e:=hm name;unfold nsFind findBy at e;rw[<-Array.find?_toList] at e;unfold PySem.W.lookIn;rw[hd];dsimp only
 split
 .rename_i y q;rw[q] at e;exact gP some e
 .rename_i q;rw[q] at e;have a:es.toList.any (·.refKey)=false:=by
   rw[List.any_eq_false];intro y hy;clear 5(hk y (Array.mem_toList_iff.mp hy))z t hkey;simp[DictEntry.refKey,hkey]
  have a':¬es.toList.any (·.refKey)=true:=by rw[a];exact uf2
  rw[gX a'];exact gP some e
variable{C:ff}
theorem ObjM.look{x dx:ff}{mA:Str->Option fc}(I:ObjM h x dx C mA):∃od,PySem.W.InstAt h x (PySem.W.instObj C dx) C (some od)/\∀name,PySem.W.lookIn name od=some (mA name):=
 let ⟨od,ho,hl⟩:=QT I.ns
 ⟨od,⟨I.obj,rfl,rfl,ho⟩,hl⟩
variable{pl:Sem Bool}{kw:List (Str×fc)}
section
variable{prog:fh}{w:fj}{A:Around}{E:fc->fg->Prop}{s:fg}{K:eh}{x dx C f:ff}{mA:Str->Option fc}{name:Str}{v:fc}
theorem Vp{expr:Bool}{Q:fc->fg->Prop}(X:K.In s.heap)(I:ObjM s.heap x dx C mA)(hg:PySem.W.plainGet K C name=true)(hh:PySem.W.hasDictIn K C=true)
 (ha:PySem.W.findIn K (.ref C) name=some none) (hv:mA name=some v) (hv':PySem.W.handedIn v=true) (h:Q v {s with toks:=s.toks+1}) :
 wpAny (model prog w) A (getAttr (.ref x) name expr) Q E s:=by
 clear 5 I.look od J hl;exact PySem.W.get_value X J (ue5 hg).1 (PySem.W.findObj_own hh ha rfl (by rw[hl,hv])) hv' h
theorem Tj{Q:fc×List fc->fg->Prop}(X:K.In s.heap)(I:ObjM s.heap x dx C mA)(hg:PySem.W.plainGet K C name=true)
 (hf:PySem.W.findIn K (.ref C) name=some (some (.ref f))) (ht:PySem.W.isFn K (.ref f)=true) (hv:mA name=none) (h:Q (.ref f,[.ref x]) s) :
 wpAny (model prog w) A (getMethod (.ref x) name pl) Q E s:=by
 clear 5 I.look od J hl;exact PySem.W.method_fn X J (ue5 hg).1 (ue5 hg).2 hf (gK.mp ht) (by show(PySem.W.lookIn name od).map (·.isSome)=some false;rw[hl,hv];rfl) h
theorem WY{ns:List Str}(X:K.In s.heap)(I:ObjM s.heap x dx C mA)
 (hs:PySem.W.findIn K (.ref C) "__setattr__" = some (some (.builtin "object.__setattr__"))) (hp:PySem.W.plainOver K C=true) (ht:PySem.W.takerIn K C name=some none) (hh:PySem.W.hasDictIn K C=true)
 (hw:PySem.Within mA ns) (hsz:ns.length<=sizeLine)
 (h:∀h',ObjM h' x dx C (λy=>if y=name then some v else mA y)->Heap.SameBut dx s.heap h'->Q () {s with heap:=h',toks:=s.toks+2}) :
 wpAny (model prog w) A (setAttr (.ref x) name v) Q E s:=by
 clear 5 I.look od J hl;refine PySem.W.set_plain X J hs (PySem.W.osa_open (s:={s with toks:=s.toks+1}) (r:=none) X J hp ht λb=>?_);clear 5(PySem.W.any_some hh)cd hc hd';have hx:s.heap.get? x=some ⟨.ref C,some dx,.plain,#[]⟩:=I.obj;refine uo0 (uo1 (uo0 (uo0 (wpAny_loadPart hx (uo0 (PySem.W.Looks.here (s:={s with toks:=s.toks+1}) (PySem.W.looks_clsIn X hc) ?_))))));rw[hd'];refine uo1 (a:=some dx) (uo0 (uo1 (uo0 ?_)));refine wpAny_nsSet1 (s:={s with toks:=s.toks+1}) I.ns λh' hn2 hs2=>?_;clear 5(hn2.count (PySem.Within.cons name v hw))oD esD epD hoD hdD hcD;refine uo0 (wpAny_lookBehind hoD (by rw[hdD];exact pastItsLine_dict (um3 hcD (by rw[uh2];lia))) ?_);exact uo1 (h _ ⟨(hs2.2 _ (Ne.symm I.ne)).trans I.obj,hn2,I.ne⟩ hs2)
theorem Tr{R:Result->fg->Prop}{vs:List fc}(X:K.In s.heap)(hm:PySem.W.makesIn K C=true)
 (hi:PySem.W.findIn K (.ref C) "__init__" = some (some (.ref f))) (hf:PySem.W.typeIn K (.ref f)=some (.type "function"))
 (h:codeAny (model prog w) (A.under (.builtin "type.__call__" ⟨.ref C :: vs,kw⟩)) (.call (.ref f) ⟨.ref (s.heap.objs.size + 1) :: vs,kw⟩) (PySem.W.InitBack (s.heap.objs.size + 1) R)
   {s with heap:=(s.heap.push PySem.W.emptyDict).push (PySem.W.instObj C s.heap.objs.size)}) :
 codeAny (model prog w) A (.call (.ref C) ⟨vs,kw⟩) R s:=by
 clear 5 s hh g d t os;exact PySem.W.make_core (PySem.W.makes_of X hm) (PySem.W.looks_findIn X hi) (λself=>PySem.W.bind_fn X self hf) (.inl rfl) h
end
noncomputable def C5(f:Str)(v:V):List (Str×V)->List (Str×V)
 |[]=>[(f,v)]
 |(g,x)::r=>if g=f then(g,v)::r else(g,x)::C5 f v r
theorem IW(f g:Str)(v:V):∀fs:List (Str×V),(C5 f v fs).lookup g=if g=f then some v else fs.lookup g
 |[]=>by
   show List.lookup g [(f,v)]=_
   by_cases h:g=f
   .have hb:(g==f)=true:=gK.mpr h;simp only[List.lookup,hb,gW h]
   .have hb:(g==f)=false:=gb.mpr h;simp only[List.lookup,hb,gX h]
 |(k,x)::r=>by
   have ih:=IW f g v r;rw[show C5 f v ((k,x)::r)=(if k=f then(k,v)::r else(k,x)::C5 f v r) from rfl]
   by_cases hk:k=f
   .rw[gW hk]
    by_cases h:g=k
    .have hb:(g==k)=true:=gK.mpr h;simp only[List.lookup,hb,gW (h.trans hk)]
    .have hb:(g==k)=false:=gb.mpr h;simp only[List.lookup,hb,gX (λe:g=f=>h (e.trans hk.symm))]
   .rw[gX hk]
    by_cases h:g=k
    .have hb:(g==k)=true:=gK.mpr h;simp only[List.lookup,hb,gX (λe:g=f=>hk (h.symm.trans e))]
    .have hb:(g==k)=false:=gb.mpr h;simp only[List.lookup,hb];exact ih
theorem HS(f:Str)(v:V):∀fs:List (Str×V),f∈(C5 f v fs).map (·.1)/\∀g,g∈fs.map (·.1)->g∈(C5 f v fs).map (·.1)
 |[]=>⟨by simp[C5],λg h=>by simp at h⟩
 |(k,x)::r=>by
   clear 5(HS f v r)i1 i2;rw[show C5 f v ((k,x)::r)=(if k=f then(k,v)::r else(k,x)::C5 f v r) from rfl]
   by_cases hk:k=f
   .rw[gW hk];subst hk;exact⟨by simp,λg h=>by simpa using h⟩
   .rw[gX hk];refine⟨?_,λg h=>?_⟩
    .rw[ul3];exact ud6 _ i1
    .rw[ul3] at h⊢;rcases ul2.mp h with e|e
     .exact ul2.mpr (.inl e)
     .exact ud6 _ (i2 g e)
theorem IT(f:Str)(v:V):∀fs:List (Str×V),(C5 f v fs).length<=fs.length+1
 |[]=>by simp[C5]
 |(k,x)::r=>by
   have ih:=IT f v r;rw[show C5 f v ((k,x)::r)=(if k=f then(k,v)::r else(k,x)::C5 f v r) from rfl]
   by_cases hk:k=f
   .rw[gW hk,uh2,uh2];lia
   .rw[gX hk,uh2,uh2];lia
theorem RelO.some_of{o:Option fc}(r:RelO (some v) o):∃u,o=some u/\RelV v u:=by
 cases o with
 |none=>exact(show False from r).elim
 |some u=>exact⟨u,rfl,r⟩
theorem RelO.none_of{o:Option fc}(r:RelO none o):o=none:=by
 cases o with
 |none=>rfl
 |some u=>exact(show False from r).elim
theorem QG(r:RelV v u):PySem.W.handedIn u=true:=by
 cases v with
 |non=>cases (show u=Value.none from r);rfl
 |bl b=>cases (show u=Value.bool b from r);rfl
 |int i=>clear 5((show ∃t,u=Value.int i t from r))t e;cases e;rfl
 |str x=>clear 5((show ∃t,u=Value.str x t from r))t e;cases e;rfl
 |byt b=>clear 5((show ∃t,u=Value.bytes b t from r))t e;cases e;rfl
 |flt b=>clear 5((show ∃t,u=Value.float b t from r))t e;cases e;rfl
 |ref a=>cases (show u=Value.ref a from r);rfl
 |ty n=>cases (show u=Value.type n from r);rfl
section
variable{P:fh}{w:fj}{H H':Hp}{h h':Heap}{a C dx:ff}{fs fs':List (Str×V)}
theorem IB(hok:HOk P w H h)(e:H a=some (.ins C dx fs)):∃mA,ObjM h a dx C mA/\(∀f,RelO (fs.lookup f) (mA f))/\PySem.Within mA (fs.map (·.1))/\fs.length<=1000/\H dx=some (.own a):=by
 clear 5((show ObjOk P w H h a (.ins C dx fs) from hok a _ e))d z ne ob mA n r q;exact⟨mA,⟨ob,n,ne⟩,r,q,z,d⟩
end
structure Cls(K:eh)(C:ff):Prop where
 pg:PySem.W.plainGet K C Str.empty=true
 hd:PySem.W.hasDictIn K C=true
 po:PySem.W.plainOver K C=true
 sa:PySem.W.findIn K (.ref C) "__setattr__" = some (some (.builtin "object.__setattr__"))
theorem Cls.get{K:eh}{C:ff}(c:Cls K C)(f:Str):PySem.W.plainGet K C f=true:=c.pg
def NoAttr(K:eh)(C:ff)(f:Str):Prop:=PySem.W.findIn K (.ref C) f=some none
theorem NoAttr.taker{f:Str}(n:NoAttr K C f):PySem.W.takerIn K C f=some none:=by
 unfold PySem.W.takerIn;rw[show PySem.W.findIn K (.ref C) f=some none from n];rfl
structure Con(K:eh)(C:ff)(f:Str)(v:V)(u:fc):Prop where
 at_:PySem.W.findIn K (.ref C) f=some (some u)
 rel:RelV v u
 get:PySem.W.specialIn K u "__get__" = some none
 cp:PySem.W.copiedNames.contains f=false
structure Meth(K:eh)(C:ff)(m:Str)(f:ff):Prop where
 at_:PySem.W.findIn K (.ref C) m=some (some (.ref f))
 fn:PySem.W.isFn K (.ref f)=true
 kp:PySem.W.keepIn K (.ref f)=true
section
variable{X:Cx}{fb:List (ff×Obj)}{σ:St}{H:Hp}{s:fg}{a C dx:ff}{fs:List (Str×V)}{f:Str}{v:V}{A:Around}{E:fc->fg->Prop}
theorem O6{b:Bool}{Q:fc->fg->Prop}(I:Inv X fb σ H s)(e:H a=some (.ins C dx fs))(c:Cls X.K C)(n:NoAttr X.K C f)(l:fs.lookup f=some v)
 (h:∀u s',Inv X fb σ H s'->RelV v u->Q u s'):wpAny (model X.prog X.w) A (getAttr (.ref a) f b) Q E s:=by
 obtain⟨mA,O,r,_,_,_⟩:=IB I.hok e;clear 5(RelO.some_of (v:=v) (o:=mA f) (by rw[<-l];exact r f))u hu ru;exact Vp I.kIn O (c.get f) c.hd n hu (QG ru) (h u _ (I.tok _) ru)
theorem O7{m:Str}{g:ff}{Q:fc×List fc->fg->Prop}(I:Inv X fb σ H s)(e:H a=some (.ins C dx fs))(c:Cls X.K C)(k:Meth X.K C m g)(l:fs.lookup m=none)
 (h:Q (.ref g,[.ref a]) s):wpAny (model X.prog X.w) A (getMethod (.ref a) m pl) Q E s:=by
 obtain⟨mA,O,r,_,_,_⟩:=IB I.hok e;have hn:mA m=none:=RelO.none_of (by rw[<-l];exact r m);exact Tj I.kIn O (c.get m) k.at_ k.fn hn h
theorem PD{y:V}(I:Inv X fb σ H s)(e:H a=some (.ins C dx fs))(c:Cls X.K C)(n:NoAttr X.K C f)(hl:fs.length<1000)(ry:RelV y u)
 (h:∀s',Inv X fb σ (upd H a (.ins C dx (C5 f y fs))) s'->Q () s'):wpAny (model X.prog X.w) A (setAttr (.ref a) f u) Q E s:=by
 obtain⟨mA,O,r,wi,_,ho⟩:=IB I.hok e;have hz:(fs.map (·.1)).length<=sizeLine:=by rw[uj1,gJ];lia
 refine WY I.kIn O c.sa c.po n.taker c.hd wi hz λh' O' sb=>h _ ?_;have hd:∃o,h'.get? dx=some o:=let ⟨o,_,_,e',_⟩:=O'.ns;⟨o,e'⟩;refine I.write (x:=a) (e:=dx) (by rw[e];exact True.intro) (.inr ho) (λb q hb z=>(sb.2 b hb).trans z) hd ?_;refine⟨by rw[Av O.ne];exact ho,?_,O.ne,O'.obj,_,O'.ns,λg=>?_,λg hg=>?_⟩
 .have:=IT f y fs;lia
 .show RelO ((C5 f y fs).lookup g) (if g=f then some u else mA g);rw[IW]
  by_cases q:g=f
  .rw[gW q,gW q];exact ry
  .rw[gX q,gX q];exact r g
 .by_cases q:g=f
  .rw[q];exact(HS f y fs).1
  .refine(HS f y fs).2 g (wi g λz=>hg ?_);show(if g=f then some u else mA g)=none;rw[gX q];exact z
theorem Inv.made(I:Inv X fb σ H s):Inv X fb σ (upd (upd H s.heap.objs.size (.own (s.heap.objs.size+1))) (s.heap.objs.size+1) (.ins C s.heap.objs.size []))
 {s with heap:=(s.heap.push PySem.W.emptyDict).push (PySem.W.instObj C s.heap.objs.size)}:=by
 have e1:(s.heap.push PySem.W.emptyDict).get? s.heap.objs.size=some PySem.W.emptyDict:=ue4 s.heap rfl;have e2:((s.heap.push PySem.W.emptyDict).push (PySem.W.instObj C s.heap.objs.size)).get? (s.heap.objs.size+1)=some (PySem.W.instObj C s.heap.objs.size):=by
  have:=ue4 (s.heap.push PySem.W.emptyDict) (o:=PySem.W.instObj C s.heap.objs.size) rfl
  rwa [uk7] at this
 have e3:(s.heap.push PySem.W.emptyDict).Ns s.heap.objs.size (λ_=>none):=⟨PySem.W.emptyDict,#[],_,e1,rfl,(λe he=>absurd he (by simp)),λ_=>rfl⟩;have I1:=I.laid (a:=s.heap.objs.size) (o:=.own (s.heap.objs.size+1)) (h':=s.heap.push PySem.W.emptyDict) (t':=s.toks) (λb u q=>ub9 _ q) (un5 _) ⟨_,e1⟩;refine I1.laid (a:=s.heap.objs.size+1) (o:=.ins C s.heap.objs.size []) (t':=s.toks) (λb u q=>ub9 _ q) (gD (uk7 _ _)) ?_;have ne:s.heap.objs.size≠s.heap.objs.size+1:=um2 (uh3 _);refine⟨by rw[Av ne,AJ],un6 _,ne,e2,λ_=>none,(Heap.Ns1.of_empty e3).at λo q=>ub9 _ q,λ_=>True.intro,λy hy=>absurd rfl hy⟩
theorem UW{prog:fh}{env:Env}{f:Str}{pos:Pos}{s:fg}{Q:fc->fg->Prop}(hb:attributeBase e f env (eval e env)=eval e env)
 (h:wpAny (model prog w) A (eval e env) (λo s₁=>wpAny (model prog w) A (getAttr o f true) Q E s₁) E s):wpAny (model prog w) A (eval (.Attribute e f pos) env) Q E s:=
 Attribute_any_ h (by rw[arm_eval_Attribute,hb])
end
def bR(K:eh)(ta:TE)(f:Str):TE:=λσ H Q=>ta σ H λx H1=>∃a C dx fs v,x=.ref a/\H1 a=some (.ins C dx fs)/\Cls K C/\NoAttr K C f/\fs.lookup f=some v/\Q v H1
def bP(K:eh)(ta tv:TE)(f:Str):TS:=λD σ H=>tv σ H λy H1=>ta σ H1 λx H2=>∃a C dx fs,x=.ref a/\H2 a=some (.ins C dx fs)/\Cls K C/\NoAttr K C f/\fs.length<1000/\
 D.nx σ (upd H2 a (.ins C dx (C5 f y fs)))
section
variable{X:Cx}{o e value:Expr}{f:Str}{pos pos' tpos:Pos}{ta tv:TE}
theorem YH(he:PE X e ta)(hb:attributeBase e f X.env (eval e X.env)=eval e X.env):PE X (.Attribute e f pos) (bR X.K ta f):=by
 intro fb s σ H Q I h;refine UW hb (thn (he fb s σ H _ I h) λu s1 z9=>?_);clear 5 z9 x H1 I1 rx a C dx fs v ex ea c n l q;subst ex;obtain rfl:u=Value.ref a:=rx;exact O6 I1 ea c n l λu' s2 I2 ru=>⟨v,H1,I2,ru,q⟩
theorem YS(ha:PE X o ta)(hv:PE X value tv)(hs:swapsWith value (some (.Attribute o f pos')) pos.line X.env=pure false):PS X (.Assign [.Attribute o f pos'] value pos) (bP X.K ta tv f):=by
 intro fb s σ H D I h;refine plainObj_wpAny_Assign_Attribute (thn (hv fb s σ H _ I h) λu s1 ⟨y,H1,I1,ry,q⟩=>thn (ha fb s1 σ H1 _ I1 q) λov s2 z9=>?_) hs;clear 5 z9 x H2 I2 rx a C dx fs ex ea c n l q2;subst ex;obtain rfl:ov=Value.ref a:=rx;exact PD I2 ea c n l ry λs3 I3=>⟨σ,_,I3,q2⟩
end
section
variable{X:Cx}{fb:List (ff×Obj)}{σ:St}{H:Hp}{s:fg}{A:Around}{E:fc->fg->Prop}{Q:fc->fg->Prop}{c:fc}{b:Bool}
inductive TyOf(K:eh)(H:Hp):V->fc->Prop where
 |non:TyOf K H .non (.type "NoneType")
 |bl (x:Bool):TyOf K H (.bl x) (.type "bool")
 |int (i:Int):TyOf K H (.int i) (.type "int")
 |str (x:Str):TyOf K H (.str x) (.type "str")
 |flt (x:UInt64):TyOf K H (.flt x) (.type "float")
 |lst {a:ff}{xs:List V} (e:H a=some (.lst xs)):TyOf K H (.ref a) (.type "list")
 |frz {a:ff}{o:Obj}{xs:List V} (e:H a=some (.frz o (.lst xs))):TyOf K H (.ref a) (.type "list")
 |tup {a:ff}{xs:List V} (e:H a=some (.tup xs)):TyOf K H (.ref a) (.type "tuple")
 |dK {a:ff}{kvs:List (Key×V)} (e:H a=some (.dK kvs)):TyOf K H (.ref a) (.type "dict")
 |dT {a:ff}{kvs:List (List Key×V)} (e:H a=some (.dT kvs)):TyOf K H (.ref a) (.type "dict")
 | ins {a C dx:ff} {fs:List (Str×V)} (e:H a=some (.ins C dx fs)) (cl:Cls K C) (ha:PySem.W.findIn K (.ref C) "__class__" = some (some (.builtin "object.__class__")))
    (hn:PySem.W.specialIn K (.builtin "object.__class__") "__get__" = some (some (.builtin "getset_descriptor.__get__"))) (htk:PySem.W.takesIn K (.builtin "object.__class__")=some true)
    (hm:PySem.W.mroIn K C (.type "object")=some true):TyOf K H (.ref a) (.ref C)
theorem QN{x:V}{t:fc}(I:Inv X fb σ H s)(rx:RelV x u)(ty:TyOf X.K H x t)(e:PySem.W.kitOne X.K t c=some b)(h:∀tk,Q (.bool b) {s with toks:=tk}) :
 wpAny (model X.prog X.w) A (call (.builtin "isinstance") [u,c]) Q E s:=by
 cases ty with
 |non=>cases (show u=Value.none from rx);exact uj2 PySem.W.kitx_none I.kIn True.intro e (λz=>nomatch z) h
 |bl y=>cases (show u=Value.bool y from rx);exact uj2 PySem.W.kitx_bool I.kIn True.intro e (λz=>nomatch z) h
 |int i=>clear 5((show ∃t,u=Value.int i t from rx))t q;cases q;exact uj2 PySem.W.kitx_int I.kIn True.intro e (λz=>nomatch z) h
 |str y=>clear 5((show ∃t,u=Value.str y t from rx))t q;cases q;exact uj2 PySem.W.kitx_str I.kIn True.intro e (λz=>nomatch z) h
 |flt y=>clear 5((show ∃t,u=Value.float y t from rx))t q;cases q;exact uj2 PySem.W.kitx_float I.kIn True.intro e (λz=>nomatch z) h
 |@lst a xs ea=>
   cases (show u=Value.ref a from rx)
   obtain⟨_,_,n,_,h1⟩:=(show ObjOk X.prog X.w H s.heap a (.lst xs) from I.hok a _ ea);exact uj2 PySem.W.kitx_list I.kIn ⟨_,h1,rfl⟩ e (λz=>nomatch z) h
 |@frz a ob xs ea=>
   cases (show u=Value.ref a from rx)
   obtain⟨_,_,_,n,_,h1⟩:=(show ObjOk X.prog X.w H s.heap a (.frz ob (.lst xs)) from I.hok a _ ea);exact uj2 PySem.W.kitx_list I.kIn ⟨_,h1,rfl⟩ e (λz=>nomatch z) h
 |@tup a xs ea=>
   cases (show u=Value.ref a from rx)
   obtain⟨_,_,_,p⟩:=(show ObjOk X.prog X.w H s.heap a (.tup xs) from I.hok a _ ea);obtain⟨o,h1,h2,_⟩:=p;exact uj2 PySem.W.kitx_tuple I.kIn ⟨o,h1,h2⟩ e (λz=>nomatch z) h
 |@dK a kvs ea=>
   cases (show u=Value.ref a from rx)
   obtain⟨_,_,vs,_,p⟩:=(show ObjOk X.prog X.w H s.heap a (.dK kvs) from I.hok a _ ea);obtain⟨o,es,ep,h1,h2,_⟩:=p;exact uj2 PySem.W.kitx_dict I.kIn ⟨o,h1,h2.1⟩ e (λz=>nomatch z) h
 |@dT a kvs ea=>
   cases (show u=Value.ref a from rx)
   obtain⟨_,_,xs,_,o,es,ep,h1,h2,_⟩:=(show ObjOk X.prog X.w H s.heap a (.dT kvs) from I.hok a _ ea);exact uj2 PySem.W.kitx_dict I.kIn ⟨o,h1,h2.1⟩ e (λz=>nomatch z) h
 |@ins a C dx fs ea cl ha hn htk hm=>
   cases (show u=Value.ref a from rx)
   obtain⟨mA,O,_⟩:=IB I.hok ea;obtain⟨od,J,_⟩:=O.look;exact uj2 (PySem.W.kitx_own (cl.get _) cl.hd ha hn htk hm) I.kIn J e (λz=>nomatch z) h
end
structure Room(k:Nat)(A:Around):Prop where
 hd:A.handled=none
 dp:A.depth+3*k+5<recursionLimit
 un:A.units+16*k+200<cLine
theorem Room.mono{j k:Nat}{A:Around}(r:Room k A)(h:j<=k):Room j A:=⟨r.hd,by have:=r.dp;lia,by have:=r.un;lia⟩
theorem Room.deeper{k:Nat}{A:Around}(r:Room (k+1) A)(env:Env):Room k (A.deeper env):=
 ⟨r.hd,by have:=r.dp;show A.depth+1+3*k+5<_;lia,by have:=r.un;show A.units+3+16*k+200<_;lia⟩
theorem Pf{A:Around}:(A.under (.builtin "type.__call__" ⟨.ref C::us,kw⟩)).depth=A.depth+1:=by
 first|rfl|simp[Around.under,Code.weight,Code.isCreation,Code.isGuard,Code.isCaller,Code.frames,Code.isFrame,guardIds]
theorem Pg{A:Around}:(A.under (.builtin "type.__call__" ⟨.ref C::us,kw⟩)).units=A.units+1:=by
 first|rfl|simp[Around.under,Code.cUnits,Code.frames,Code.isFrame]
theorem Room.make{k:Nat}{A:Around}(r:Room (k+1) A)(C:ff)(us:List fc)(kw:List (Str×fc)):Room k (A.under (.builtin "type.__call__" ⟨.ref C::us,kw⟩)):=
 ⟨r.hd,by have:=r.dp;rw[Pf];lia,by have:=r.un;rw[Pg];lia⟩
theorem Room.depth{k:Nat}{A:Around}(r:Room k A):A.depth<recursionLimit:=by have:=r.dp;lia
theorem Room.units{k:Nat}{A:Around}(r:Room k A):A.units+64<cLine:=by have:=r.un;lia
def bW:TA:=λ_ H Q=>Q [] H
def aj(ta:TE)(tr:TA):TA:=λσ H Q=>ta σ H λx H1=>tr σ H1 λxs H2=>Q (x::xs) H2
section
variable{X:Cx}{e:Expr}{es:List Expr}{te:TE}{t:TA}{pos:Pos}
theorem Ri:PA X [] bW:=λ_ _ _ _ H Q I h=>Calls.spliced_nil ⟨[],H,I,.nil,h⟩
theorem N8(ha:PE X e te)(hr:PA X es t)(hs:starEach (e::es) X.env=(false,eval e X.env)::starEach es X.env:=by rfl):PA X (e::es) (aj te t):=by
 intro pos fb s σ H Q I h;rw[hs];show wpAny _ _ (spliced ((false,eval e X.env)::backTo pos (starEach es X.env))) _ _ s;refine Calls.spliced_cons (thn (ha fb s σ H _ I h) λu s1 z9=>?_);clear 5 z9 x H1 I1 r1 q1;exact thn (hr pos fb s1 σ H1 _ I1 q1) λus s2 ⟨xs,H2,I2,r2,q2⟩=>⟨x::xs,H2,I2,.cons r1 r2,q2⟩
def b8(t:TA):TE:=λσ H Q=>t σ H λxs H1=>xs.length<=sizeLine/\∀p,H1 p=none->Q (.ref p) (upd H1 p (.tup xs))
def bV(t:TA):TE:=λσ H Q=>t σ H λxs H1=>xs.length<=sizeLine/\∀p,H1 p=none->Q (.ref p) (upd H1 p (.lst xs))
theorem YN{x1}(h:PA X es t):PE X (.Tuple es x1 pos) (b8 t):=by
 intro fb s σ H Q I hq;refine wpAny_Tuple_spliced (thn (h pos fb s σ H _ I hq) λus s1 z9=>?_);clear 5 z9 xs H1 I1 r z q;refine⟨by rw[<-r.length];exact z,?_⟩;have hf:H1 s1.heap.objs.size=none:=I1.hok.fresh (un5 _);refine⟨.ref s1.heap.objs.size,upd H1 s1.heap.objs.size (.tup xs),I1.laid (t':=s1.toks) (λb u e=>ub9 _ e) (un5 _) ?_,rfl,q _ hf⟩;exact⟨z,us,r,⟨_,ue4 _ rfl,rfl,_,rfl⟩⟩
theorem YJ(h:PA X es t):PE X (.List es pos) (bV t):=by
 intro fb s σ H Q I hq;refine wpAny_List_spliced (thn (h pos fb s σ H _ I hq) λus s1 z9=>?_);clear 5 z9 xs H1 I1 r z q;refine⟨by rw[<-r.length];exact z,?_⟩;have hf:H1 s1.heap.objs.size=none:=I1.hok.fresh (un5 _);refine⟨.ref s1.heap.objs.size,upd H1 s1.heap.objs.size (.lst xs),I1.laid (t':=s1.toks) (λb u e=>ub9 _ e) (un5 _) ?_,rfl,q _ hf⟩;exact⟨z,us,0,r,ue4 _ rfl⟩
end
abbrev Sp:=List V->Hp->VK->XK->Prop
abbrev CXT:=List Env->Hp->fg->XK->fc->fg->Prop
structure Env0(P:fh)(w:fj)(K:eh)(mg:Str->Option fc)(base:Heap)(A:Around)(outer:List Env)(s:fg)(H:Hp):Prop where
 frames:A.frames=some outer
 mod:Mod K mg base
 bs:∀b o,base.get? b=some o->s.heap.get? b=some o/\H b=none
 bsz:base.objs.size<=s.heap.objs.size
 funs:s.heap.FunFrames base outer
 frf:∀b∈frs outer,H b=none
 hok:HOk P w H s.heap
 bare:AllBare s.gens
def CE(outer:List Env)(P:fh)(w:fj)(H:Hp)(s:fg)(Q:VK)(u:fc)(s':fg):Prop:=
 ∃v H',s'.os=s.os/\AllBare s'.gens/\Un (frs outer) [] H H' s.heap s'.heap/\HOk P w H' s'.heap/\RelV v u/\Q v H'
def CR(CX:CXT)(outer:List Env)(P:fh)(w:fj)(H:Hp)(s:fg)(Q:VK)(E:XK)(r:Result)(s':fg):Prop:=
 match r with
 |.ok (.ret u)=>CE outer P w H s Q u s'
 |.ok _=>False
 |.error e=>CX outer H s E e s'
structure FnOk(P:fh)(w:fj)(K:eh)(mg:Str->Option fc)(base:Heap)(CX:CXT)(k:Nat)(f:ff)(fd:fk)(ps:List Str)(sp:Sp):Prop where
 len:∀vs H Q E,sp vs H Q E->vs.length=ps.length
 run:∀(A:Around) (outer:List Env) (s:fg) (H:Hp) (args:Args) (us:List fc) (vs:List V) (Q:VK) (E:XK),Room k A->Env0 P w K mg base A outer s H->BindsTo s fd args (ps.zip us)->Vals vs us->sp vs H Q E->
  codeAny (model P w) A (.call (.ref f) args) (CR CX outer P w H s Q E) s
theorem FnOk.mono{P:fh}{w:fj}{K:eh}{mg:Str->Option fc}{base:Heap}{CX:CXT}{j k:Nat}{f:ff}{fd:fk}{ps:List Str}{sp:Sp}(F:FnOk P w K mg base CX j f fd ps sp)(h:j<=k) :
 FnOk P w K mg base CX k f fd ps sp:=⟨F.len,λA outer s H args us vs Q E hr=>F.run A outer s H args us vs Q E (hr.mono h)⟩
variable{mg:Str->Option fc}{base:Heap}
theorem Env0.make{A:Around}{outer:List Env}(e:Env0 P w K mg base A outer s H)(C:ff)(us:List fc)(kw:List (Str×fc)) :
 Env0 P w K mg base (A.under (.builtin "type.__call__" ⟨.ref C::us,kw⟩)) outer s H:=⟨by first|exact e.frames|(simpa[Around.under,Code.envs,Code.isFrame,pushEnvs] using e.frames),e.mod,e.bs,e.bsz,e.funs,e.frf,e.hok,e.bare⟩
section
variable{X:Cx}{fb:List (ff×Obj)}{σ:St}{H:Hp}{s s':fg}
theorem Inv.env0(I:Inv X fb σ H s):Env0 X.prog X.w X.K X.mg X.base X.A X.stack s H:=
 ⟨I.ok.frames,I.ok.mod,I.bs,um3 I.ok.bsz I.sz,I.stack,I.stkFree,I.hok,I.bare⟩
theorem Inv.after{Q:VK}(I:Inv X fb σ H s)(h:CE X.stack X.prog X.w H s Q u s'):EP X fb σ Q u s':=by
 clear 5 h v H' os bare un hok r q;clear 5 s' hh g d t os';obtain rfl:os'=s.os:=os;exact⟨v,H',I.call (h':=hh) (g':=g) (d':=d) (t':=t) (ch:=[]) un hok bare (λb z=>absurd z (by simp)),r,q⟩
end
def ai(sp:Sp)(dvs:List V)(E:XK)(t:TA):TE:=λσ H Q=>t σ H λvs H1=>sp (vs++dvs) H1 Q E
def am(C:ff)(m:Str)(sp:Sp)(dvs:List V)(E:XK)(ta:TE)(t:TA):TE:=λσ H Q=>ta σ H λx H1=>∃a dx fs,x=.ref a/\H1 a=some (.ins C dx fs)/\fs.lookup m=none/\
 t σ H1 λvs H2=>sp (x::(vs++dvs)) H2 Q E
def al(C:ff)(sp:Sp)(dvs:List V)(E:XK)(t:TA):TE:=λσ H Q=>t σ H λvs H1=>∀x dx,H1 x=none->H1 dx=none->dx≠x->
 sp (.ref x::(vs++dvs)) (upd (upd H1 dx (.own x)) x (.ins C dx [])) (λv H2=>v=.non/\Q (.ref x) H2) E
def Binds(K:eh)(fd:fk)(ps:List Str)(ds:List fc):Prop:=
 ∀(s:fg) (us:List fc),K.In s.heap->(us++ds).length=ps.length->BindsTo s fd ⟨us,[]⟩ (ps.zip (us++ds))
theorem Binds.all{fd:fk}{ps:List Str}(h:∀us:List fc,us.length=ps.length->bindArgs fd ⟨us,[]⟩=pure (ps.zip us)):Binds K fd ps []:=λs us _ hl=>by
 rw[uj3] at hl⊢;exact .of_eq (h us hl)
def Gz(CX:CXT)(X:Cx)(E:XK):Prop:=∀(fb:List (ff×Obj)) (σ:St) (H:Hp) (s:fg) (e:fc) (s':fg),Inv X fb σ H s->CX X.stack H s E e s'->X.xe e s'
variable{vs:List V}
section
variable{X:Cx}{CX:CXT}{k:Nat}{f C:ff}{fd:fk}{ps:List Str}{sp:Sp}{dvs:List V}{ds:List fc}{E:XK}{x m:Str}{p pos apos:Pos}{e o:Expr}{es:List Expr}{ta:TE}{t:TA}
theorem Ry{Q:VK}(F:FnOk X.prog X.w X.K X.mg X.base CX k f fd ps sp)(hr:Room k X.A)(hb:Binds X.K fd ps ds)(hd:Vals dvs ds)(hx:Gz CX X E)
 (I:Inv X fb σ H s) (r:Vals vs us) (h:sp (vs++dvs) H Q E):wpAny (model X.prog X.w) X.A (call (.ref f) us) (EP X fb σ Q) X.xe s:=by
 have r2:Vals (vs++dvs) (us++ds):=r.append hd;have hl:(us++ds).length=ps.length:=by rw[<-r2.length];exact F.len _ _ _ _ h
 refine gL (gE (F.run X.A X.stack s H ⟨us,[]⟩ (us++ds) (vs++dvs) Q E hr I.env0 (hb s us I.kIn hl) r2 h) λr s' hq=>?_)
 cases r with
 |error e=>exact hx fb σ H s e s' I hq
 |ok fl=>
   cases fl with
   |ret u=>exact I.after hq
   |next=>exact False.elim hq
   |brk=>exact False.elim hq
   |cont=>exact False.elim hq
theorem N9(F:FnOk X.prog X.w X.K X.mg X.base CX k f fd ps sp)(hr:Room k X.A)(hg:Gl X x)(hm:X.mg x=some (.ref f))(hk:PySem.W.keepIn X.K (.ref f)=true)(hb:Binds X.K fd ps ds)(hd:Vals dvs ds)(hx:Gz CX X E)
 (ha:PA X (e::es) t) (hdb:(x==("__debug__":Str))=false:=by decide) (he:starEach (e::es) X.env=(false,eval e X.env)::starEach es X.env:=by rfl) (hpl:(backTo pos (starEach es X.env)).any (·.1)=false:=by rfl) :
 PE X (.Call (.Name x p) (e::es) [] pos) (ai sp dvs E t):=by
 intro fb s σ H Q I h;refine gg (EM I hg hm ?_ hdb);refine uf3 (h₀:=X.base) I.ok.mod.kin hk (thn (ha pos fb s σ H _ I h) λus s1 z9=>?_) he hpl;clear 5 z9 vs H1 I1 r q;refine⟨I1.kIn,?_⟩;exact Ry F hr hb hd hx I1 r q
theorem Wg(he:PE X o ta)(c:Cls X.K C)(hm:Meth X.K C m f)(F:FnOk X.prog X.w X.K X.mg X.base CX k f fd ps sp)(hr:Room k X.A)(hb:Binds X.K fd ps ds)(hd:Vals dvs ds)(hx:Gz CX X E)(ha:PA X (e::es) t)
 (hst:starEach (e::es) X.env=(false,eval e X.env)::starEach es X.env:=by rfl) (hpl:(backTo pos (starEach es X.env)).any (·.1)=false:=by rfl)
 (ht:eval (.Call (.Attribute o m apos) (e :: es) [] pos) X.env=(do
   let ov <-eval o X.env
   standAt apos.atName
   let (f,first) <-holding [ov] (getMethod ov m pl)
   callWith pos f first (backTo pos (starEach (e::es) X.env)) (backToKw pos (keywordEach [] X.env))):=by rfl) :
 PE X (.Call (.Attribute o m apos) (e::es) [] pos) (am C m sp dvs E ta t):=by
 intro fb s σ H Q I h;refine PySem.W.methodCall_KW (pl:=pl) (thn (he fb s σ H _ I h) λu s1 z9=>?_) ht;clear 5 z9 x H1 I1 rx a dx fs ex ea l q;subst ex;obtain rfl:u=Value.ref a:=rx;refine O7 I1 ea c hm l ?_;refine uf3 (first:=[.ref a]) (h₀:=X.base) I.ok.mod.kin hm.kp (thn (ha pos fb s1 σ H1 _ I1 q) λus s2 z9=>?_) hst hpl;clear 5 z9 vs H2 I2 r q2;refine⟨I2.kIn,?_⟩;exact Ry (us:=.ref a::us) (vs:=.ref a::vs) F hr hb hd hx I2 (.cons rfl r) q2
structure Mk(K:eh)(C f:ff):Prop where
 makes:PySem.W.makesIn K C=true
 init:PySem.W.findIn K (.ref C) "__init__" = some (some (.ref f))
 fn:PySem.W.isFn K (.ref f)=true
 kp:PySem.W.keepIn K (.ref C)=true
theorem TY{Q:VK}(M:Mk X.K C f)(F:FnOk X.prog X.w X.K X.mg X.base CX k f fd ps sp)(hr:Room (k+1) X.A)(hb:Binds X.K fd ps ds)(hd:Vals dvs ds)
 (hx:Gz CX X E) (I:Inv X fb σ H s) (r:Vals vs us)
 (h:∀x dx,H x=none->H dx=none->dx≠x->sp (.ref x::(vs++dvs)) (upd (upd H dx (.own x)) x (.ins C dx [])) (λv H2=>v=.non/\Q (.ref x) H2) E) :
 wpAny (model X.prog X.w) X.A (call (.ref C) us) (EP X fb σ Q) X.xe s:=by
 have hq:=h (s.heap.objs.size+1) s.heap.objs.size (I.hok.fresh (un7 _)) (I.hok.fresh (un5 _)) (um2 (uh3 _));have I2:=Inv.made (C:=C) I;have r2:Vals (V.ref (s.heap.objs.size+1)::(vs++dvs)) (Value.ref (s.heap.objs.size+1)::(us++ds)):=.cons rfl (r.append hd);have hl:(Value.ref (s.heap.objs.size+1)::us++ds).length=ps.length:=by
  have e:=r2.length;rw[F.len _ _ _ _ hq] at e;exact e.symm
 refine gL (Tr (f:=f) I.kIn M.makes M.init (gK.mp M.fn) (gE (F.run _ X.stack _ _ ⟨Value.ref (s.heap.objs.size+1)::us,[]⟩ (Value.ref (s.heap.objs.size+1)::(us++ds)) _ _ E (hr.make C us [])
  (I2.env0.make C us []) (hb _ (Value.ref (s.heap.objs.size+1)::us) I2.kIn hl) r2 hq) λr s' hq'=>?_))
 cases r with
 |error e=>exact hx fb σ _ _ e s' I2 hq'
 |ok fl=>
   cases fl with
   |ret u=>
     clear 5(I2.after hq')v H' I3 rv ev q3;subst ev;exact⟨rv,⟨V.ref (s.heap.objs.size+1),H',I3,rfl,q3⟩⟩
   |next=>exact False.elim hq'
   |brk=>exact False.elim hq'
   |cont=>exact False.elim hq'
theorem We(M:Mk X.K C f)(F:FnOk X.prog X.w X.K X.mg X.base CX k f fd ps sp)(hr:Room (k+1) X.A)(hg:Gl X x)(hm:X.mg x=some (.ref C))(hb:Binds X.K fd ps ds)(hd:Vals dvs ds)(hx:Gz CX X E)
 (ha:PA X (e::es) t) (hdb:(x==("__debug__":Str))=false:=by decide) (he:starEach (e::es) X.env=(false,eval e X.env)::starEach es X.env:=by rfl) (hpl:(backTo pos (starEach es X.env)).any (·.1)=false:=by rfl) :
 PE X (.Call (.Name x p) (e::es) [] pos) (al C sp dvs E t):=by
 intro fb s σ H Q I h;refine gg (EM I hg hm ?_ hdb);refine uf3 (h₀:=X.base) I.ok.mod.kin M.kp (thn (ha pos fb s σ H _ I h) λus s1 z9=>?_) he hpl;clear 5 z9 vs H1 I1 r q;refine⟨I1.kIn,?_⟩;exact TY M F hr hb hd hx I1 r q
end
section
variable{X:Cx}{CX:CXT}{k:Nat}{f C:ff}{fd:fk}{ps ks:List Str}{sp:Sp}{E:XK}{x m:Str}{p pos apos kpos:Pos}{e o:Expr}{es:List Expr}{kws:List Keyword}{te ta:TE}{t tk:TA}{nm:Option Str}
structure KBinds(K:eh)(fd:fk)(ps ks:List Str)(g:List fc->List fc->List fc)(gV:List V->List V->List V):Prop where
 to:∀(s:fg) (us ws:List fc),K.In s.heap->(g us ws).length=ps.length->BindsTo s fd ⟨us,ks.zip ws⟩ (ps.zip (g us ws))
 rel:∀{vs:List V}{us:List fc}{zs:List V}{ws:List fc},Vals vs us->Vals zs ws->Vals (gV vs zs) (g us ws)
variable{g:List fc->List fc->List fc}{gV:List V->List V->List V}
end
structure FnScope(N P:List Str)(sc:Scope):Prop where
 kind:sc.kind=.function
 co:sc.isCoroutine=false
 gen:sc.isGenerator=false
 nd:N.Nodup
 pre:N.take P.length=P
 par:∀x∈P,sc.names.lookup x=some .local\/sc.names.lookup x=some .cell
 nofree:∀y∈sc.names,y.2≠.free
theorem K8{kindOf:Str->Option NameKind}{x:Str}:∀{binds:List (Str×fc)}{m:Str->Option fc},(∀v,(x,v)∉binds)->bindL kindOf binds m x=m x
 |[],_,_=>rfl
 |(n,v)::r,m,h=>by
   unfold bindL;rw[K8 λw hw=>h w (ud6 _ hw)]
   split
   .have:x≠n:=by rintro rfl;exact h v uf1
    simp[this]
   .rfl
theorem K6{kindOf:Str->Option NameKind}{x:Str}:∀{binds:List (Str×fc)}{m:Str->Option fc},(∀v,(x,v)∉binds)->bindC kindOf binds m x=m x
 |[],_,_=>rfl
 |(n,v)::r,m,h=>by
   unfold bindC;rw[K6 λw hw=>h w (ud6 _ hw)]
   split
   .rfl
   .have:x≠n:=by rintro rfl;exact h v uf1
    simp[this]
theorem K7{kindOf:Str->Option NameKind}{x:Str}{v:fc}:∀{P:List Str}{vs:List fc}{i:Nat}{m:Str->Option fc},P.Nodup->P[i]?=some x->vs[i]?=some v->kindOf x=some .local->
 bindL kindOf (P.zip vs) m x=some v
 |[],_,_,_,_,h,_,_=>by simp at h
 |_::_,[],_,_,_,_,h,_=>by simp at h
 |p::P,w::vs,0,m,nd,h1,h2,hk=>by
   simp at h1 h2;subst h1;subst h2;show bindL kindOf ((p,w)::P.zip vs) m p=_;unfold bindL;rw[K8 λv hv=>(uj4.mp nd).1 (uj5 hv).1,gW hk];simp
 |p::P,w::vs,i+1,m,nd,h1,h2,hk=>by
   show bindL kindOf ((p,w)::P.zip vs) m x=_;unfold bindL;exact K7 (i:=i) (uj4.mp nd).2 (by simpa using h1) (by simpa using h2) hk
theorem K5{kindOf:Str->Option NameKind}{x:Str}{v:fc}:∀{P:List Str}{vs:List fc}{i:Nat}{m:Str->Option fc},P.Nodup->P[i]?=some x->vs[i]?=some v->kindOf x≠some .local->
 bindC kindOf (P.zip vs) m x=some v
 |[],_,_,_,_,h,_,_=>by simp at h
 |_::_,[],_,_,_,_,h,_=>by simp at h
 |p::P,w::vs,0,m,nd,h1,h2,hk=>by
   simp at h1 h2;subst h1;subst h2;show bindC kindOf ((p,w)::P.zip vs) m p=_;unfold bindC;rw[K6 λv hv=>(uj4.mp nd).1 (uj5 hv).1,gX hk];simp
 |p::P,w::vs,i+1,m,nd,h1,h2,hk=>by
   show bindC kindOf ((p,w)::P.zip vs) m x=_;unfold bindC;exact K5 (i:=i) (uj4.mp nd).2 (by simpa using h1) (by simpa using h2) hk
noncomputable def start(N:List Str)(vs:List V):St:=vs.map some++List.replicate (N.length-vs.length) none
noncomputable def EG(CX:CXT)(P:fh)(w:fj)(K:eh)(mg:Str->Option fc)(base:Heap)(N:List Str)(qual:Str)(scope:Scope)(f:ff)(cd:fc)(A:Around)(outer:List Env)(s:fg)(H:Hp)(E:XK):Cx where
 prog:=P
 w:=w
 K:=K
 mg:=mg
 base:=base
 A:=A.deeper (envOfC qual scope s.heap.objs.size f cd)
 N:=N
 s₀:=s
 H₀:=H
 env:=envOfC qual scope s.heap.objs.size f cd
 outer:=outer
 stack:=envOfC qual scope s.heap.objs.size f cd::outer
 ex:=[]
 calm:=true
 fn:=λ_=>true
 pn:=[]
 xe:=λe s'=>wpAny (model P w) (A.deeper (envOfC qual scope s.heap.objs.size f cd)) (leaving (envOfC qual scope s.heap.objs.size f cd) e) (λ_ s''=>CX outer H s E e s'') (λe' s''=>CX outer H s E e' s'') s'
theorem Mh{sc:Scope}{n:Nat}(h:sc.names.lookup x=some .cell):∃c,(cellsFrom n sc.names []).lookup x=some c:=by
 have q:=fV sc.names n [] (.inl h);exact Option.isSome_iff_exists.mp q
theorem QK{CX:CXT}{N ps:List Str}{qual:Str}{scope:Scope}{f:ff}{cd:fc}{A:Around}{outer:List Env}{s1:fg}{E:XK}
 (S:FnScope N ps scope) (hd:A.handled=none) (e0:Env0 P w K mg base A outer s H) (hl:vs.length=ps.length) (r:Vals vs us)
 (x:InCallC s s.heap.objs.size (bindL (envOfC qual scope s.heap.objs.size f cd).kindOf (ps.zip us) λ_=>none) (cellsFrom (s.heap.objs.size+1) scope.names []) (bindC (envOfC qual scope s.heap.objs.size f cd).kindOf (ps.zip us) λ_=>none) s1) :
 Inv (EG CX P w K mg base N qual scope f cd A outer s H E) [] (start N vs) H s1:=by
 have hpl:ps.length<=N.length:=by have:=gP List.length S.pre;rw[uh4] at this;lia
 clear 5 x.done h1 tk rfl hk;have noA:∀b:ff,b∉(EG CX P w K mg base N qual scope f cd A outer s H E).ex:=λb z=>absurd (show b∈([]:List ff) from z) (by simp);refine⟨⟨e0.mod,S.kind,rfl,rfl,un5 _,λy z c h1 h2=>?_,λy hy=>?_,λy c _ h=>?_,λ_=>hd,Around.frames_deeper e0.frames,.inr ⟨rfl,rfl⟩,λb z=>absurd z (noA b),e0.bs,e0.bsz,λb _ _=>noA b,λb z=>absurd z (noA b),e0.funs,e0.frf⟩,
  rfl,e0.bare,Un.kept hk,⟨_,x.toInCall.ns,λi y v h1 h2 h3=>?_⟩,λy c h=>⟨_,x.cell y c h⟩,e0.hok.fresh (un5 _),λy c h=>?_,λp hp=>absurd (show p∈([]:List (ff×Obj)) from hp) (by simp),e0.hok.kept hk,?_⟩
 .exact name_of_addr x.apart (ge h1) (ge h2)
 .have hy:scope.names.lookup y=some .cell\/scope.names.lookup y=some .free:=hy;rcases hy with hy|hy
  .exact Mh hy
  .exact absurd rfl (S.nofree _ (ge hy))
 .exact um4 (x.above y c (ge h))
 .have hi:i<vs.length:=by
   unfold start at h2
   by_cases hi:i<vs.length
   .exact hi
   .rw[ua5 (by simpa using hi)] at h2;rw[ub3] at h2
    split at h2<;>cases h2
  have ha:vs[i]?=some v:=by
   unfold start at h2;rw[ua9 (by simpa using hi),ug2] at h2
   cases e:vs[i]? with
   |none=>rw[e] at h2;cases h2
   |some a=>rw[e] at h2;cases h2;rfl
  clear 5(r.get ha)u hu rv;have hp:ps[i]?=some y:=by
   rw[<-S.pre,List.getElem?_take_of_lt (by lia)];exact h1
  have ndP:ps.Nodup:=by rw[<-S.pre];exact S.nd.sublist (List.take_sublist _ _)
  refine⟨u,rv,?_⟩;rcases S.par y (ud9 hp) with k|k
  .exact .inl ⟨k,K7 ndP hp hu k⟩
  .clear 5(Mh (n:=s.heap.objs.size+1) k)c e;refine .inr ⟨.inl k,c,e,?_⟩;have q:=x.cell y c e;rw[K5 ndP hp hu (by show scope.names.lookup y≠_;rw[k];decide)] at q;exact q
 .exact e0.hok.fresh (um4 (x.above y c (ge h)))
 .unfold start;show _=N.length;rw[uf4,uj1,uc7];lia
theorem UE{CX:CXT}{k:Nat}{f:ff}{name qual:Str}{params:Arguments}{body:List Stmt}{scope:Scope}{dV kV doc pm cdv ct oc:fc}{an od:Option ff}
 {osl:Array (Option fc)}{N ps:List Str}{sp:Sp} (lk:K.lookup f=some ⟨oc,od,.func (PySem.W.fnOf name qual params body scope dV kV doc pm an cdv ct),osl⟩) (hcd:codeIn K cdv qual=true) (S:FnScope N ps scope)
 (len:∀vs H Q E,sp vs H Q E->vs.length=ps.length)
 (hbody:∀(A:Around) (outer:List Env) (s:fg) (H:Hp) (vs:List V) (Q:VK) (E:XK),Room k (A.deeper (envOfC qual scope s.heap.objs.size f cdv))->sp vs H Q E->
   ∃t,PSs (EG CX P w K mg base N qual scope f cdv A outer s H E) body t/\t {nx:=λ_ H'=>Q .non H',rt:=Q} (start N vs) H) :
 FnOk P w K mg base CX (k+1) f (PySem.W.fnOf name qual params body scope dV kV doc pm an cdv ct) ps sp:=by
 refine⟨len,λA outer s H args us vs Q E hr e0 hb r hsp=>?_⟩;have hl:=len _ _ _ _ hsp;have KX:K.In s.heap:=e0.mod.kin.keeps λb o e=>(e0.bs b o e).1;have lim:s.heap.NoLimit:=e0.mod.nolimit.keeps λb o e=>(e0.bs b o e).1;have hkind:∀y∈ps.zip us,scope.names.lookup y.1=some .local\/(scope.names.lookup y.1=some .cell/\((cellsFrom (s.heap.objs.size+1) scope.names []).lookup y.1).isSome=true):=λz9 hy=>by
  clear 5 z9 n v;rcases S.par n (uj5 hy).1 with q|q
  .exact .inl q
  .exact .inr ⟨q,fV _ _ _ (.inl q)⟩
 refine codeAny_call_function hr.depth (KX _ _ lk) rfl S.co S.gen rfl (PySem.W.codeRec_of KX hcd) (hb _ _ _ _ ?_);refine wpAny_newFunctionEnv_cells S.kind hkind λenv he s1 x=>?_;subst he;refine⟨lim.keeps x.toInCall.keep,codeAny_func ?_⟩;clear 5(hbody A outer s H vs Q E (hr.deeper _) hsp)t ht hq;have I:Inv (EG CX P w K mg base N qual scope f cdv A outer s H E) [] (start N vs) H s1:=QK S hr.hd e0 hl r x;refine uo2 (ht [] s1 (start N vs) H _ I hq) (λfl s' hs=>?_) λe s' hs=>hs;have fin:∀{σ':St}{H':Hp}{v:V}{u:fc},Inv (EG CX P w K mg base N qual scope f cdv A outer s H E) [] σ' H' s'->RelV v u->Q v H'->CE outer P w H s Q u s':=
  λ{σ' H' v u} J rv q=>⟨v,H',J.os,J.bare,J.base,J.hok,rv,q⟩
 cases fl with
 |ret u=>
   clear 5 hs v σ' H' J rv q;exact fin J rv q
 |next=>
   clear 5 hs σ' H' J q;exact fin (v:=V.non) (u:=Value.none) J rfl q
 |brk=>
   obtain⟨_,_,_,q⟩:=hs;exact False.elim q
 |cont=>
   obtain⟨_,_,_,q⟩:=hs;exact False.elim q
section
variable{X:Cx}{x:Str}{p pos:Pos}{e:Expr}{es:List Expr}{t:TA}{id T:String}{r:List V->Hp->VK->Prop}
def tCB(r:List V->Hp->VK->Prop)(t:TA):TE:=λσ H Q=>t σ H λvs H1=>r vs H1 Q
theorem MR(hc:Co X (.builtin id) r)(hg:Gl X x)(hm:X.mg x=none)(hv:bootBuiltins x=some (.builtin id))(ha:PA X (e::es) t)(hn:x≠"__name__":=by decide)(hdb:(x==("__debug__":Str))=false:=by decide)
 (he:starEach (e::es) X.env=(false,eval e X.env)::starEach es X.env:=by rfl) (hpl:(backTo pos (starEach es X.env)).any (·.1)=false:=by rfl):PE X (.Call (.Name x p) (e::es) [] pos) (tCB r t):=by
 intro fb s σ H Q I h;refine gg (GC I hg hm hv ?_ hn hdb);exact PyProof.Rows.callWith_builtin1 (thn (ha pos fb s σ H _ I h) λus s1 z9=>by clear 5 z9 vs H1 I1 r1 q1;exact hc fb s1 σ H1 vs us Q I1 r1 q1) he hpl
theorem Ll(hc:Co X (.type T) r)(hg:Gl X x)(hm:X.mg x=none)(hv:bootBuiltins x=some (.type T))(ha:PA X (e::es) t)(hn:x≠"__name__":=by decide)(hdb:(x==("__debug__":Str))=false:=by decide)
 (he:starEach (e::es) X.env=(false,eval e X.env)::starEach es X.env:=by rfl) (hpl:(backTo pos (starEach es X.env)).any (·.1)=false:=by rfl):PE X (.Call (.Name x p) (e::es) [] pos) (tCB r t):=by
 intro fb s σ H Q I h;refine gg (GC I hg hm hv ?_ hn hdb);exact ua2 (thn (ha pos fb s σ H _ I h) λus s1 z9=>by clear 5 z9 vs H1 I1 r1 q1;exact hc fb s1 σ H1 vs us Q I1 r1 q1) he hpl
end
end
end L2
namespace HT
open PySem PyProof.Rows
section
open PySem.SeqAt
open PySem.AutoSeq1 (wpAny_loadPart')
open PySem.MeetsSeq PySem.MeetsSeq2 PySem.MeetsSeq3
end
section
variable{prog:fh}{w:fj}{A:Around}{E:fc->fg->Prop}{s:fg}
noncomputable def sIx(n d:Nat):Option Int->Nat
 |none=>d
 |some v=>if v<0 then(v+(n:Int)).toNat else min v.toNat n
theorem Za(n d:Nat)(hd:d<=n)(o:Option Int):sIx n d o<=n:=by
 cases o with
 |none=>exact hd
 |some v=>
   show(if v<0 then(v+(n:Int)).toNat else min v.toNat n)<=n
   by_cases hv:v<0
   .rw[gW hv];lia
   .rw[gX hv];exact Nat.min_le_right _ _
theorem NG(v:Int)(n d:Nat):(if v<0 then max (v+(n:Int)) 0 else min v (n:Int))=((sIx n d (some v):Nat):Int):=by
 show(if v<0 then max (v+(n:Int)) 0 else min v (n:Int))=(((if v<0 then(v+(n:Int)).toNat else min v.toNat n):Nat):Int)
 by_cases hv:v<0
 .simp only[gW hv];lia
 .simp only[gX hv];lia
theorem ON(lo hi:Option Int)(n:Nat):Builtin.Slice.sliceAdjust lo hi 1 (n:Int)=(((sIx n 0 lo:Nat):Int),((sIx n n hi:Nat):Int)):=by
 have h1:¬((1:Int)<0):=by lia
 unfold Builtin.Slice.sliceAdjust;simp only[h1,gQ];refine Prod.ext ?_ ?_
 .cases lo with
  |none=>rfl
  |some v=>exact NG v n 0
 .cases hi with
  |none=>rfl
  |some v=>exact NG v n n
theorem Pq(i j:Nat):Builtin.Slice.slicePlaces (i:Int) (j:Int) 1=j-i:=by
 unfold Builtin.Slice.slicePlaces;have h1:(1:Int) > 0:=by lia
 simp only[h1,gS,Int.ediv_one]
 split<;>lia
theorem J9{v:fc}{o:Option Int}{Q:Option Int->fg->Prop}(p:IsPart v o)(h:Q o s):wpAny (model prog w) A (Builtin.Slice.slicePartIndex v) Q E s:=by
 cases p with
 |none=>exact slicePart_none h
 |int i t=>exact slicePart_int h
theorem F4{sl:ff}{vl vu:fc}{lo hi:Option Int}{n:Nat}{Q:Int×Int×Nat->fg->Prop}(hs:s.heap.IsSliceOf sl vl vu .none)(pl:IsPart vl lo)(pu:IsPart vu hi)
 (h:Q (((sIx n 0 lo:Nat):Int),1,sIx n n hi-sIx n 0 lo) s):wpAny (model prog w) A (Builtin.Slice.sliceApplied (.ref sl) (pure (n:Int))) Q E s:=by
 clear 5(id hs)os hos hcs hds;unfold Builtin.Slice.sliceApplied Builtin.Slice.sliceFields;refine uo0 (uo0 (un9 hos hds (x:=vl) rfl (uo0 (un9 hos hds (x:=vu) rfl (uo0 (un9 hos hds (x:=.none) rfl (uo1 ?_)))))));refine uo0 (slicePart_none ?_);show wpAny _ _ (if ((1:Int)==0)=true then _ else _) _ _ s;rw[gX (by decide)];refine uo0 (J9 pl (uo0 (J9 pu (uo0 (uo1 ?_)))));show wpAny _ _ (match Builtin.Slice.sliceAdjust lo hi 1 (n:Int) with|(lo,hi)=>pure (lo,(1:Int),Builtin.Slice.slicePlaces lo hi 1)) _ _ s;rw[ON lo hi n];show wpAny _ _ (pure (((sIx n 0 lo:Nat):Int),(1:Int),Builtin.Slice.slicePlaces ((sIx n 0 lo:Nat):Int) ((sIx n n hi:Nat):Int) 1)) _ _ s;rw[Pq];exact uo1 h
theorem TK(xs:Array fc)(i k:Nat):((List.range k).filterMap λ(m:Nat)=>xs[((i:Int)+(m:Int)*1).toNat]?).toArray=((xs.toList.drop i).take k).toArray:=by
 have e:(λ(m:Nat)=>xs[((i:Int)+(m:Int)*1).toNat]?)=λm=>xs[i+m]?:=by
  funext m
  have:((i:Int)+(m:Int)*1).toNat=i+m:=by lia
  rw[this]
 rw[e];have:=pick_run xs i k;rw[List.filterMap_map] at this;have e2:((λx=>xs[x]?) ∘ λx=>i+x)=λm=>xs[i+m]?:=rfl;rw[e2] at this;rw[this]
theorem IR{t sl:ff}{items:Array fc}{vl vu:fc}{lo hi:Option Int}{Q:fc->fg->Prop}(ht:IsTup s.heap t items)(hs:s.heap.IsSliceOf sl vl vu .none)(pl:IsPart vl lo)(pu:IsPart vu hi)
 (hw:¬(sIx items.size 0 lo=0/\sIx items.size items.size hi=items.size))
 (h:Q (.ref s.heap.objs.size) {s with heap:=s.heap.push {cls:=.type "tuple",data:=.seq ((items.toList.drop (sIx items.size 0 lo)).take (sIx items.size items.size hi-sIx items.size 0 lo)).toArray} })
 (hsz:items.size<=sizeLine):wpAny (model prog w) A (getItem (.ref t) (.ref sl)) Q E s:=by
 have htake:sizeOk (.seq ((items.toList.drop (sIx items.size 0 lo)).take (sIx items.size items.size hi-sIx items.size 0 lo)).toArray):=by
  show((items.toList.drop (sIx items.size 0 lo)).take (sIx items.size items.size hi-sIx items.size 0 lo)).toArray.size<=sizeLine;rw[ug1,uh4,uh5,ue3];lia
 have hj:sIx items.size items.size hi<=items.size:=Za _ _ (un5 _) hi;clear 5(id hs)os hos hcs hds;have hTs:s.TypeIs (.ref sl) "slice":=⟨os,hos,hcs⟩;unfold getItem
 try with_reducible refine um0 ?_
 first|refine uo0 (uo1 ?_)|skip
 refine uo0 (gi ht.typeIs (by decide) ?_);refine uo0 (fS (name:=Str.ofString "__getitem__") ht.typeIs ua0
  (gl ua0 ht.typeIs entry_tuple_getitem ?_ (args_tuple_getitem _ _)))
 show wpAny _ _ (Builtin.Tuple.tupleItemsOf (.ref t) >>= _) _ _ s;refine uo0 (tupleItemsOf_ ht ?_);refine uo0 (gF hTs ?_);rw[gW (by decide)];refine uo0 (F4 hs pl pu ?_);have hno:¬((((sIx items.size 0 lo:Nat):Int)==0&&(1:Int)==1&&(sIx items.size items.size hi-sIx items.size 0 lo)==items.size)=true):=by
  intro q;rw[uh6,uh6] at q;have q1:((sIx items.size 0 lo:Nat):Int)=0:=eq_of_beq q.1.1;have q2:sIx items.size items.size hi-sIx items.size 0 lo=items.size:=eq_of_beq q.2;exact hw ⟨by lia,by lia⟩
 show wpAny _ _ (if (((sIx items.size 0 lo:Nat):Int)==0&&(1:Int)==1&&(sIx items.size items.size hi-sIx items.size 0 lo)==items.size)=true then _ else _) _ _ s;rw[gX hno,TK]
 first
  |exact uo0 (m:=Builtin.Tuple.tupleExact _) (gj (uo1 ⟨_,rfl,uo1 h⟩) htake)
  |exact uo0 (m:=Builtin.Tuple.tupleExact _) (gj (uo0 (uo1 (uo1 ⟨_,rfl,uo1 h⟩))) htake)
  |exact uo0 (uo0 (m:=Builtin.Tuple.tupleExact _) (gj (uo1 (uo1 ⟨_,rfl,uo1 h⟩)) htake))
  |exact uo0 (uo0 (m:=Builtin.Tuple.tupleExact _) (gj (uo1 ⟨_,rfl,uo1 h⟩) htake))
end
end HT
namespace L2
open PySem PySem.Spec PyProof.Rows
abbrev TO:=St->Hp->(Option Int->Hp->Prop)->Prop
def PO(X:Cx)(e:Option Expr)(t:TO):Prop:=
 ∀(fb:List (ff×Obj)) (s:fg) (σ:St) (H:Hp) (Q:Option Int->Hp->Prop),Inv X fb σ H s->t σ H Q->
  wpAny (model X.prog X.w) X.A (evalPart e X.env) (λu s'=>∃o H',Inv X fb σ H' s'/\IsPart u o/\Q o H') X.xe s
def W6:TO:=λ_ H Q=>Q none H
def ap(t:TE):TO:=λσ H Q=>t σ H λx H1=>∃i,x=.int i/\Q (some i) H1
section
variable{xs:List V}
section
variable{X:Cx}{e:Expr}{te:TE}{lo hi:Option Expr}{tl th:TO}{pos p2:Pos}
theorem Wn:PO X none W6:=by
 intro fb s σ H Q I h;rw[evalPart_none];exact uo1 ⟨none,H,I,.none,h⟩
theorem Wo(h:PE X e te):PO X (some e) (ap te):=by
 intro fb s σ H Q I hw;rw[evalPart_some];refine thn (h fb s σ H _ I hw) λu s1 z9=>?_;clear 5 z9 x H1 I1 r1 q1;clear 5 q1 i rfl q;clear 5 r1 t rfl;exact⟨some i,H1,I1,.int i t,q⟩
def SlR(X:Cx)(r:V->Option Int->Option Int->Hp->VK->Prop):Prop:=
 ∀(fb:List (ff×Obj)) (s:fg) (σ:St) (H:Hp) (x:V) (v vl vu:fc) (lo hi:Option Int) (sl:ff) (Q:VK),Inv X fb σ H s->RelV x v->s.heap.IsSliceOf sl vl vu .none->IsPart vl lo->IsPart vu hi->r x lo hi H Q->
  ∃T id,typeLookup (.type T) "__getitem__" = pure (some (.builtin id))/\s.TypeIs v T/\wpAny (model X.prog X.w) X.A (getItem v (.ref sl)) (EP X fb σ Q) X.xe s
theorem SlR.or{r r':V->Option Int->Option Int->Hp->VK->Prop}(h:SlR X r)(h':SlR X r'):SlR X (λx lo hi H Q=>r x lo hi H Q\/r' x lo hi H Q):=by
 intro fb s σ H x v vl vu lo hi sl Q I rx hs pl pu q;rcases q with q|q
 .exact h fb s σ H x v vl vu lo hi sl Q I rx hs pl pu q
 .exact h' fb s σ H x v vl vu lo hi sl Q I rx hs pl pu q
def tSl(r:V->Option Int->Option Int->Hp->VK->Prop)(te:TE)(tl th:TO):TE:=λσ H Q=>te σ H λx H1=>tl σ H1 λl H2=>th σ H2 λu H3=>r x l u H3 Q
theorem TH{r:V->Option Int->Option Int->Hp->VK->Prop}(hr:SlR X r)(he:PE X e te)(hl:PO X lo tl)(hu:PO X hi th):PE X (.Subscript e (.Slice lo hi none p2) pos) (tSl r te tl th):=by
 intro fb s σ H Q I h;refine Subscript_ (thn (he fb s σ H _ I h) λv s1 z9=>?_);clear 5 z9 x H1 I1 r1 q1;refine wpAny_Slice (thn (hl fb s1 σ H1 _ I1 q1) λvl s2 ⟨l,H2,I2,pl,q2⟩=>thn (hu fb s2 σ H2 _ I2 q2) λvu s3 z9=>?_);clear 5 z9 u H3 I3 pu q3;rw[evalPart_none];refine uo1 ?_;have I4:Inv X fb σ H3 {s3 with heap:=s3.heap.push {cls:=.type "slice",data:=.fields #[vl,vu,.none]} }:=I3.kept (t':=s3.toks) λb ob q=>ub9 _ q;clear 5(hr fb {s3 with heap:=s3.heap.push {cls:=.type "slice",data:=.fields #[vl,vu,.none]} } σ H3 x v vl vu l u s3.heap.objs.size Q I4 r1 (Heap.IsSliceOf.new ..) pl pu q3)T id hT ht hg;show wpAny (model X.prog X.w) X.A (subscriptTail e (.Slice lo hi none p2) v (.ref s3.heap.objs.size)) (EP X fb σ Q) X.xe {s3 with heap:=s3.heap.push {cls:=.type "slice",data:=.fields #[vl,vu,.none]} };exact tail_any (ops:=[.ref s3.heap.objs.size,v]) ht hT hg (by with_unfolding_all rfl)
def GZ(xs:List V)(lo hi:Option Int):List V:=(xs.drop (HT.sIx xs.length 0 lo)).take (HT.sIx xs.length xs.length hi-HT.sIx xs.length 0 lo)
theorem IS(xs:List V)(lo hi:Option Int):(GZ xs lo hi).length<=xs.length:=by
 unfold GZ;rw[uh4,uh5];lia
def Y6(K:eh):V->Option Int->Option Int->Hp->VK->Prop:=λx lo hi H Q=>∃a xs,x=.ref a/\SqT K H a xs/\
 ¬(HT.sIx xs.length 0 lo=0/\HT.sIx xs.length xs.length hi=xs.length)/\∀p,H p=none->Q (.ref p) (upd H p (.tup (GZ xs lo hi)))
theorem Zf:SlR X (Y6 X.K):=by
 intro fb s σ H x v vl vu lo hi sl Q I rx hs pl pu h;clear 5 h a xs rfl hx hw q
 cases rx
 clear 5(I.tuple hx)its r ht hz;have hlen:its.toArray.size=xs.length:=by rw[ug1];exact r.length.symm
 refine⟨"tuple",_,ua0.lookup,ht.typeIs,?_⟩;refine HT.IR ht hs pl pu (by rw[hlen];exact hw) ?_ (by rw[hlen];exact hz);rw[hlen];refine⟨.ref s.heap.objs.size,_,I.laid (t':=s.toks) (o:=.tup (GZ xs lo hi)) (λb ob q=>ub9 _ q) (un5 _) ?_,rfl,q _ (I.hok.fresh (un5 _))⟩;exact⟨um3 (IS xs lo hi) hz,_,(r.drop (HT.sIx xs.length 0 lo)).take (HT.sIx xs.length xs.length hi-HT.sIx xs.length 0 lo),IsTup.new _ _⟩
theorem Vals.nil_iff{us:List fc}(r:Vals xs us):us=[]↔xs=[]:=by
 cases r with
 |nil=>simp
 |cons _ _=>simp
end
noncomputable def ixN(n:Nat)(i:Int):Option Nat:=if 0<=i then(if i<n then some i.toNat else none) else if -(n:Int)<=i then some (i+n).toNat else none
def atI{α:Type}(xs:List α)(i:Int):Option α:=(ixN xs.length i).bind λj=>xs[j]?
variable{n:Nat}
theorem N0{i:Int}{j:Nat}(h:ixN n i=some j):seqIndex? i n=some j/\j<n/\-(n:Int)<=i/\i<n:=by
 unfold ixN at h
 by_cases h0:0<=i
 .rw[gW h0] at h
  by_cases h1:i<n
  .rw[gW h1] at h;have e:i.toNat=j:=uj0 h;exact⟨by rw[seqIndex_of h0 h1,e],by lia,by lia,h1⟩
  .rw[gX h1] at h;cases h
 .rw[gX h0] at h
  by_cases h1 : -(n:Int)<=i
  .rw[gW h1] at h;have e:(i+n).toNat=j:=uj0 h;exact⟨by rw[seqIndex_neg (by lia) h1,e],by lia,h1,by lia⟩
  .rw[gX h1] at h;cases h
variable{α:Type}
theorem Kl{xs:List α}{i:Int}{v:α}(h:atI xs i=some v):∃j,seqIndex? i xs.length=some j/\xs[j]?=some v/\j<xs.length/\-(xs.length:Int)<=i/\i<xs.length:=by
 unfold atI at h
 cases e:ixN xs.length i with
 |none=>rw[e] at h;cases h
 |some j=>
   rw[e] at h;clear 5(N0 e)h1 h2 h3 h4;exact⟨j,h1,h,h2,h3,h4⟩
theorem Iv{xs:List α}{j:Nat}{v:α}(h:xs[j]?=some v):atI xs (j:Int)=some v:=by
 have hj:j<xs.length:=(ua8.mp h).1;have e:ixN xs.length (j:Int)=some j:=by
  unfold ixN;rw[gW (by lia),gW (by lia)];simp
 unfold atI;rw[e];exact h
def Kj(b:Expr):Prop:=∀o i,subscripted b false o i=operate [o,i] (getItem o i)
def IxR(X:Cx)(r:R2):Prop:=
 ∀(value slice:Expr) (fb:List (ff×Obj)) (s:fg) (σ:St) (H:Hp) (x y:V) (v u:fc) (Q:VK),Inv X fb σ H s->RelV x v->RelV y u->r x y H Q->
  subscripted slice false v u=operate [v,u] (getItem v u)->wpAny (model X.prog X.w) X.A (subscriptTail value slice v u) (EP X fb σ Q) X.xe s
def MtR(X:Cx)(id:String)(r:V->List V->Hp->VK->Prop):Prop:=
 ∀(fb:List (ff×Obj)) (s:fg) (σ:St) (H:Hp) (x:V) (xs:List V) (v:fc) (us:List fc) (Q:VK),Inv X fb σ H s->RelV x v->Vals xs us->r x xs H Q->
  wpAny (model X.prog X.w) X.A (call (.builtin id) (v::us)) (EP X fb σ Q) X.xe s
variable{fb:List (ff×Obj)}{σ:St}{H:Hp}{s:fg}{its:List fc}
section
variable{X:Cx}{a b:Expr}{ta tb:TE}{pos:Pos}
theorem IxR.or{r r':R2}(h:IxR X r)(h':IxR X r'):IxR X (λx y H Q=>r x y H Q\/r' x y H Q):=by
 intro value slice fb s σ H x y v u Q I rx ry q hs;rcases q with q|q
 .exact h value slice fb s σ H x y v u Q I rx ry q hs
 .exact h' value slice fb s σ H x y v u Q I rx ry q hs
theorem UH{r:R2}(hr:IxR X r)(ha:PE X a ta)(hb:PE X b tb)(hs:Kj b):PE X (.Subscript a b pos) (tOp r ta tb):=by
 intro fb s σ H Q I h;exact Subscript_ (SD ha hb I h λv u s2 x y H2 I2 rx ry q=>hr a b fb s2 σ H2 x y v u Q I2 rx ry q (hs _ _))
def Y0(K:eh):R2:=λx y H Q=>∃p xs i v,x=.ref p/\y=.int i/\SqL K H p xs/\atI xs i=some v/\Q v H
def Y2(K:eh):R2:=λx y H Q=>∃p xs i v,x=.ref p/\y=.int i/\SqT K H p xs/\atI xs i=some v/\Q v H
def Y1:R2:=λx y H Q=>∃z i c,x=.str z/\y=.int i/\z.length<=sizeLine/\atI z.cps.toList i=some c/\Q (.str ⟨#[c]⟩) H
theorem ix_list:IxR X (Y0 X.K):=by
 intro value slice fb s σ H x y v u Q I rx ry h hs;clear 5 h p xs i z rfl rfl hq he q
 cases rx
 clear 5 ry t rfl;clear 5(I.list hq)its r pl hz;clear 5(Kl he)j h1 h2 h3 h4 h5;clear 5(r.get h2)w ew rw';have hl:=r.length;have hn:=GD;have fin:EP X fb σ Q w s:=⟨z,H,I,rw',q⟩
 by_cases h0:0<=i
 .have hj:i.toNat=j:=by
   rw[seqIndex_of h0 h5] at h1;exact uj0 h1
  exact item_listR pl.isList h0 (by lia) (by rw[hj];simpa using ew) fin hs
 .have hj:(i+(its.toArray.size:Int)).toNat=j:=by
   rw[seqIndex_neg (by lia) h4] at h1;rw[ug1,<-hl];exact uj0 h1
  exact subscriptTail_builtinR (x:=w) pl.isList.typeIs slot_list_getitem.lookup
   (wpAny_getItem_list_neg (Q:=λr s'=>r=w/\EP X fb σ Q r s') pl.isList (by lia) (by rw[ug1]<;>lia) (by lia) (by rw[hj];simpa using ew) ⟨rfl,fin⟩) hs
theorem ix_tup:IxR X (Y2 X.K):=by
 intro value slice fb s σ H x y v u Q I rx ry h hs;clear 5 h p xs i z rfl rfl hq he q
 cases rx
 clear 5 ry t rfl;clear 5(I.tuple hq)its r pl hz;clear 5(Kl he)j h1 h2 h3 h4 h5;clear 5(r.get h2)w ew rw';have hl:=r.length;have hn:=GD;have fin:EP X fb σ Q w s:=⟨z,H,I,rw',q⟩;exact subscriptTail_builtinR (x:=w) pl.typeIs slot_tuple_getitem.lookup
  (getItem_tuple (j:=j) (Q:=λr s'=>r=w/\EP X fb σ Q r s') pl (by lia) (by lia) (by rw[ug1,<-hl];exact h1) (by simpa using ew) ⟨rfl,fin⟩) hs
theorem Yl:IxR X Y1:=by
 intro value slice fb s σ H x y v u Q I rx ry h hs;clear 5 h z i c rfl rfl hz he q;clear 5 rx t rfl;clear 5 ry t' rfl;clear 5(Kl he)j h1 h2 h3 h4 h5;have hl:z.cps.toList.length=z.length:=by simp[Str.length]
 rw[hl] at h1 h4 h5;have hn:=GD;exact tail_any (typeIs_str s z t) slot_str_getitem.lookup (getItem_str (c:=c) (by
  have e1:decide (i < -(2 ^ 63:Int))=false:=uk4 (by lia);have e2:decide (i ≥ 2 ^ 63)=false:=uk4 (by lia);rw[e1,e2,ul4]) (by rw[h1];simpa using h2) ⟨.str ⟨#[c]⟩,H,I.tok _,⟨_,rfl⟩,q⟩) hs
def rIx(K:eh):R2:=λx y H Q=>Y0 K x y H Q\/Y2 K x y H Q\/Y1 x y H Q
theorem Yk:IxR X (rIx X.K):=ix_list.or (ix_tup.or Yl)
theorem Ph(its:List fc)(n j:Nat)(u:fc):Obj.mapSeq (·.setIfInBounds j u) {cls:=.type "list",data:=.seq its.toArray n} = {cls:=.type "list",data:=.seq (its.set j u).toArray n}:=by
 simp[Obj.mapSeq]
theorem Inv.lst{fb:List (ff×Obj)}{σ:St}{H:Hp}{s:fg}{p:ff}{xs:List V}(I:Inv X fb σ H s)(h:H p=some (.lst xs)) :
 ∃(its:List fc) (n:Nat),Vals xs its/\s.heap.get? p=some {cls:=.type "list",data:=.seq its.toArray n}/\xs.length<=sizeLine:=by
 clear 5(I.hok p _ h)z its n r e;exact⟨its,n,r,e,z⟩
theorem Inv.lstUpd{p:ff}{ys:List V}{its':List fc}{n':Nat}{f:Obj->Obj}(I:Inv X fb σ H s)(h:H p=some (.lst xs))
 (ho:s.heap.get? p=some {cls:=.type "list",data:=.seq its.toArray n}) (hf:f {cls:=.type "list",data:=.seq its.toArray n} = {cls:=.type "list",data:=.seq its'.toArray n'}) (r:Vals ys its') (hz:ys.length<=sizeLine) (t:Nat) :
 Inv X fb σ (upd H p (.lst ys)) {s with heap:=s.heap.update p f,toks:=t}:=by
 have e:(s.heap.update p f).get? p=some {cls:=.type "list",data:=.seq its'.toArray n'}:=by
  rw[uc8 f ho (by rw[hf]<;>rfl),hf]
 refine I.write (x:=p) (e:=p) (by rw[h];trivial) (.inl rfl) (λb u hb q=>(uc0 _ _ (Ne.symm hb)).trans q) ⟨_,e⟩ ?_;exact⟨hz,its',n',r,e⟩
def aa:V->V->V->Hp->(Hp->Prop)->Prop:=λo i v H Q=>∃p xs k j,o=.ref p/\i=.int k/\H p=some (.lst xs)/\ixN xs.length k=some j/\Q (upd H p (.lst (xs.set j v)))
theorem M6:Su X aa:=by
 intro fb s σ H o i v ov iv u Q I ro ri rv h;clear 5 h p xs k j rfl rfl hp hj q
 cases ro
 clear 5 ri t rfl;clear 5(I.lst hp)its n r ho hz;clear 5(N0 hj)h1 h2 h3 h4;have hl:=r.length;have hn:=GD;have I':Inv X fb σ (upd H p (.lst (xs.set j v))) {s with heap:=s.heap.update p (Obj.mapSeq (·.setIfInBounds j u))}:=
  I.lstUpd hp ho (Ph its n j u) (r.set rv j) (by rw[uj6];exact hz) s.toks
 by_cases h0:0<=k
 .have hk:k.toNat=j:=by
   rw[seqIndex_of h0 h4] at h1;exact uj0 h1
  exact PySem.W.ki_setAt ho h0 (by lia) (by rw[ug1,<-hl];exact h4) (by rw[hk];exact⟨_,I',q⟩)
 .have hk:(k+(its.toArray.size:Int)).toNat=j:=by
   rw[seqIndex_neg (by lia) h3] at h1;rw[ug1,<-hl];exact uj0 h1
  exact PySem.W.ki_setBack ho (by lia) (by rw[ug1,<-hl];exact h3) (by lia) (by rw[hk];exact⟨_,I',q⟩)
theorem Nd(lo hi:Option Int)(n:Nat):(sliceBounds lo hi none n).1=((HT.sIx n 0 lo:Nat):Int)/\(sliceBounds lo hi none n).2.1=((HT.sIx n n hi:Nat):Int)/\(sliceBounds lo hi none n).2.2=1:=by
 refine⟨?_,?_,rfl⟩
 .cases lo with
  |none=>simp[sliceBounds,HT.sIx]
  |some i=>
    simp only[sliceBounds,HT.sIx,uh7,show(1:Int) > 0 by decide,gS]
    by_cases h:i<0
    .simp only[h,gS]<;>lia
    .simp only[h,gQ]<;>lia
 .cases hi with
  |none=>simp[sliceBounds,HT.sIx]
  |some i=>
    simp only[sliceBounds,HT.sIx,uh7,show(1:Int) > 0 by decide,gS]
    by_cases h:i<0
    .simp only[h,gS]<;>lia
    .simp only[h,gQ]<;>lia
theorem LA(its:List fc)(lo hi:Option Int):slicePick its.toArray lo hi none=((its.drop (HT.sIx its.length 0 lo)).take (HT.sIx its.length its.length hi-HT.sIx its.length 0 lo)).toArray:=by
 clear 5(Nd lo hi its.toArray.size)h1 h2 h3;unfold slicePick;rw[h1,h2,h3];simp only[sliceRange_one,pick_run,ug1]<;>rfl
def Y4(K:eh):V->Option Int->Option Int->Hp->VK->Prop:=λx lo hi H Q=>∃a xs,x=.ref a/\SqL K H a xs/\∀p,H p=none->Q (.ref p) (upd H p (.lst (GZ xs lo hi)))
theorem sl_list:SlR X (Y4 X.K):=by
 intro fb s σ H x v vl vu lo hi sl Q I rx hs pl pu h;clear 5 h a xs rfl hx q
 cases rx
 clear 5(I.list hx)its r ht hz;have hlen:=r.length;refine⟨"list",_,slot_list_getitem.lookup,ht.isList.typeIs,?_⟩;refine wpAny_getItem_list_slice ht.isList hs pl pu .none (by simp) ?_ (by rw[ug1]<;>lia);rw[LA,<-hlen];refine⟨.ref s.heap.objs.size,_,I.laid (t':=s.toks) (o:=.lst (GZ xs lo hi)) (λb ob q=>ub9 _ q) (un5 _) ?_,rfl,q _ (I.hok.fresh (un5 _))⟩;exact⟨um3 (IS xs lo hi) hz,_,0,(r.drop (HT.sIx xs.length 0 lo)).take (HT.sIx xs.length xs.length hi-HT.sIx xs.length 0 lo),ue4 _ rfl⟩
theorem Mf:Co X (.builtin "len") (λxs H Q=>∃p ys,xs=[.ref p]/\(SqL X.K H p ys\/SqT X.K H p ys)/\Q (.int ys.length) H):=by
 intro fb s σ H xs us Q I r h;clear 5 h p ys rfl hq q;clear 5(Gi r)u rfl rx
 cases rx
 have hn:=GD;rcases hq with hq|hq
 .clear 5(I.list hq)its r' pl hz;have hlen:=r'.length;exact Calls.call_len_list pl.isList (by simp only[ug1]<;>lia) ⟨.int ys.length,H,I.tok _,⟨s.toks+1,by rw[ug1,hlen]⟩,q⟩
 .clear 5(I.tuple hq)its r' pl hz;have hlen:=r'.length;exact len_tuple pl (by simp only[ug1]<;>lia) ⟨.int ys.length,H,I.tok _,⟨s.toks+1,by rw[ug1,hlen]⟩,q⟩
theorem Mg:Co X (.type "list") (λxs H Q=>∃p ys,xs=[.ref p]/\(SqL X.K H p ys\/SqT X.K H p ys)/\∀l,H l=none->Q (.ref l) (upd H l (.lst ys))):=by
 intro fb s σ H xs us Q I r h;clear 5 h p ys rfl hq q;clear 5(Gi r)u rfl rx
 cases rx
 have fin:∀(its:List fc),Vals ys its->ys.length<=sizeLine->∀(h':Heap) (c':Nat),(∀b o',s.heap.get? b=some o'->h'.get? b=some o')->
  h'.get? s.heap.objs.size=some {cls:=.type "list",dict:=none,data:=.seq its.toArray c',slots:=#[]}->EP X fb σ Q (.ref s.heap.objs.size) {s with heap:=h'}:=λits r' hz h' c' kp e=>
  ⟨.ref s.heap.objs.size,_,I.laid (t':=s.toks) kp (un5 _) (show ObjOk X.prog X.w _ h' _ (.lst ys) from⟨hz,its,c',r',e⟩),rfl,q _ (I.hok.fresh (un5 _))⟩
 rcases hq with hq|hq
 .clear 5(I.list hq)its r' pl hz;have hlen:=r'.length;clear 5 pl.isList o ho hc n hd;exact call_list_seq p (.inl rfl) ho hc hd (λh' c' kp e=>fin its r' hz h' c' kp e) (by simp only[ug1]<;>lia)
 .clear 5(I.tuple hq)its r' pl hz;have hlen:=r'.length;clear 5 pl o ho hc n hd;exact call_list_seq p (.inr rfl) ho hc hd (λh' c' kp e=>fin its r' hz h' c' kp e) (by simp only[ug1]<;>lia)
theorem Lw:Co X (.type "tuple") (λxs H Q=>∃p ys,xs=[.ref p]/\((SqL X.K H p ys/\∀l,H l=none->Q (.ref l) (upd H l (.tup ys)))\/(SqT X.K H p ys/\Q (.ref p) H))):=by
 intro fb s σ H xs us Q I r h;clear 5 h p ys rfl h;clear 5(Gi r)u rfl rx
 cases rx
 rcases h with⟨hq,q⟩|⟨hq,q⟩
 .clear 5(I.list hq)its r' pl hz;have hlen:=r'.length;refine call_tuple_list pl.isList (λh' kp=>?_) (by simp only[ug1]<;>lia);have I1:Inv X fb σ H {s with heap:=h'}:=I.kept (t':=s.toks) kp;have I2:Inv X fb σ (upd H h'.objs.size (.tup ys)) {s with heap:=h'.push {cls:=.type "tuple",data:=.seq its.toArray} }:=
   I1.laid (t':=s.toks) (λb o e=>ub9 _ e) (un5 _) (show ObjOk X.prog X.w _ _ _ (.tup ys) from⟨hz,its,r',IsTup.new _ _⟩)
  exact⟨.ref h'.objs.size,_,I2,rfl,q _ (I1.hok.fresh (un5 _))⟩
 .clear 5(I.tuple hq)its r' pl hz;exact call_tuple_same pl ⟨.ref p,H,I,rfl,q⟩
def tyV(K:eh)(T:String)(x:V)(H:Hp):Prop:=match x with
 |.str _=>T = "str"
 |.int _=>T = "int"
 | .ref p=>(T = "list"/\∃xs,SqL K H p xs)\/(T = "tuple"/\∃o,K.lookup p=some o/\o.cls = .type "tuple"/\o.dict=none)\/
    (T = "dict"/\((∃kvs,H p=some (.dK kvs))\/∃kvs,H p=some (.dT kvs)))\/(T = "set"/\∃S n,H p=some (.set S n))
 |_=>False
theorem Zn{T:String}{x:V}{v:fc}(I:Inv X fb σ H s)(r:RelV x v)(ty:tyV X.K T x H) :
 s.TypeIs v T/\∀a,v=.ref a->∃ob,s.heap.get? a=some ob/\ob.dict=none:=by
 cases x with
 |str z=>
   clear 5 r t rfl
   cases (show T = "str" from ty)
   exact⟨typeIs_str s z t,λ_ e=>nomatch e⟩
 |int i=>
   clear 5 r t rfl
   cases (show T = "int" from ty)
   exact⟨gM s i t,λ_ e=>nomatch e⟩
 |ref p=>
   cases r
   rcases ty with⟨rfl,xs,hq⟩|⟨rfl,o,hk,hc,hd⟩|⟨rfl,hk⟩|⟨rfl,S,n,hk⟩
   .obtain⟨its,_,pl,_⟩:=I.list hq;refine⟨pl.isList.typeIs,λa e=>?_⟩
    cases e
    obtain⟨o,n,e,c,hd,_⟩:=pl;exact⟨o,e,hd⟩
   .refine⟨⟨o,I.kIn p o hk,hc⟩,λa e=>?_⟩
    cases e
    exact⟨o,I.kIn _ o hk,hd⟩
   .have z:∃o,s.heap.get? p=some o/\o.ExactDict:=by
     rcases hk with⟨kvs,hk⟩|⟨kvs,hk⟩
     .obtain⟨_,_,_,_,o,_,_,e,ex,_⟩:=I.hok p _ hk;exact⟨o,e,ex⟩
     .obtain⟨_,_,_,_,o,_,_,e,ex,_⟩:=I.hok p _ hk;exact⟨o,e,ex⟩
    clear 5 z o e ex;refine⟨⟨o,e,ex.1⟩,λa e2=>?_⟩
    cases e2
    exact⟨o,e,ex.2.1⟩
   .obtain⟨o,_,_,_,e,ex,_⟩:=I.hok p _ hk;refine⟨⟨o,e,ex.1⟩,λa e2=>?_⟩
    cases e2
    exact⟨o,e,ex.2.1⟩
 |_=>exact False.elim ty
def tBM(K:eh)(T:String)(r:V->List V->Hp->VK->Prop)(to:TE)(t:TA):TE:=λσ H Q=>to σ H λx H1=>tyV K T x H1/\t σ H1 λxs H2=>r x xs H2 Q
variable{o e:Expr}{es:List Expr}{to:TE}{t:TA}{name:Str}{apos cpos:Pos}{T id:String}{r:V->List V->Hp->VK->Prop}
theorem JW(pa:PlainAttrs T)(slot:Slot T name id)(hty:typeOf (.builtin id)=pure (.type "method_descriptor"))(hm:MtR X id r)(ho:PE X o to)(ha:PA X (e::es) t)
 (hbase:attributeBase o name X.env (eval o X.env)=eval o X.env:=by rfl)
 (hfew:((backTo cpos (starEach (e :: es) X.env)).all (λx=>!x.1) && (backToKw cpos (keywordEach [] X.env)).all (λx=>x.1.isSome)
   && decide ((e::es).length+([]:List Keyword).length+(if ([]:List Keyword).isEmpty then 0 else 1)<30))=true:=by rfl)
 (hline:(apos.endLine==cpos.line)=true:=by rfl) (hs:starEach (e::es) X.env=(false,eval e X.env)::starEach es X.env:=by rfl) (hplain:(backTo cpos (starEach es X.env)).any (·.1)=false:=by rfl) :
 PE X (.Call (.Attribute o name apos) (e::es) [] cpos) (tBM X.K T r to t):=by
 intro fb s σ H Q I h;refine wpAny_Call_method_late hbase hfew hline rfl (thn (ho fb s σ H _ I h) λv s1 z9=>?_);clear 5 z9 x H1 I1 r1 ty q1;clear 5(Zn I1 r1 ty)h1 h2;refine⟨T,id,pa,slot,hty,h1,h2,?_⟩;have hA:=ha cpos fb s1 σ H1 _ I1 q1;rw[hs] at hA⊢;refine Calls.callWith_builtin (by show(false||(backTo cpos (starEach es X.env)).any (·.1))=false;rw[hplain]<;>rfl) (Calls.evalArgs_plain ?_);exact thn hA λus s2 ⟨vs,H2,I2,r2,q2⟩=>hm fb s2 σ H2 x vs v us Q I2 r1 r2 q2
/- xs.append(e),list.index on a module's tuple .. are MtR facts of 06m -/
end
def MtM(X:Cx)(id:String)(r:V->List V->Hp->VK->Prop):Prop:=
 ∀(fb:List (ff×Obj)) (s:fg) (σ:St) (H:Hp) (x:V) (xs:List V) (v:fc) (us:List fc) (Q:VK),Inv X fb σ H s->RelV x v->Vals xs us->r x xs H Q->
  wpAny (model X.prog X.w) X.A (call (.builtin id) (v::us)) (EP X fb σ Q) X.xe s
theorem Vals.one{x:V}{us:List fc}(h:Vals [x] us):∃u,us=[u]/\RelV x u:=by
 cases h with
 |cons r t=>
   cases t
   exact⟨_,rfl,r⟩
theorem Vals.rep{xs:List V}{us:List fc}(h:Vals xs us):∀k:Nat,Vals (List.replicate k xs).flatten (List.replicate k us).flatten
 |0=>.nil
 |k+1=>by
   rw[ue6,ue6,ug3,ug3];exact Vals.append h (Vals.rep h k)
theorem Lg(its:List fc):∀(k:Nat) (acc:List fc),
 List.foldl (λx1 x2=>x1++x2) acc.toArray (List.replicate k its.toArray)=(acc++(List.replicate k its).flatten).toArray
 |0,acc=>by simp
 |k+1,acc=>by
   have e:acc.toArray++its.toArray=(acc++its).toArray:=by simp
   have e2:(acc++its)++(List.replicate k its).flatten=acc++(List.replicate (k+1) its).flatten:=by
    rw[ue6,ug3,ug4]
   rw[<-e2,<-Lg its k (acc++its),<-e,ue6,uj7]
section
variable{X:Cx}{fb:List (ff×Obj)}{σ:St}{H:Hp}{s:fg}{l b:ff}{xs ys zs:List V}
theorem Inv.lset{its':List fc}{f:Array fc->Array fc}{t':Nat}(I:Inv X fb σ H s)(hH:H l=some (.lst xs))
 (e:s.heap.get? l=some {cls:=.type "list",data:=.seq its.toArray n}) (hf:f its.toArray=its'.toArray) (hv:Vals ys its') (hz:ys.length<=sizeLine) :
 Inv X fb σ (upd H l (.lst ys)) {s with heap:=s.heap.update l (Obj.mapSeq f),toks:=t'}:=by
 have q:=PySem.IsL.update e f;rw[hf] at q;refine I.write (x:=l) (e:=l) (by rw[hH];exact trivial) (.inl rfl) (λb' u hb hu=>(uc0 s.heap (Obj.mapSeq f) (Ne.symm hb)).trans hu) ⟨_,q⟩ ?_;exact⟨hz,its',_,hv,q⟩
theorem Inv.lnew{t':Nat}(I:Inv X fb σ H s)(hv:Vals ys its)(hz:ys.length<=sizeLine) :
 Inv X fb σ (upd H s.heap.objs.size (.lst ys)) {s with heap:=s.heap.push {cls:=.type "list",data:=.seq its.toArray},toks:=t'}:=
 I.laid (λ_ _ q=>ub9 _ q) (un5 _) ⟨hz,its,0,hv,ue4 _ rfl⟩
theorem Inv.fresh(I:Inv X fb σ H s):H s.heap.objs.size=none:=I.hok.fresh (un5 _)
theorem Inv.lstM(I:Inv X fb σ H s)(hH:H l=some (.lst xs)):xs.length<=sizeLine/\∃(its:List fc) (n:Nat),Vals xs its/\xs.length=its.length/\s.heap.get? l=some {cls:=.type "list",data:=.seq its.toArray n}:=by
 clear 5(I.hok l _ hH)z its n r e;exact⟨z,its,n,r,r.length,e⟩
theorem Hg(h:n<=sizeLine):Builtin.List.listTooLong n=false:=by
 unfold Builtin.List.listTooLong;exact uk4 (by lia)
end
section
variable{X:Cx}
def Og:V->List V->Hp->VK->Prop:=λx vs H Q=>∃l xs y,x=.ref l/\vs=[y]/\H l=some (.lst xs)/\xs.length<sizeLine/\Q .non (upd H l (.lst (xs++[y])))
theorem Lk:MtM X "list.append" Og:=by
 intro fb s σ H x vs v us Q I rx rv h;clear 5 h l xs y rfl rfl hH hz q
 cases rx
 clear 5 rv.one u rfl ru;clear 5(I.lstM hH)z its n r hl e;refine gN F.slot_list_append ⟨_,e,rfl⟩ F.entry_list_append (F.args_list_append_2 _ _) (PySem.list_append l its.toArray n u (by rw[ug1];lia)) ⟨e,?_⟩;refine⟨.non,_,I.lset (its':=its++[u]) hH e (by simp) (r.append (.cons ru .nil)) ?_,rfl,q⟩;rw[uf4,uc9];lia
def Oh:V->List V->Hp->VK->Prop:=λx vs H Q=>∃l b xs zs,x=.ref l/\vs=[.ref b]/\H l=some (.lst xs)/\H b=some (.lst zs)/\xs.length+zs.length<=sizeLine/\Q .non (upd H l (.lst (xs++zs)))
theorem Q1:MtM X "list.extend" Oh:=by
 intro fb s σ H x vs v us Q I rx rv h;clear 5 h l b xs zs rfl rfl hH hB hz q
 cases rx
 clear 5 rv.one u rfl ru
 cases ru
 clear 5(I.lstM hH)z its n r hl e;clear 5(I.lstM hB)z2 its2 n2 r2 hl2 e2;have hsz:its.toArray.size+its2.toArray.size<=sizeLine:=by rw[ug1,ug1];lia
 have hlong:¬(!its.toArray.isEmpty&&Builtin.List.listTooLong (its.toArray.size+its2.toArray.size))=true:=by
  rw[Hg hsz,uk8];exact uf2
 refine gN F.slot_list_extend ⟨_,e,rfl⟩ F.entry_list_extend (F.args_list_extend_2 _ _)
  (AutoSeq1.list_extend_list_list_0 l its.toArray n b its2.toArray n2 hlong (by rw[ug1];lia) (by lia)) ⟨e,e2,?_⟩
 refine⟨.non,_,I.lset (its':=its++its2) hH e (by simp) (r.append r2) ?_,rfl,q⟩;rw[uf4];lia
def TU:R2:=λx y H Q=>∃l b xs zs,x=.ref l/\y=.ref b/\H l=some (.lst xs)/\H b=some (.lst zs)/\xs.length+zs.length<=sizeLine/\∀p,H p=none->Q (.ref p) (upd H p (.lst (xs++zs)))
theorem Rb:OpR X (binaryOp .Add) TU:=by
 intro fb s σ H x y v u Q I rx ry h;clear 5 h l b xs zs rfl rfl hH hB hz q
 cases rx
 cases ry
 clear 5(I.lstM hH)z its n r hl e;clear 5(I.lstM hB)z2 its2 n2 r2 hl2 e2;refine PySem.P.add_list e e2 ?_ (by rw[ug1,ug1];lia);have ea:its.toArray++its2.toArray=(its++its2).toArray:=by simp
 rw[ea];exact⟨.ref _,_,I.lnew (t':=s.toks) (r.append r2) (by rw[uf4];lia),rfl,q _ I.fresh⟩
def Y3:R2:=λx y H Q=>∃l k xs,x=.ref l/\y=.int k/\H l=some (.lst xs)/\-(2 ^ 63)<=k/\k<2 ^ 63/\xs.length*k.toNat<=sizeLine/\
 ∀p,H p=none->Q (.ref p) (upd H p (.lst (List.replicate k.toNat xs).flatten))
theorem VA(xs:List α)(k:Nat):(List.replicate k xs).flatten.length=k*xs.length:=by
 induction k with
 |zero=>simp
 |succ k ih=>rw[ue6,ug3,uf4,ih,um6,gG]
theorem YC:OpR X (binaryOp .Mult) Y3:=by
 intro fb s σ H x y v u Q I rx ry h;clear 5 h l k xs rfl rfl hH h1 h2 hz q
 cases rx
 clear 5 ry t rfl;clear 5(I.lstM hH)z its n r hl e;have hlen:its.toArray.size*k.toNat<=sizeLine:=by rw[ug1,<-hl];exact hz
 have hcap:¬its.toArray.size*k.toNat > (2 ^ 63-1)/8:=by
  have:(sizeLine:Nat)<=(2 ^ 63-1)/8:=by decide
  lia
 have hfit:¬(!Builtin.List.listFitsIndex k)=true:=by
  rw[fitsIndex_both h1 h2];exact uf2
 have hlong:¬Builtin.List.listTooLong (its.toArray.size*k.toNat)=true:=by
  rw[Hg hlen];exact uf2
 have hnew:List.foldl (λx1 x2=>x1++x2) #[] (List.replicate (if its.toArray.isEmpty=true then 0 else k.toNat) its.toArray)=(List.replicate k.toNat its).flatten.toArray:=by
  have f0:∀m:Nat,List.foldl (λx1 x2=>x1++x2) #[] (List.replicate m its.toArray)=(List.replicate m its).flatten.toArray:=λm=>by
   have:=Lg its m [];rw[uj8] at this;exact this
  rw[f0]
  cases its with
  |nil=>simp
  |cons a r'=>rw[gX (by simp)]
 refine wpAny_binaryOp_repeat_ref (T:="list") (U:="int") (by decide) ⟨_,e,rfl⟩ (λs'=>gM s' k t) noFill_list_mul F.fills_int_mul F.slot_int_rmul repeat_list F.slot_int_index.lookup
  (gN F.slot_int_rmul (gM s k t) F.entry_int_rmul (F.args_int_rmul_2 _ _) (int___rmul___int_list k t l its.toArray n)
    ⟨e,rfl,⟨_,e,rfl⟩,gN F.slot_list_mul ⟨_,e,rfl⟩ F.entry_list_mul (F.args_list_mul_2 _ _) (AutoListH.list___mul___list_int_3 l its.toArray n k t hfit hcap hlong) ⟨e,?_⟩⟩)
 rw[hnew];exact⟨.ref _,_,I.lnew (t':=s.toks) (r.rep k.toNat) (by rw[VA,gH];exact hz),rfl,q _ I.fresh⟩
end
section
variable{prog:fh}{w:fj}{A:Around}{E:fc->fg->Prop}{s:fg}
theorem RN(its its2:List fc)(a c:Nat):its.toArray.extract 0 a++its2.toArray++its.toArray.extract c its.toArray.size=(its.take a++its2++its.drop c).toArray:=by
 apply Array.toList_inj.mp
 first
  | (simp
     exact uc1 (by simp))
  |simp[uc1]
  |simp
theorem OP{a c:Nat}(hac:a<=c)(hc:c<=n):sliceBounds (some (a:Int)) (some (c:Int)) none n=((a:Int),(c:Int),1):=by
 simp only[sliceBounds,uh7];have h1:¬((a:Int)<0):=by lia
 have h2:¬((c:Int)<0):=by lia
 simp only[h1,h2,gQ,show(1:Int) > 0 by decide,gS]
 congr 1
 .lia
 .congr 1;lia
set_option maxRecDepth 100000 in
theorem Lz{l b sl:ff}{items new:Array fc}{n2:Nat}{vl vu:fc}{a c:Nat}{Q:Unit->fg->Prop}
 (e:s.heap.get? l=some {cls:=.type "list",data:=.seq items n}) (e2:s.heap.get? b=some {cls:=.type "list",data:=.seq new n2}) (hne:l≠b)
 (hs:s.heap.IsSliceOf sl vl vu .none) (pl:IsPart vl (some (a:Int))) (pu:IsPart vu (some (c:Int))) (hac:a<=c) (hc:c<=items.size)
 (hsz:items.size+new.size<=sizeLine) (h:Q () {s with heap:=s.heap.update l (Obj.mapSeq λxs=>xs.extract 0 a++new++xs.extract c xs.size)}) :
 wpAny (model prog w) A (setItem (.ref l) (.ref sl) (.ref b)) Q E s:=by
 have hl:s.heap.IsList l items:=PySem.IsL.isList e;have hb:s.heap.IsList b new:=PySem.IsL.isList e2;clear 5(id hs)os hos hcs hds;have hTs:s.TypeIs (.ref sl) "slice":=⟨os,hos,hcs⟩;have hstep:¬((rawPart none==rawInt 0)=true):=uf2;have hsame:Builtin.List.listSameRef (.ref l) (.ref b)=false:=by
  unfold Builtin.List.listSameRef;exact gb.mpr hne
 have hmax:(max (a:Int) (c:Int)).toNat=c:=by lia
 have hz':((λxs:Array fc=>xs.extract 0 a++new++xs.extract c xs.size) items).size<=sizeLine+1:=by
  simp only[Array.size_append,Array.size_extract];lia
 unfold setItem
 try with_reducible refine um0 ?_
 first|refine uo0 (uo1 ?_)|skip
 refine uo0 (gi hl.typeIs (by decide) ?_);refine uo0 (fS (name:=Str.ofString "__setitem__") hl.typeIs slot_list_setitem
  (gl slot_list_setitem hl.typeIs entry_list_setitem ?_ (args_list_setitem _ _ _)))
 show wpAny _ _ (Builtin.List.listSubscript? (.ref sl) >>= _) _ _ s;refine uo0 ?_;unfold Builtin.List.listSubscript?;refine uo0 (gp hTs slice_no_index ?_);simp only[Option.isNone_none,gS];refine uo1 ?_;show wpAny _ _ (typeOf (.ref sl) >>= _) _ _ s;refine uo0 (gF hTs ?_)
 first
  |rw[gX (by decide)]
  |refine uf5 (by decide) ?_
 rw[listSliceParts_eq];refine uo0 (uo0 (un9 hos hds (x:=.none) rfl (uo0 (gu .none ?_))));rw[gX hstep];refine uo0 (un9 hos hds (x:=vl) rfl (uo0 (gu pl ?_)));refine uo0 (un9 hos hds (x:=vu) rfl (uo0 (gu pu (uo1 ?_))))
 first
  |simp only[hsame,uf6,gQ]
  |refine uf5 hsame ?_
  | (dsimp only
     rw[gX (by rw[hsame];exact uf2)])
 refine uo0 (m:=Builtin.List.listAllItems (.ref b) "must assign iterable to extended slice") ?_;unfold Builtin.List.listAllItems;refine uo0 (gF hb.typeIs ?_)
 first
  |refine PySem.W.KFB.if_so (by decide) ?_
  |rw[gW (by decide)]
  |simp only[ui7,Bool.true_or,gS]
 unfold Builtin.List.listItems;refine uo0 (wpAny_seqItems e2 rfl (uo1 ?_));refine uo0 (uo0 (wpAny_seqItems e rfl (uo1 ?_)));refine uo0 (wpAny_of_eq ((sliceIndices_raw (some (a:Int)) (some (c:Int)) none items.size (by simp)).trans (gP (pure:Int×Int×Int->Sem (Int×Int×Int)) (OP hac hc))) ?_);show wpAny _ _ (if ((1:Int)==1)=true then _ else _) _ _ s;rw[gW (by decide)];refine uo0 (wpAny_rule ?_)
 first
  |simp only[Hg hsz,uf6,gQ]
  |refine uf5 (Hg hsz) ?_
 first|refine uo0 (uo1 ?_)|skip
 show wpAny _ _ (updateSeq l (λxs=>xs.extract 0 ((a:Int)).toNat++new++xs.extract (max (a:Int) (c:Int)).toNat xs.size) >>= _) _ _ s;rw[hmax,ug5];refine uo0 (wpAny_updateSeq (hz:=um3 (uh8 _ _) hsz) (_hz':=hz') e rfl ?_);refine uo0 (wpAny_letGo ?_)
 first
  |exact uo0 (uo1 (uo1 ⟨.none,rfl,uo1 h⟩))
  |exact uo1 ⟨.none,rfl,uo1 h⟩
end
section
variable{X:Cx}
theorem RL{l b sl:ff}{ys:List V}{a c:Int}{vl vu:fc}{Q:Unit->fg->Prop}(I:Inv X fb σ H s)
 (hH:H l=some (.lst xs)) (hB:H b=some (.lst ys)) (hne:l≠b) (hs:s.heap.IsSliceOf sl vl vu .none) (ra:RelV (.int a) vl) (rc:RelV (.int c) vu) (h0:0<=a) (hac:a<=c) (hc:c<=xs.length)
 (hz:xs.length+ys.length<=sizeLine) (h:∀s',Inv X fb σ (upd H l (.lst (xs.take a.toNat++ys++xs.drop c.toNat))) s'->Q () s') :
 wpAny (model X.prog X.w) X.A (setItem (.ref l) (.ref sl) (.ref b)) Q X.xe s:=by
 clear 5 ra ta rfl;clear 5 rc tc rfl;clear 5(I.lstM hH)z its n r hl e;clear 5(I.lstM hB)z2 its2 n2 r2 hl2 e2;clear 5(ub4 h0)a' rfl;clear 5(ub4 (Int.le_trans h0 hac))c' rfl;simp only[ug5] at h;refine Lz (a:=a') (c:=c') e e2 hne hs (.int _ _) (.int _ _) (by lia) (by rw[ug1];lia) (by rw[ug1,ug1];lia) (h _ ?_);refine I.lset (its':=its.take a'++its2++its.drop c') (t':=s.toks) hH e ?_ (Vals.append (Vals.append (r.take _) r2) (r.drop _)) ?_
 .exact RN its its2 a' c'
 .rw[uf4,uf4,uh4,uh5];lia
end
end
end L2
namespace Att
open PySem PySem.W PySem.Calls PyProof.Rows
theorem JP{P:Params}{h:Heap}:∀(ns:List Int) (vs:List fc),WellAll P h vs (ns.map WData.int)->IntsAre vs ns:=by
 intro ns
 induction ns with
 |nil=>
   intro vs w;rw[um7] at w
   cases w
   exact .nil
 |cons n ns ih=>
   intro vs w;rw[ul3] at w
   cases w with
   |cons a b=>
     cases a
     exact .cons _ _ (ih _ b)
theorem RB{l:OpenLaw}{n:Nat}(hn:l.most=some n){P:Params}{h:Heap}{args:List WData}{vals:List fc}
 (hpre:l.row.toRowW.claim.pre args=true) (hwl:WellAll P h vals args) :
 ∃a vs ns,vals=[Value.ref a]/\args=[WData.list (ns.map WData.int)]/\h.get? a=some {cls:=.type "list",data:=.seq vs.toArray}/\IntsAre vs ns/\ns.length<=n:=by
 have hsh:WShape.hasAll [] args [.list .int]=true:=(pre_splitW hpre).1;have hc:l.pre.holds [] {args:=args}=true:=(pre_splitW hpre).2;clear 5(hasAllW_cons hsh)d r rfl h1 h2;obtain rfl:=hasAllW_nil h2;clear 5(hasW_list h1)xs rfl h3;clear 5(items_int h3)ns rfl;have hlen:ns.length<=n:=by
  unfold OpenLaw.pre at hc;have h4:(WTm.not (.lt (.lit (.int (n:Int))) (.len (.arg 0)))).holds [] {args:=[.list (ns.map .int)]}=true:=by
   have h4:=(holds_andW hc).1;rw[hn] at h4;exact h4
  have h5:=condW_of h4 (w_not (w_lt w_lit (w_len_list (w_arg rfl))));rw[uj1] at h5;refine Nat.le_of_not_lt λq=>?_;have q':(n:Int)<((ns.length:Nat):Int):=by lia
  first
   |(rw[ul0 q'] at h5;exact absurd h5 (by decide))
   |(simp at h5;lia)
 cases hwl with
 |cons w1 w2=>
   cases w2
   cases w1 with
   |list ho hall=>exact⟨_,_,ns,rfl,rfl,ho,JP ns _ hall,hlen⟩
theorem Rm(l:OpenLaw)(args:List WData):l.row.toRowW.claim.post args (.bool true) args=true:=
 postW_of (r:=l.row.toRowW) (X:=(true==true))
  (show WShape.has [] (.bool true) .bool=true by first|rfl|decide|simp[WShape.has,WShape.arms,WShape.armsAll])
  (show(WTm.eq .res (.lit (.bool true))).value [] {args:=args,res:=some (.bool true),after:=args}=some (.bool (true==true)) from w_eq_bool (w_res rfl) w_lit) rfl
theorem attach_call{l:OpenLaw}{n:Nat}{q:fh}{loose:List Str}{XP:(Str->Option fc)->Heap->Prop}{YP:fj->Heap->Prop}{d:DefRec}
 (hn:l.most=some n) (hdf:d.params.defaults=[])
 (call:∀(w:fj) (s₀ s₁:fg) (mg mb:Str->Option fc) (fa:ff) (o:Obj) (pm cd doc:fc) (a:ff) (vs:List fc) (ns:List Int),
   Ground q loose [] XP w s₀ mg mb s₁.heap->YP w s₁.heap->
   s₁.heap.get? fa=some o->o.data=.func (docDef d.name d.params d.body d.scope pm cd doc)->s₁.heap.CodeRec cd d.name->mg d.name=some (.ref fa)->
   s₁.heap.get? a=some {cls:=.type "list",data:=.seq vs.toArray}->IntsAre vs ns->ns.length<=n->s₁.gens=#[]->
   codeAny (model l.prog w) callerA (.call (.ref fa) ⟨[.ref a],[]⟩) (λr s'=>r=.ok (.ret (.bool true))/\OldK s₁.heap s'.heap/\s'.os=s₁.os/\AllBare s'.gens) s₁) :
 WalkO q loose XP YP l.row.toRowW d [] (λf vs=>PySem.call f vs):=by
 intro w s₀ s₁ mg mb G Y fa o pm cd doc dV kV ho hd hcd hD hmg hg args vals as hpre hlay hrd hwl hlo;obtain rfl:dV=.none:=Dflts.none hD hdf;obtain rfl:kV=.none:=Dflts.noKw hD;clear 5(RB hn hpre hwl)a vs ns rfl rfl hobj hints hlen;refine enter_call (gE (call w s₀ s₁ mg mb fa o pm cd doc a vs ns G Y ho (fd_plain hd) hcd hmg hobj hints hlen hg) λr s' hq=>?_);clear 5 hq rfl h2 h3 h4;exact⟨.inl ⟨.bool true,.bool true,[],rfl,λ_=>rfl,.bool true,Rm l _,λ_=>⟨List.Pairwise.nil,λ_ hm=>(nomatch hm)⟩⟩,h2,h3,h4⟩
section
variable{prog:fh}{w:fj}{A:Around}{E:fc->fg->Prop}{s:fg}{K:Frag}
noncomputable def dB(h:Heap)(L d:ff):List (ff×Obj):=(List.range h.objs.size).filterMap λa=>if a=L\/a=d then none else(h.get? a).map λo=>(a,o)
end
end Att
namespace L2
open PySem PySem.Spec PyProof.Rows
theorem Lq:∀{vs:List fc}{ns:List Int},IntsAre vs ns->Vals (ns.map V.int) vs
 |_,_,.nil=>.nil
 |_,_,.cons n t h=>.cons ⟨t,rfl⟩ (Lq h)
def OI(H:Hp):Prop:=∀b,H b=none\/∃o xs,H b=some (.frz o (.lst xs))
section
variable{P:fh}{w:fj}{fd:fk}{x:Str}
theorem Tm{K:eh}{mg mb:Str->Option fc}{CX:CXT}{k:Nat}{fa a:ff}{sp:Sp}{s₁:fg}{vs:List fc}{ns:List Int}
 (KX:K.In s₁.heap) (hns:s₁.heap.Ns mainGlobals mg) (hb:s₁.heap.Ns builtinsNs mb) (hbb:∀x:Str,x≠"__name__"->mb x=bootBuiltins x) (hlim:s₁.heap.NoLimit) (hg:s₁.gens=#[])
 (ha:s₁.heap.get? a=some {cls:=.type "list",data:=.seq vs.toArray}) (hi:IntsAre vs ns) (hl:ns.length<=sizeLine) (hr:Room k callerA)
 (F:∀base:Heap,K.In base->base.Ns mainGlobals mg->FnOk P w K mg base CX k fa fd [x] sp) (hbind:∀(s:fg) (u:fc),BindsTo s fd ⟨[u],[]⟩ [(x,u)])
 (hsp:∀H:Hp,OI H->SqL K H a (ns.map V.int)->sp [.ref a] H (λv _=>v=.bl true) λ_ _ _=>False)
 (hCX:∀H e s',CX [] H s₁ (λ_ _ _=>False) e s'->False) :
 codeAny (model P w) callerA (.call (.ref fa) ⟨[.ref a],[]⟩) (λr s'=>r=.ok (.ret (.bool true))/\OldK s₁.heap s'.heap/\s'.os=s₁.os/\AllBare s'.gens) s₁:=by
 have rv:=Lq hi;have lenV:=hi.length
 -- from an abstract heap in which nothing but the script may be tracked
 have core:∀H:Hp,OI H->SqL K H a (ns.map V.int)->HOk P w H s₁.heap->(∀b,H b≠none->b=a)->(H a≠none->K.lookup a=none)->
  codeAny (model P w) callerA (.call (.ref fa) ⟨[.ref a],[]⟩) (λr s'=>r=.ok (.ret (.bool true))/\OldK s₁.heap s'.heap/\s'.os=s₁.os/\AllBare s'.gens) s₁:=by
  intro H hO hS hok hA hK;have base_of:∀{b:ff}{o:Obj},s₁.heap.get? b=some o->H b=none->(Ha s₁.heap H).get? b=some o:=λe n=>Tl e n;have noA:∀{b:ff}{o:Obj}{es:Array DictEntry}{ep:Nat},s₁.heap.get? b=some o->o.data=.dict es ep->H b=none:=λ{b o es ep} e d=>by
   cases q:H b with
   |none=>rfl
   |some u=>
     have e':b=a:=hA b (by rw[q];simp);subst e';rw[ha] at e;cases e
     have d':Data.seq vs.toArray _=Data.dict es ep:=d
     cases d'
  have nsK:∀{b:ff}{m:Str->Option fc},s₁.heap.Ns b m->(Ha s₁.heap H).Ns b m:=λ{b m} ⟨o,es,ep,e,d,r⟩=>⟨o,es,ep,base_of e (noA e d),d,r⟩;have hKb:K.In (Ha s₁.heap H):=λb o e=>base_of (KX b o e) (by
   cases q:H b with
   |none=>rfl
   |some u=>
     have e':b=a:=hA b (by rw[q];simp);subst e';rw[hK (by rw[q];simp)] at e;cases e)
  have hM:Mod K mg (Ha s₁.heap H):=⟨hKb,nsK hns,⟨mb,nsK hb,hbb⟩,let ⟨mc,h1,h2⟩:=hlim;⟨mc,nsK h1,h2⟩⟩;have e0:Env0 P w K mg (Ha s₁.heap H) callerA [] s₁ H:=⟨rfl,hM,λb o e=>V3 e,gD (QH _ _),trivial,λb hb=>absurd (show b∈([]:List ff) from hb) (by simp),hok,.of_eq hg⟩;refine gE ((F _ hKb (nsK hns)).run callerA [] s₁ H ⟨[.ref a],[]⟩ [.ref a] [.ref a] _ _ hr e0 (hbind s₁ (.ref a)) (.cons rfl .nil) (hsp H hO hS)) λr s' h=>?_
  cases r with
  |error e=>exact(hCX H e s' h).elim
  |ok fl=>
    cases fl with
    |next=>exact False.elim h
    |brk=>exact False.elim h
    |cont=>exact False.elim h
    |ret u=>
      clear 5 h v H' os bare un hok' r' q;have q':v=.bl true:=q;subst q';obtain rfl:u=Value.bool true:=r';refine⟨rfl,OldK.of_keep λb o e=>?_,os,bare⟩
      cases q:H b with
      |none=>exact un.keep b o e q (by intro z;exact absurd (show b∈([]:List ff) from z) (by simp)) (by simp)
      |some u=>
        rcases hO b with z|⟨ob,xs,z⟩
        .rw[q] at z;cases z
        .have z2:=un.frzs b ob _ z;obtain⟨e1,_⟩:=hok b _ z;obtain⟨e2,_⟩:=hok' b _ z2;rw[e] at e1;cases e1
         exact e2
 cases hk:K.lookup a with
 |some o=>
   -- the script is one of the module's own objects
   have e:=KX a o hk;rw[ha] at e
   cases e
   refine core (λ_=>none) (λ_=>.inl rfl) (.inr ⟨_,vs.toArray,_,hk,rfl,rfl,rfl,by rw[ug1,lenV];exact hl,by simpa using rv⟩) (λb u z=>by have z':(none:Option HO)=some u:=z;cases z') (λb z=>absurd rfl z) λz=>absurd rfl z
 |none=>
   refine core (λb=>if b=a then some (.frz {cls:=.type "list",data:=.seq vs.toArray} (.lst (ns.map V.int))) else none) (λb=>?_) (.inl (.inr ⟨{cls:=.type "list",data:=.seq vs.toArray},gW rfl⟩)) (λb u z=>?_) (λb z=>?_) λ_=>hk
   .by_cases hb:b=a
    .exact .inr ⟨_,_,gW hb⟩
    .exact .inl (gX hb)
   .by_cases hb:b=a
    .have z':=(gW hb).symm.trans z
     cases z'
     subst hb;exact⟨ha,by rw[uj1];exact hl,vs,_,rv,ha⟩
    .have z':=(gX hb).symm.trans z
     cases z'
   .by_cases hb:b=a
    .exact hb
    .exact absurd (gX hb) z
theorem Xk{l:PySem.W.OpenLaw}{n k:Nat}{q:fh}{loose:List Str}{XP:(Str->Option fc)->Heap->Prop}{YP:fj->Heap->Prop}{d:DefRec}{K:Params->eh}{CX:fj->CXT}{sp:fj->Sp}
 (hn:l.most=some n) (hn2:n<=sizeLine) (hdf:d.params.defaults=[]) (hr:Room k callerA)
 (hY:∀(w:fj) (h:Heap),YP w h->(K w.params).In h)
 (F:∀(w:fj) (mg:Str->Option fc) (fa:ff) (h:Heap),(K w.params).In h->h.Ns mainGlobals mg->mg d.name=some (.ref fa)->
   ∃fd:fk,(∀(s:fg) (u:fc),BindsTo s fd ⟨[u],[]⟩ [(x,u)])/\
    ∀base:Heap,(K w.params).In base->base.Ns mainGlobals mg->FnOk l.prog w (K w.params) mg base (CX w) k fa fd [x] (sp w))
 (hsp:∀(w:fj) (H:Hp) (a:ff) (ns:List Int),ns.length<=n->OI H->SqL (K w.params) H a (ns.map V.int)->sp w [.ref a] H (λv _=>v=.bl true) λ_ _ _=>False)
 (hCX:∀(w:fj) (H:Hp) (s:fg) (e:fc) (s':fg),CX w [] H s (λ_ _ _=>False) e s'->False) :
 PySem.W.WalkO q loose XP YP l.row.toRowW d [] (λf vs=>PySem.call f vs):=by
 refine Att.attach_call hn hdf λw s₀ s₁ mg mb fa o pm cd doc a vs ns G Y ho hd hcd hmg hobj hints hlen hg=>?_;have KX:=hY w _ Y;clear 5(F w mg fa _ KX G.T.g hmg)fd hb hF;exact Tm KX G.T.g G.T.b G.T.builtins G.T.nolimit hg hobj hints (um3 hlen hn2) hr hF hb (λH hO hS=>hsp w H a ns hlen hO hS) λH e s'=>hCX w H s₁ e s'
noncomputable def GA(s:Stmt):Arguments:=match s with
 |.FunctionDef _ a _ _ _ _ _ _ _ _=>a
 |_=>{posonlyargs:=[],args:=[],vararg:=none,kwonlyargs:=[],kw_defaults:=[],kwarg:=none,defaults:=[]}
noncomputable def CA(s:Stmt):List Stmt:=match s with
 |.FunctionDef _ _ b _ _ _ _ _ _ _=>b
 |_=>[]
noncomputable def AA(s:Stmt):Scope:=match s with
 |.FunctionDef _ _ _ _ _ _ sc _ _ _=>sc
 |_=>{kind:=.function,names:=[],isGenerator:=false,isCoroutine:=false}
abbrev CX0:CXT:=λ_ _ _ _ _ _=>False
abbrev E0:XK:=λ_ _ _=>False
variable{X:Cx}
theorem LJ:Gz CX0 X E0:=λ_ _ _ _ _ _ _ h=>h.elim
structure Fun(K:eh)(x qual:Str)(st:Stmt)(f:ff)(fd:fk):Prop where
 ex:∃(oc:fc) (od:Option ff) (kV doc pm:fc) (an:Option ff) (cdv ct:fc) (osl:Array (Option fc)),
  fd=PySem.W.fnOf x qual (GA st) (CA st) (AA st) .none kV doc pm an cdv ct/\K.lookup f=some ⟨oc,od,.func fd,osl⟩/\codeIn K cdv qual=true
 kp:PySem.W.keepIn K (.ref f)=true
variable{qual:Str}{f:ff}
section
variable{P:fh}{w:fj}{K:eh}{mg:Str->Option fc}{base:Heap}
theorem Fun.ok{st:Stmt}{N ps:List Str}{k:Nat}{sp:Sp}(F:Fun K x qual st f fd)(S:FnScope N ps (AA st))(len:∀vs H Q E,sp vs H Q E->vs.length=ps.length)
 (hbody:∀(cdv:fc) (A:Around) (outer:List Env) (s:fg) (H:Hp) (vs:List V) (Q:VK) (E:XK),Room k (A.deeper (envOfC qual (AA st) s.heap.objs.size f cdv))->sp vs H Q E->
   ∃t,PSs (EG CX0 P w K mg base N qual (AA st) f cdv A outer s H E).nox (CA st) t/\t {nx:=λ_ H'=>Q .non H',rt:=Q} (start N vs) H):FnOk P w K mg base CX0 (k+1) f fd ps sp:=by
 clear 5 F.ex oc od kV doc pm an cdv ct osl rfl lk hcd;refine UE lk hcd S len λA outer s H vs Q E hr hsp=>?_;clear 5(hbody cdv A outer s H vs Q E hr hsp)t h q;exact⟨t,h.nox,q⟩
theorem Fun.binds{st:Stmt}{ps:List Str}(F:Fun K x qual st f fd)
 (h:∀(kV doc pm:fc) (an:Option ff) (cdv ct:fc) (us:List fc),us.length=ps.length->bindArgs (PySem.W.fnOf x qual (GA st) (CA st) (AA st) .none kV doc pm an cdv ct) ⟨us,[]⟩=pure (ps.zip us)):Binds K fd ps []:=by
 clear 5 F.ex oc od kV doc pm an cdv ct osl rfl lk hcd;exact .all (h kV doc pm an cdv ct)
theorem JM{st:Stmt}{oc:fc}{od an:Option ff}{osl:Array (Option fc)}{kV doc pm cdv ct:fc}(l:K.lookup f=some ⟨oc,od,.func (PySem.W.fnOf x qual (GA st) (CA st) (AA st) .none kV doc pm an cdv ct),osl⟩)
 (c:codeIn K cdv qual=true) (k:PySem.W.keepIn K (.ref f)=true):Fun K x qual st f (PySem.W.fnOf x qual (GA st) (CA st) (AA st) .none kV doc pm an cdv ct):=⟨⟨oc,od,kV,doc,pm,an,cdv,ct,osl,rfl,l,c⟩,k⟩
end
section
variable{X:Cx}
end
def dN(H H':Hp):Prop:=∀b o,H b=some o->H' b=some o
section
variable{κ:Type}[DecidableEq κ]
noncomputable def Fj(kvs:List (κ×V))(k:κ):Option V:=(kvs.find? λkv=>decide (kv.1=k)).map (·.2)
noncomputable def DZ(kvs:List (κ×V))(k:κ)(v:V):List (κ×V):=
 if (kvs.any λkv=>decide (kv.1=k))=true then kvs.map (λkv=>if kv.1=k then(kv.1,v) else kv) else kvs++[(k,v)]
theorem Nm{p:κ×V}{r:List (κ×V)}{k:κ}(e:p.1=k):Fj (p::r) k=some p.2:=by simp[Fj,uj9,e]
theorem Nl{p:κ×V}{r:List (κ×V)}{k:κ}(e:¬p.1=k):Fj (p::r) k=Fj r k:=by simp[Fj,uj9,e]
theorem IU(kvs:List (κ×V))(k:κ)(v:V):(DZ kvs k v).length<=kvs.length+1:=by
 unfold DZ
 split
 .rw[uj1];lia
 .rw[uf4,uh2,uk0];lia
theorem KV.val{kvs:List (κ×V)}{vs:List (κ×fc)}(r:KV kvs vs)(k:κ):RelO (Fj kvs k) (valueAt vs k):=by
 unfold KV at r
 induction r with
 |nil=>exact True.intro
 |@cons p q ps qs h t ih=>
   clear 5 h h1 h2
   by_cases e:p.1=k
   .have e':q.1=k:=h1.symm.trans e;have b:valueAt (q::qs) k=some q.2:=by simp[valueAt,uj9,e']
    rw[Nm e,b];exact h2
   .have e':¬q.1=k:=λz=>e (h1.trans z);have b:valueAt (q::qs) k=valueAt qs k:=by simp[valueAt,uj9,e']
    rw[Nl e,b];exact ih
theorem KV.any{kvs:List (κ×V)}{vs:List (κ×fc)}(r:KV kvs vs)(k:κ):(kvs.any λkv=>decide (kv.1=k))=vs.any λkv=>decide (kv.1=k):=by
 unfold KV at r
 induction r with
 |nil=>rfl
 |cons h t ih=>rw[ul5,ul5,ih,h.1]
theorem KV.repl{kvs:List (κ×V)}{vs:List (κ×fc)}(r:KV kvs vs)(k:κ){y:V}{u:fc}(ry:RelV y u) :
 KV (kvs.map λkv=>if kv.1=k then(kv.1,y) else kv) (vs.map λkv=>if kv.1=k then(kv.1,u) else kv):=by
 unfold KV at r⊢
 induction r with
 |nil=>exact .nil
 |@cons p q ps qs h t ih=>
   rw[ul3,ul3];refine .cons ?_ ih;clear 5 h h1 h2
   by_cases e:p.1=k
   .rw[gW e,gW (h1.symm.trans e)];exact⟨h1,ry⟩
   .rw[gX e,gX (λz=>e (h1.trans z))];exact⟨h1,h2⟩
theorem KV.put{kvs:List (κ×V)}{vs:List (κ×fc)}(r:KV kvs vs)(k:κ){y:V}{u:fc}(ry:RelV y u):KV (DZ kvs k y) (stored vs k u):=by
 unfold DZ stored;rw[r.any k]
 by_cases e:(vs.any λkv=>decide (kv.1=k))=true
 .rw[gW e,gW e];exact r.repl k ry
 .rw[gX e,gX e];exact Paired.snoc r ⟨rfl,ry⟩
theorem KV.length{kvs:List (κ×V)}{vs:List (κ×fc)}(r:KV kvs vs):kvs.length=vs.length:=Paired.length r
end
theorem O9{k:Key}{u:fc}(r:RelV (kV k) u):(CH P w).is k u=true:=by
 cases k with
 |inl i=>clear 5((show ∃t,u=Value.int i t from r))t e;subst e;exact Nr P w i t
 |inr x=>clear 5((show ∃t,u=Value.str x t from r))t e;subst e;exact Nt P w x t
abbrev KT(H:Hp):List (List Key×V)->List (List Key×ff×fc)->Prop:=Paired λp q=>p.1=q.1/\H q.2.1=some (.tup (p.1.map kV))/\RelV p.2 q.2.2
variable{kvs:List (Key×V)}
section
variable{P:fh}{w:fj}{H:Hp}{h:Heap}{a:ff}
theorem ac{u:HO}(ok:HOk P w H h)(e:Rd H a u):ObjOk P w H h a u:=e.ok ok
theorem ZI(ok:HOk P w H h)(e:Rd H a (.dK kvs)):kvs.length<=sizeLine/\(a==sysModules)=false/\∃vs,KV kvs vs/\h.DictOf (CH P w) a vs:=
 show ObjOk P w H h a (.dK kvs) from ac ok e
theorem OV(ok:HOk P w H h)(e:H a=some (.dK kvs)):kvs.length<=sizeLine/\(a==sysModules)=false/\∃vs,KV kvs vs/\h.DictOf (CH P w) a vs:=ZI ok (.inl e)
end
def DGet(H:Hp)(a:ff)(y:V)(r:Option V):Prop:=
 (∃kvs k,Rd H a (.dK kvs)/\y=kV k/\r=Fj kvs k)\/∃kvs k b,Rd H a (.dT kvs)/\y=.ref b/\H b=some (.tup (k.map kV))/\r=Fj kvs k
def dJ(H:Hp)(a:ff)(y v:V)(H':Hp):Prop:=
 (∃kvs k,H a=some (.dK kvs)/\y=kV k/\kvs.length<sizeLine/\H'=upd H a (.dK (DZ kvs k v)))\/
 ∃kvs k b,H a=some (.dT kvs)/\y=.ref b/\H b=some (.tup (k.map kV))/\kvs.length<sizeLine/\H'=upd H a (.dT (DZ kvs k v))
theorem DGet.k{H:Hp}{a:ff}{k:Key}(e:H a=some (.dK kvs)):DGet H a (kV k) (Fj kvs k):=.inl ⟨kvs,k,.inl e,rfl,rfl⟩
section
variable{X:Cx}{fb:List (ff×Obj)}{σ:St}{H:Hp}{s:fg}{a:ff}{y v:V}{u r:fc}{o:Option V}{A:Around}{E:fc->fg->Prop}
theorem Inv.big(I:Inv X fb σ H s):sysModules<s.heap.objs.size:=by
 have h:mainGlobals<s.heap.objs.size:=(I.mod.glob.keeps I.bk).lt;exact Nat.lt_trans (by decide) h
theorem NI{h':Heap}{t':Nat}{ob:HO}(I:Inv X fb σ H s)(mu:Mut (H a))(hs:Heap.SameBut a s.heap h')(he:∃q,h'.get? a=some q)(new:ObjOk X.prog X.w (upd H a ob) h' a ob) :
 Inv X fb σ (upd H a ob) {s with heap:=h',toks:=t'}:=
 I.write (x:=a) (e:=a) mu (.inl rfl) (λb q hb z=>(hs.2 b hb).trans z) he new
theorem Qj{H':Hp}{h':Heap}{vs:List (Key×fc)}(z:kvs.length<=sizeLine)(hd:(a==sysModules)=false)(rel:KV kvs vs)(dd:h'.DictOf (CH P w) a vs) :
 ObjOk P w H' h' a (.dK kvs):=⟨z,hd,vs,rel,dd⟩
end
section
variable{X:Cx}{fb:List (ff×Obj)}{σ:St}{H:Hp}{s:fg}{a:ff}{kvs:List (Key×V)}{k:Key}{u:fc}{A:Around}{E:fc->fg->Prop}
end
section
variable{X:Cx}{o i e value:Expr}{pos pos' tpos:Pos}{td ty tv:TE}
end
theorem SL{H:Hp}(h:Heap)(hb:sysModules<h.objs.size):ObjOk P w H (h.push {cls:=.type "dict",data:=.dict #[]}) h.objs.size (.dK []):=
 ⟨un6 _,gb.mpr (Ne.symm (um2 hb)),[],.nil,Heap.DictOf.new h⟩
section
variable{X:Cx}{pos:Pos}
end
def Kc:List (TE×TE)->St->Hp->(List (V×V)->Hp->Prop)->Prop
 |[],_,H,Q=>Q [] H
 |(tk,tv)::r,σ,H,Q=>tk σ H λx H1=>tv σ H1 λy H2=>Kc r σ H2 λps H3=>Q ((x,y)::ps) H3
abbrev VV:List (V×V)->List (fc×fc)->Prop:=Paired λp q=>RelV p.1 q.1/\RelV p.2 q.2
def PPs(X:Cx)(pos:Pos)(keys:List (Option Expr))(values:List Expr)(trs:List (TE×TE)):Prop:=
 ∀(fb:List (ff×Obj)) (s:fg) (σ:St) (H:Hp) (Q:List (V×V)->Hp->Prop),Inv X fb σ H s->Kc trs σ H Q->
  wpAny (model X.prog X.w) X.A (evalPairs (pairTrees keys values X.env pos)) (λvs s'=>∃ps H',Inv X fb σ H' s'/\VV ps vs/\Q ps H') X.xe s
theorem Wp{pos:Pos}:PPs X pos [] [] []:=λfb s σ H Q I h=>pairTrees_nil_walk ⟨[],H,I,.nil,h⟩
theorem TM{pos:Pos}{k v:Expr}{ks:List (Option Expr)}{vs:List Expr}{tk tv:TE}{trs:List (TE×TE)}(hk:PE X k tk)(hv:PE X v tv)(hr:PPs X pos ks vs trs) :
 PPs X pos (some k::ks) (v::vs) ((tk,tv)::trs):=λfb s σ H Q I h=>
 pairTrees_cons_walk (thn (hk fb s σ H _ I h) λu s1 ⟨x,H1,I1,rx,q1⟩=>thn (hv fb s1 σ H1 _ I1 q1) λw2 s2 ⟨y,H2,I2,ry,q2⟩=>
  thn (hr fb s2 σ H2 _ I2 q2) λws s3 ⟨ps,H3,I3,rel,q3⟩=>⟨(x,y)::ps,H3,I3,.cons ⟨rx,ry⟩ rel,q3⟩)
def FT(kvs more:List (Key×V)):List (Key×V):=more.foldl (λacc kv=>DZ acc kv.1 kv.2) kvs
theorem KV.merge:∀{more:List (Key×V)}{rs:List (Key×fc)}{kvs:List (Key×V)}{vs:List (Key×fc)},KV more rs->KV kvs vs->KV (FT kvs more) (merged vs rs):=by
 intro more rs kvs vs r;unfold KV at r
 induction r generalizing kvs vs with
 |nil=>intro q;exact q
 |@cons p q ps qs h t ih=>
   intro r0;have e:KV (DZ kvs p.1 p.2) (stored vs q.1 q.2):=by
    have:=r0.put p.1 h.2;rw[<-h.1];exact this
   exact ih e
theorem Ht:∀(more kvs:List (Key×V)),(FT kvs more).length<=kvs.length+more.length
 |[],kvs=>by show kvs.length<=kvs.length+0;lia
 |p::r,kvs=>by
   have h1:=Ht r (DZ kvs p.1 p.2);have h2:=IU kvs p.1 p.2;show(FT (DZ kvs p.1 p.2) r).length<=_;rw[uh2];lia
theorem JD{P:fh}{w:fj}:∀{kvs:List (Key×V)}{ws:List (fc×fc)},VV (kvs.map λkv=>(kV kv.1,kv.2)) ws->∃rs,Carries (CH P w) ws rs/\KV kvs rs
 |[],_,r=>by rw[um7] at r;cases r;exact⟨[],True.intro,.nil⟩
 |p::kvs,_,r=>by
   rw[ul3] at r
   cases r with
   |@cons a b as bs h t=>
     clear 5(JD (P:=P) (w:=w) t)rs c q;clear 5 b b1 b2;exact⟨(p.1,b2)::rs,⟨O9 h.1,rfl,c⟩,.cons ⟨rfl,h.2⟩ q⟩
def ak(trs:List (TE×TE)):TE:=λσ H Q=>∀p,H p=none->Kc trs σ (upd H p (.dK [])) λps H2=>H2 p=some (.dK [])/\∃kvs:List (Key×V),ps=kvs.map (λkv=>(kV kv.1,kv.2))/\kvs.length<=15/\Q (.ref p) (upd H2 p (.dK (FT [] kvs)))
theorem Wd{pos:Pos}{keys:List (Option Expr)}{values:List Expr}{trs:List (TE×TE)}(h:PPs X pos keys values trs)(hall:keys.all (·.isSome)=true)(hl:keys.length=values.length)(h0:keys≠[])
 (h15:keys.length<=15):PE X (.Dict keys values pos) (ak trs):=by
 intro fb s σ H Q I q;have hn:=I.hok.fresh (un5 s.heap.objs.size);have I1:=I.laid (a:=s.heap.objs.size) (o:=.dK []) (h':=s.heap.push {cls:=.type "dict",data:=.dict #[]}) (t':=s.toks) (λ_ _ q=>ub9 _ q) (un5 _) (SL s.heap I.big);refine wpAny_Dict_walk (knd:=CH X.prog X.w) hall hl h0 h15 (thn (h fb _ σ _ _ I1 (q _ hn)) λws s2 z9=>?_);clear 5 z9 ps H2 I2 rel e kvs ep lk q2;subst ep;clear 5(JD (P:=X.prog) (w:=X.w) rel)rs c rk;clear 5(OV I2.hok e)z hd vs0 r0 dd
 cases r0
 refine⟨rs,c,dd,λh' dd' hs=>⟨.ref s.heap.objs.size,_,?_,rfl,q2⟩⟩;have hz:(FT [] kvs).length<=sizeLine:=by
  have h1:=Ht kvs [];rw[uk0] at h1;rw[gJ];lia
 have he:∃q,h'.get? s.heap.objs.size=some q:=let ⟨q,_,_,hq,_⟩:=dd';⟨q,hq⟩;exact NI I2 (by rw[e];exact True.intro) hs he (Qj hz hd (rk.merge .nil) dd')
theorem FH{env:Env}:∀(l:List (Str×NameKind)) (cs:List (Str×ff)),(∀x c,cs.lookup x=some c->env.cells.lookup x=some c)->(∀y∈l,y.2=.free->∃c,env.cells.lookup y.1=some c)->
 ∃cl,(forIn l cs λ(x:Str×NameKind) r=>(match x with|(name,kind)=>if (kind==NameKind.free)=true then do let c <-cellOf env name;pure (ForInStep.yield ((name,c)::r)) else pure (ForInStep.yield r):Sem (ForInStep (List (Str×ff)))))=pure cl/\
  (∀x c,cl.lookup x=some c->env.cells.lookup x=some c)/\(∀x c,cs.lookup x=some c->∃c',cl.lookup x=some c')/\∀y∈l,y.2=.free->∃c,cl.lookup y.1=some c
 |[],cs,h,_=>⟨cs,rfl,h,λ_ c e=>⟨c,e⟩,λ_ z=>nomatch z⟩
 |(n,k)::l,cs,h,hf=>by
   by_cases hk:k=.free
   .subst hk;clear 5(hf (n,.free) uf1 rfl)c hc;have hc':env.cells.lookup n=some c:=hc;have e:cellOf env n=pure c:=by unfold cellOf;rw[hc']
    obtain⟨cl,e1,e2,e3,e4⟩:=FH l ((n,c)::cs) (λx c' q=>by
     rw[uh9] at q
     by_cases hx:(x==n)=true
     .rw[hx] at q;cases q;rw[eq_of_beq hx];exact hc'
     .rw[ug6.mpr hx] at q;exact h x c' q) (λy hy=>hf y (ud6 _ hy))
    have self:((n,c)::cs).lookup n=some c:=by rw[uh9,ui7]
    refine⟨cl,?_,e2,λx c' q=>?_,λy hy hyf=>?_⟩
    .rw[List.forIn_cons];simp only[ui7,gS,e];exact e1
    .by_cases hx:(x==n)=true
     .rw[eq_of_beq hx];exact e3 n c self
     .exact e3 x c' (by rw[uh9,ug6.mpr hx];exact q)
    .rcases ul2.mp hy with z|z
     .subst z;exact e3 n c self
     .exact e4 y z hyf
   .have hb:(k==NameKind.free)=false:=by simpa using hk
    clear 5(FH l cs h (λy hy=>hf y (ud6 _ hy)))cl e1 e2 e3 e4;refine⟨cl,?_,e2,e3,λy hy hyf=>?_⟩
    .rw[List.forIn_cons];simp only[hb,uf6,gQ];exact e1
    .rcases ul2.mp hy with z|z
     .subst z;exact absurd hyf hk
     .exact e4 y z hyf
theorem JE{scope:Scope}{env:Env}(h:∀y∈scope.names,y.2=.free->∃c,env.cells.lookup y.1=some c) :
 ∃cl,closureFor scope env=pure cl/\(∀x c,cl.lookup x=some c->env.cells.lookup x=some c)/\∀y∈scope.names,y.2=.free->∃c,cl.lookup y.1=some c:=by
 obtain⟨cl,e1,e2,_,e4⟩:=FH (env:=env) scope.names [] (λ_ _ q=>nomatch q) h;refine⟨cl,?_,e2,e4⟩;simp only[closureFor]
 first|(rw[e1];rfl)|(simp only[e1];rfl)|(trace_state;exact e1)
theorem Mj{prog:fh}{A:Around}{R:Result->fg->Prop}{s:fg}{elt target iter:Expr}{ifs:List Expr}{scope:Scope}{pos:Pos}{it acc:fc}{env:Env}(I:Nat->fg->Prop)
 (turn:∀n s,I n s->wpAny (model prog w) A (pyNext it) (λr s₁=>match r with
   |none=>R (.ok .next) s₁
   | some v=>wpAny (model prog w) A (letOwnedTupleGo target it v) (λ_ s₁'=>wpAny (model prog w) A (assign target env v) (λ_ s₂=>
      wpAny (model prog w) A (forIn ifs true λc r=>if r=true then do let ok <-isTrue c env (eval c env);pure (ForInStep.yield ok) else pure (ForInStep.yield r)) (λok s₃=>
       if ok=true then wpAny (model prog w) A (eval elt env) (λx s₄=>
        wpAny (model prog w) A (call (.builtin "list.append") [acc,x]) (λ_ s₅=>∃m,m<n/\I m s₅) (λ_ _=>False) s₄) (λ_ _=>False) s₃
       else ∃m,m<n/\I m s₃) (λ_ _=>False) s₂) (λ_ _=>False) s₁') (λ_ _=>False) s₁) (λ_ _=>False) s)
 (n:Nat) (h:I n s) :
 codeAny (model prog w) A (.compLoop (.ListComp elt [⟨target,iter,ifs,0⟩] scope pos) 0 it acc env) R s:=by
 refine codeAny_loop rfl I (λn s hI=>?_) n h;show wpAny _ A ((compTurn (.ListComp elt [⟨target,iter,ifs,0⟩] scope pos) 0 it acc env).onRaise (λx=>do noteFrame x env;theTreesLotGoes x)) _ _ s;refine wpAny_noted ?_;rw[compTurn_list];refine uo0 (gy (uo0 (uo2 (turn n s hI) (λr s₁ h₁=>?_) λ_ _ h'=>h'.elim)))
 cases r with
 |none=>exact uo1 h₁
 |some v=>
   refine uo0 (uo2 h₁ (λ_ s₁' h₁'=>?_) λ_ _ h'=>h'.elim);refine uo0 (uo2 h₁' (λ_ s₂ h₂=>uo0 (uo2 h₂ (λok s₃ h₃=>?_) λ_ _ h'=>h'.elim)) λ_ _ h'=>h'.elim)
   cases ok with
   |false=>exact uo1 ⟨rfl,h₃⟩
   |true=>
     exact uo0 (uo0 (uo2 h₃ (λx s₄ h₄=>uo0 (uo2 h₄ (λ_ s₅ h₅=>uo1 (uo1 ⟨rfl,h₅⟩)) λ_ _ h'=>h'.elim)) λ_ _ h'=>h'.elim))
end
noncomputable def BX(X:Cx)(N':List Str)(scope:Scope)(cl:List (Str×ff))(C:ff)(s2:fg)(H2:Hp)(fp:List ff):Cx where
 prog:=X.prog
 w:=X.w
 K:=X.K
 mg:=X.mg
 base:=X.base
 A:=X.A
 N:=N'
 s₀:=s2
 H₀:=H2
 env:=compEnvC scope cl C X.env
 outer:=X.stack
 stack:=X.stack
 ex:=fp
 fn:=λx=>scope.names.lookup x==some .cell
 calm:=X.calm
 pn:=[]
 xe:=λ_ _=>False
theorem IV(h:Str->NameKind->NameKind)(x:Str):∀l:List (Str×NameKind),(l.map λp=>(p.1,h p.1 p.2)).lookup x=(l.lookup x).map (h x)
 |[]=>rfl
 |(n,k)::l=>by
   show List.lookup x ((n,h n k)::_)=_;rw[uh9,uh9]
   by_cases hx:(x==n)=true
   .rw[hx,eq_of_beq hx];rfl
   .rw[ug6.mpr hx];exact IV h x l
theorem GF(scope:Scope)(env:Env)(x:Str):(relabel scope env).names.lookup x=(scope.names.lookup x).map λk=>if (k==.free&&env.scope.kind==.function&&env.kindOf x==some .cell)=true then .cell else k:=by
 rw[<-IV (λn k=>if (k==NameKind.free&&env.scope.kind==.function&&env.kindOf n==some .cell)=true then .cell else k) x scope.names];unfold relabel;dsimp only
 congr 1
 apply ue7;intro p _;clear 5 p n k;dsimp only
 split<;>rfl
theorem CG{x:Str}{k:NameKind}:∀{l:List (Str×NameKind)},l.lookup x=some k->(x,k)∈l
 |(n,k')::l,h=>by
   rw[uh9] at h
   by_cases hx:(x==n)=true
   .rw[hx] at h;cases h;rw[eq_of_beq hx];exact uf1
   .rw[ug6.mpr hx] at h;exact ud6 _ (CG h)
theorem MY{scope:Scope}{env:Env}{x:Str}(h:(relabel scope env).names.lookup x=some .cell\/(relabel scope env).names.lookup x=some .free):scope.names.lookup x=some .free\/scope.names.lookup x=some .cell:=by
 rw[GF] at h
 cases e:scope.names.lookup x with
 |none=>rw[e] at h;rcases h with h|h<;>cases h
 |some k=>
   by_cases hk:k=.free
   .rw[hk];exact .inl rfl
   .have hb:(k==NameKind.free)=false:=by simpa using hk
    rw[e] at h;simp only[uk1,hb,uk6,uf6,gQ] at h;rcases h with h|h
    .cases h;exact .inr rfl
    .cases h;exact absurd rfl hk
def PIf(X:Cx)(ifs:List Expr)(t:TT):Prop:=
 ∀(fb:List (ff×Obj)) (s:fg) (σ:St) (H:Hp) (Q:Bool->Hp->Prop),Inv X fb σ H s->t σ H Q->
  wpAny (model X.prog X.w) X.A (forIn ifs true λc r=>if r=true then do let ok <-isTrue c X.env (eval c X.env);pure (ForInStep.yield ok) else pure (ForInStep.yield r)) (TP X fb σ Q) X.xe s
def ar:TT:=λ_ H Q=>Q true H
theorem Wk{X:Cx}:PIf X [] ar:=λ_ _ _ H _ I h=>wpAny_tests_nil ⟨H,I,h⟩
theorem Wl{X:Cx}{c:Expr}{t:TT}(h:PT X c t):PIf X [c] t:=λfb s σ H Q I q=>wpAny_tests_one (h fb s σ H Q I q)
def RY(J:It)(g:TG)(tt:TT)(te:TE)(σ₀:St)(H1:Hp)(Fin:List V->Hp->Prop):Prop:=
 ∃W:Nat->Nat->List V->St->Hp->Prop,(∃m,W 0 m [] σ₀ H1)/\∀i m acc σ' H',W i m acc σ' H'->acc.length<=sizeLine/\
  ((J.stop i H'/\Fin acc H')\/
    (J.go i H'/\∀x H2,J.yld i H' x H2->g x σ' H2 λσ3 H3=>tt σ3 H3 λb H4=>if b=true then te σ3 H4 λv H5=>∃m',m'<m/\W (i+1) m' (acc++[v]) σ3 H5 else ∃m',m'<m/\W (i+1) m' acc σ3 H4))
def PJ(wi:TI)(g:TG)(tt:TT)(te:TE)(σf:St->St):TE:=λσ H Q=>wi σ H λJ H1=>RY J g tt te (σf σ) H1 λacc H'=>∀p,H' p=none->acc.length<=sizeLine->Q (.ref p) (upd H' p (.lst acc))
section
variable{cl:List (Str×ff)}
section
variable{M:Model}{A:Around}{E:fc->fg->Prop}{s:fg}
theorem VN{scope:Scope}{globals:ff}{qual:Str}{env:Env}{Q:Env->fg->Prop}
 (hQ:Q (newEnv scope s.heap.objs.size globals (cellsFrom (s.heap.objs.size+1) scope.names cl) qual none .none (some env) builtinsNs) {s with heap:=pushCells (s.heap.push {cls:=.type "dict",data:=.dict #[]}) scope.names}) :
 wpAny M A (newFunctionEnv scope globals cl [] qual none .none (some env)) Q E s:=by
 simp only[newFunctionEnv,Option.isSome_some,gS];refine uo0 (wpAny_alloc ?_);refine uo0 (wpAny_layCells _ (λname kind cells=>by cases hkc:kind==NameKind.cell<;>simp[hkc]) _ _ _ _ ?_);rw[show({s with heap:=s.heap.push {cls:=.type "dict",data:=.dict #[]} }:fg).heap.objs.size=s.heap.objs.size+1 from uk7 ..];exact uo0 (uo1 (uo1 hQ))
end
structure CmpOk(X:Cx)(scope:Scope)(N':List Str)(σf:St->St):Prop where
 kind:scope.kind=.function
 cf:∃k:Option Str,(∀n cl,cellsFrom n scope.names cl=match k with|none=>cl|some x=>(x,n)::cl)/\(∀y,scope.names.lookup y=some .cell->k=some y)/\(∀y,k=some y->scope.names.lookup y=some .cell)
 loc:∀y∈scope.names,y.2=.local->scope.names.lookup y.1=some .local
 free:∀y∈scope.names,y.2=.free->X.env.kindOf y.1=some .cell\/X.env.kindOf y.1=some .free
 len:∀σ:St,σ.length=X.N.length->(σf σ).length=N'.length
 vals:∀(σ:St) (j:Nat) (x:Str) (v:V),N'[j]?=some x->(σf σ)[j]?=some (some v)->∃i:Nat,X.N[i]?=some x/\σ[i]?=some (some v)/\scope.names.lookup x=some .free
variable{fb:List (ff×Obj)}{σ:St}{H2:Hp}{s2:fg}{fp:List ff}
section
variable{X:Cx}{tg elt iter:Expr}{ifs:List Expr}{scope:Scope}{pos:Pos}{N':List Str}{wi:TI}{g:TG}{tt:TT}{te:TE}{σf:St->St}
theorem XC{C:ff}(O:CmpOk X scope N' σf)(I2:Inv X fb σ H2 s2)(f2:∀b∈fp,FpOk X fb H2 b)(hC:s2.heap.objs.size<=C)
 (hlt:∀b∈fp,b<s2.heap.objs.size) (e3:∀x c,cl.lookup x=some c->X.env.cells.lookup x=some c\/s2.heap.objs.size<=c) (ei:∀x y c,cl.lookup x=some c->cl.lookup y=some c->x=y) (e5:∀x c,scope.names.lookup x=some .cell->cl.lookup x=some c->s2.heap.objs.size<=c) (e4:∀y,scope.names.lookup y=some .free\/scope.names.lookup y=some .cell->∃c,cl.lookup y=some c):(BX X N' scope cl C s2 H2 fp).Ok where
 mod:=I2.ok.mod
 kind:=O.kind
 glob:=I2.ok.glob
 blt:=I2.ok.blt
 above:=hC
 inj:=ei
 has:=λx h=>e4 x (MY (env:=X.env) (x:=x) h)
 cab:=λx c h e=>e5 x c (by simpa[BX] using h) e
 hd:=I2.ok.hd
 frames:=I2.ok.frames
 stk:=.inl rfl
 exf:=λb hb=>⟨um2 (uf0 (hlt b hb) hC),λx c e=>(e3 x c e).elim (λz=>(f2 b hb).2.2.2.2.1 x c z) λz=>um5 (uf0 (hlt b hb) z)⟩
 bs:=I2.bs
 bsz:=um3 I2.ok.bsz I2.sz
 noex:=λb o e hb=>by
  rcases (f2 b hb).2.2.2.1 with z|z
  .exact I2.ok.noex b o e z
  .exact absurd (uf0 (um1 (I2.ok.bs b o e).1) z) (ul1 _)
 exfs:=λb hb z=>by
  rcases ul2.mp (I2.stkSub b z) with q|q
  .exact(f2 b hb).2.1 q
  .exact(f2 b hb).2.2.1 q
 funs:=I2.stack
 frf:=I2.stkFree
theorem Zi(I2:Inv X fb σ H2 s2){a:ff}(h:s2.heap.objs.size<=a):a∉frs X.stack:=λhb=>by
 rcases ul2.mp (I2.stkSub a hb) with q|q
 .exact absurd (uf0 I2.lt h) (by rw[q];exact ul1 _)
 .exact I2.nofs h q
theorem L0{it:ff}{tn:Nat->Heap->Prop}{J:It}{Fin:List V->Hp->Prop}{RR:fc->ff->Result->fg->Prop}{E:fc->fg->Prop}(O:CmpOk X scope N' σf)(hc:X.calm=true)
 (I2:Inv X fb σ H2 s2) (T:Turn X.prog X.w X.K tg J fp it tn) (st2:tn 0 s2.heap) (f2:∀b∈fp,FpOk X fb H2 b)
 (e2:∀x c,cl.lookup x=some c->X.env.cells.lookup x=some c) (e4:∀y∈scope.names,y.2=.free->∃c,cl.lookup y.1=some c)
 (hg:∀cl C,PG (BX X N' scope cl C s2 H2 fp) tg g) (ht:∀cl C,PIf (BX X N' scope cl C s2 H2 fp) ifs tt) (he:∀cl C,PE (BX X N' scope cl C s2 H2 fp) elt te)
 (B:RY J g tt te (σf σ) H2 Fin)
 (fin:∀cl C s' σ' H' acc m,s2.heap.objs.size<=C->C≠s2.heap.objs.size->Inv (BX X N' scope cl C s2 H2 fp) [] σ' H' s'->H' s2.heap.objs.size=none->acc.length<=sizeLine->(∃its n,Vals acc its/\s'.heap.get? s2.heap.objs.size=some { cls:=.type "list",data:=.seq its.toArray n })->Fin acc H'->s'.heap.Ns C m->
   RR (.ref s2.heap.objs.size) C (.ok .next) s') :
 wpAny (model X.prog X.w) X.A (newList []) (λacc s₃=>wpAny (model X.prog X.w) X.A (newFunctionEnv scope X.env.globals cl [] X.env.qual none .none (some X.env)) (λcenv s₄=>
  codeAny (model X.prog X.w) X.A (.compStart (.ListComp elt [⟨tg,iter,ifs,0⟩] scope pos) 0 (.ref it) acc {cenv with scope:=relabel scope X.env}) (RR acc cenv.locals) s₄) E s₃) E s2:=by
 refine gj (VN ?_);dsimp only;generalize hH2:s2.heap.push {cls:=.type "list",dict:=none,data:=.seq ([]:List fc).toArray}=HP;have hC:HP.objs.size=s2.heap.objs.size+1:=by rw[<-hH2,uk7]
 generalize hDD:s2.heap.objs.size=DD at *;generalize hCC:HP.objs.size=CC at *;clear 5 O.cf kc hcf hk1 hk2;obtain⟨h₁,hh₁⟩:∃h₁,h₁=pushCells (HP.push {cls:=.type "dict",data:=.dict #[]}) scope.names:=⟨_,rfl⟩;obtain⟨cs,hcs⟩:∃cs,cs=cellsFrom (CC+1) scope.names cl:=⟨_,rfl⟩;rw[<-hh₁,<-hcs];have hkp:∀b o,HP.get? b=some o->h₁.get? b=some o:=λb o e=>by rw[hh₁];exact pushCells_keeps _ _ b o (ub9 _ e)
 have hns₁:h₁.Ns CC (λ_=>none):=by rw[hh₁,<-hCC];exact(Heap.Ns.new HP (.type "dict")).keeps (pushCells_keeps _ _)
 have hcn:∀k,kc=some k->h₁.IsCell (CC+1) none:=λk hk=>by
  have ok:=cellsFrom_ok scope.names (HP.push {cls:=.type "dict",data:=.dict #[]}) (CC+1) [] ⟨λ_ _ hm=>(nomatch hm),List.Pairwise.nil⟩ (by rw[uk7,hCC];exact un5 _);rw[uk7,hCC,hcf,hk,<-hh₁] at ok;exact(ok.empty k (CC+1) uf1).1
 have hDC:DD≠CC:=by rw[hC];exact um2 (uh3 _)
 have hCle:s2.heap.objs.size<=CC:=by rw[hC,hDD];exact un7 _
 have hlt:∀b∈fp,b<s2.heap.objs.size:=λb hb=>by obtain⟨o,e,_⟩:=T.obj _ _ st2 b hb;exact um1 e
 have hlt':∀b∈fp,b<DD:=λb hb=>by rw[<-hDD];exact hlt b hb
 have below:∀b,b<DD->b≠CC/\b≠DD:=λb hb=>⟨by rw[hC];exact um2 (Nat.lt_succ_of_lt hb),um2 hb⟩;have old:∀b o,s2.heap.get? b=some o->h₁.get? b=some o:=λb o e=>hkp b o (hH2 ▸ ub9 _ e);have hacc:h₁.get? DD=some {cls:=.type "list",data:=.seq ([]:List fc).toArray}:=by
  refine hkp _ _ ?_;rw[<-hH2,<-hDD];exact ue4 _ rfl
 have lt2:∀x c,X.env.cells.lookup x=some c->c<s2.heap.objs.size:=λx c e=>by clear 5(I2.cell x c e)v q;exact q.lt
 have hCn:s2.heap.objs.size<=CC+1:=Nat.le_succ_of_le hCle;have cs0:∀x c,cs.lookup x=some c->(kc=some x/\c=CC+1)\/(kc≠some x/\cl.lookup x=some c):=λx c e=>by
  rw[hcs,hcf] at e
  cases kc with
  |none=>exact .inr ⟨by simp,e⟩
  |some k=>
    dsimp only at e;rw[uh9] at e
    by_cases q:(x==k)=true
    .rw[q] at e;cases e;exact .inl ⟨by rw[eq_of_beq q],rfl⟩
    .rw[ug6.mpr q] at e;exact .inr ⟨λz=>q (by cases z;simp),e⟩
 have cs1:∀x c,cl.lookup x=some c->kc≠some x->cs.lookup x=some c:=λx c e n=>by
  rw[hcs,hcf]
  cases kc with
  |none=>exact e
  |some k=>
    dsimp only;rw[uh9,show(x==k)=false from by simpa using λz=>n (by rw[z])];exact e
 have cs2:∀k,kc=some k->cs.lookup k=some (CC+1):=λk hk=>by
  rw[hcs,hcf,hk];dsimp only;rw[uh9,ui7]
 have fn0:∀x,scope.names.lookup x=some .free->kc≠some x:=λx h z=>by rw[hk2 x z] at h;cases h
 have ok:=XC (cl:=cs) (C:=CC) O I2 f2 hCle hlt (λx c e=>(cs0 x c e).elim (λz=>.inr (by rw[z.2];exact hCn)) λz=>.inl (e2 x c z.2))
  (λx y c h1 h2=>by
    rcases cs0 x c h1 with z|z<;>rcases cs0 y c h2 with z'|z'
    .have:=z.1.symm.trans z'.1;cases this;rfl
    .have:=lt2 y c (e2 y c z'.2);rw[z.2] at this;exact absurd (uf0 this hCn) (ul1 _)
    .have:=lt2 x c (e2 x c z.2);rw[z'.2] at this;exact absurd (uf0 this hCn) (ul1 _)
    .exact I2.ok.inj x y c (e2 x c z.2) (e2 y c z'.2))
  (λx c h e=>(cs0 x c e).elim (λz=>by rw[z.2];exact hCn) λz=>absurd (hk1 x h) z.1)
  (λy h=>h.elim (λz=>by clear 5(e4 _ (CG z) rfl)c q;exact⟨c,cs1 y c q (fn0 y z)⟩) λz=>⟨_,cs2 y (hk1 y z)⟩)
 have hfs:DD∉frs X.stack:=Zi I2 (by rw[hDD];exact un5 _);obtain⟨W,⟨m0,w0⟩,turn⟩:=B
 let X':Cx:=BX X N' scope cs CC s2 H2 fp
 have I0:Inv X' [] (σf σ) H2 {s2 with heap:=h₁ }:=by
  refine⟨ok,rfl,I2.bare,Un.kept old,⟨_,hns₁,λj x v q1 q2 q3=>?_⟩,λx c e=>?_,I2.hok.fresh hCle,λx c e=>(cs0 x c e).elim (λz=>by rw[z.2];exact I2.hok.fresh hCn) (λz=>I2.freeC x c (e2 x c z.2)),(λp hp=>nomatch hp),I2.hok.kept old,O.len σ I2.len⟩
  .clear 5(O.vals σ j x v q1 q2)i n1 n2 n3;obtain⟨m,_,hl⟩:=I2.loc;have hfr:=O.free _ (CG n3) rfl;clear 5(hl i x v n1 n2 (.inr hfr))u r l;refine⟨u,r,?_⟩;rcases l with⟨k,_⟩|⟨_,c,ec,hcell⟩
   .rcases hfr with z|z<;>(have z':=k.symm.trans z;cases z')
   .clear 5(e4 _ (CG n3) rfl)c' ec';have z:=e2 _ _ ec';have ez:X.env.cells.lookup x=some c':=z;rw[ec] at ez
    cases ez
    refine .inr ⟨?_,c,cs1 x c ec' (fn0 x n3),?_⟩
    .show(relabel scope X.env).names.lookup x=some .cell\/(relabel scope X.env).names.lookup x=some .free;rw[GF,n3];simp only[uk1]
     split
     .exact .inl rfl
     .exact .inr rfl
    .clear 5 hcell o ho hd;exact⟨o,old _ _ ho,hd⟩
  .rcases cs0 x c e with z|z
   .rw[z.2];exact⟨none,hcn x z.1⟩
   .clear 5(I2.cell x c (e2 x c z.2))v o ho hd;exact⟨v,o,old _ _ ho,hd⟩
 have loop:∀s₃:fg,s₃ = {s2 with heap:=h₁ }->
  codeAny (model X.prog X.w) X.A (.compLoop (.ListComp elt [⟨tg,iter,ifs,0⟩] scope pos) 0 (.ref it) (.ref DD) (compEnvC scope cs CC X.env)) (RR (.ref DD) CC) s₃:=by
  rintro s₃ rfl;refine Mj (λn s'=>∃i acc its nn σ' H',Inv X' [] σ' H' s'/\tn i s'.heap/\(∀b∈fp,H' b=none)/\Vals acc its/\s'.heap.get? DD=some {cls:=.type "list",data:=.seq its.toArray nn}/\H' DD=none/\W i n acc σ' H') ?_ m0
   ⟨0,[],[],0,σf σ,H2,I0,T.keep _ _ _ st2 (λb _ o e=>old b o e),λb hb=>(f2 b hb).1,.nil,hacc,I2.hok.fresh (by rw[hDD];exact un5 _),w0⟩
  rintro n s' ⟨i,acc,its,nn,σ3,H3,I3,st3,fr3,hv,hD,hDn,w3⟩;have I3p:Inv X' [(DD,({cls:=.type "list",data:=.seq its.toArray nn}:Obj))] σ3 H3 s':=I3.pins_of λp hp=>by
   have e:p=(DD,({cls:=.type "list",data:=.seq its.toArray nn}:Obj)):=by simpa using hp
   subst e;exact⟨hD,hDn,hDC,hfs,λv z=>nomatch z⟩
  have stat:∀{pins':List (ff×Obj)}{H':Hp},(∀p∈pins',p.1=DD)->(∀b∈fp,H' b=none)->∀b∈fp,FpOk X' pins' H' b:=λ{pins' H'} hp hn b hb=>
   ⟨hn b hb,(ok.exf b hb).1,ok.exfs b hb,.inl hb,(ok.exf b hb).2,λp hp' z=>by
    have e:p.1=DD:=hp p (by simpa[X',BX] using hp');exact absurd (hlt' b hb) (by rw[<-z,e];exact ul1 _)⟩
  have one:∀p∈[(DD,({cls:=.type "list",data:=.seq its.toArray nn}:Obj))],p.1=DD:=λp hp=>by
   have e:p=(DD,({cls:=.type "list",data:=.seq its.toArray nn}:Obj)):=by simpa using hp
   rw[e]
  clear 5(turn i n acc σ3 H3 w3)hz tr;rcases tr with⟨stop,qf⟩|⟨go,step⟩
  .refine thn (T.done X' rfl rfl rfl hc i _ s' σ3 H3 (λ_ _=>False) I3p (stat one fr3) st3 stop) λr s4 z9=>?_;clear 5 z9 hr I4;subst hr;obtain⟨m4,hm4,_⟩:=I4.loc;have pD:=(I4.pin (DD,({cls:=.type "list",data:=.seq its.toArray nn}:Obj)) (by simp[X',BX])).1;have I4':Inv X' [] σ3 H3 s4:=I4.pins_of λp hp=>nomatch hp;exact fin cs CC s4 σ3 H3 acc m4 (by rw[hDD] at hCle;exact hCle) (Ne.symm hDC) I4' hDn hz ⟨its,nn,hv,pD⟩ qf hm4
  .refine thn (T.item X' rfl rfl rfl hc i _ s' σ3 H3 (λ_ _=>False) I3p (stat one fr3) st3 go) λr s4 z9=>?_;clear 5 z9 u hr h4;subst hr;refine thn h4 λ_ s5 z9=>?_;clear 5 z9 x H5 I5 r5 y5 st5 fr5;have I5':=I5.pinned (stat one fr5) (T.obj _ _ st5);refine thn (hg cs CC _ s5 σ3 H5 x u _ I5' r5 (step x H5 y5)) λ_ s6 z9=>?_;clear 5 z9 σ6 H6 I6 q6;refine thn (ht cs CC _ s6 σ6 H6 _ I6 q6) λb s7 z9=>?_;clear 5 z9 H7 I7 q7;have back:∀{H8:Hp}{s8:fg},Inv X' ([(DD,({cls:=.type "list",data:=.seq its.toArray nn}:Obj))]++Ie fp s5.heap) σ6 H8 s8->
    s8.heap.get? DD=some {cls:=.type "list",data:=.seq its.toArray nn}/\H8 DD=none/\tn (i+1) s8.heap/\(∀b∈fp,H8 b=none)/\Inv X' [] σ6 H8 s8:=λ{H8 s8} I8=>by
    have p1:=I8.pin (DD,({cls:=.type "list",data:=.seq its.toArray nn}:Obj)) (by simp[X',BX]);refine⟨p1.1,p1.2.1,T.keep _ _ _ st5 λb hb o e=>(I8.pin (b,o) (uc6 _ (uc6 _ (Fo hb e)))).1,λb hb=>?_,I8.pins_of λp hp=>nomatch hp⟩;obtain⟨o,e,_⟩:=T.obj _ _ st5 b hb;exact(I8.pin (b,o) (uc6 _ (uc6 _ (Fo hb e)))).2.1
   cases b with
   |false=>
     rw[gX uf2] at q7⊢;clear 5 q7 m' hm w7;clear 5(back I7)a1 a2 a3 a4 a5;exact⟨m',hm,i+1,acc,its,nn,σ6,H7,a5,a3,a4,hv,a1,a2,w7⟩
   |true=>
     rw[gW rfl] at q7⊢;refine thn (he cs CC _ s7 σ6 H7 _ I7 q7) λy s8 z9=>?_;clear 5 z9 v8 H8 I8 r8 m' hm w8;clear 5(back I8)a1 a2 a3 a4 a5;have hsz:its.toArray.size<=sizeLine:=by
      have e:=hv.length;simpa[e] using hz
     refine wpAny_list_append_plain (hsz:=hsz) ⟨nn,a1⟩ λh9 hl9 hs9=>?_;clear 5 hl9 n9 e9;have e9':h9.get? DD=some {cls:=.type "list",data:=.seq (its++[y]).toArray n9}:=by simpa using e9
     refine⟨m',hm,i+1,acc++[v8],its++[y],n9,σ6,H8,a5.turned (t':=s8.toks) (h':=h9) (it:=DD) (λb o hb e=>hs9.extBut b o hb e) a2 hDC (.inr (show s2.heap.objs.size<=DD by rw[hDD];exact un5 _)) (λx' c e z=>?_) (λp hp=>nomatch hp),T.keep _ _ _ a3 λb hb o e=>hs9.extBut b o (um2 (hlt' b hb)) e,a4,hv.append (.cons r8 .nil),e9',a2,w8⟩;rcases cs0 x' c e with q|q
     .rw[q.2] at z;have z2:s2.heap.objs.size<=CC:=by rw[hDD];rw[hDD] at hCle;exact hCle
      rw[hDD,<-z] at z2;exact ul1 _ z2
     .have:=lt2 x' c (e2 x' c q.2);rw[hDD,z] at this;exact ul1 _ this
 exact codeAny_compStart_list (loop _ rfl) (T.self _ 0 _ _ _ (T.keep _ _ _ st2 λb _ o e=>old b o e) (loop _ rfl))
end
section
variable{X:Cx}{tg elt iter:Expr}{ifs:List Expr}{scope:Scope}{pos:Pos}{N':List Str}{wi:TI}{g:TG}{tt:TT}{te:TE}{σf:St->St}
theorem Lc{σ':St}{H':Hp}{s':fg}{C:ff}{acc:List V}{its:List fc}{n:Nat}{h':Heap}(I2:Inv X fb σ H2 s2)(f2:∀b∈fp,FpOk X fb H2 b)
 (hC:s2.heap.objs.size<=C) (hCD:C≠s2.heap.objs.size) (I':Inv (BX X N' scope cl C s2 H2 fp) [] σ' H' s') (hDn:H' s2.heap.objs.size=none) (hz:acc.length<=sizeLine) (hv:Vals acc its)
 (hD:s'.heap.get? s2.heap.objs.size=some {cls:=.type "list",data:=.seq its.toArray n}) (hs:Heap.SameBut C s'.heap h') :
 Inv X fb σ (upd H' s2.heap.objs.size (.lst acc)) {s' with heap:=h'}:=by
 have U:=I'.base;have lt:∀b o,s2.heap.get? b=some o->b≠C/\b≠s2.heap.objs.size:=λb o e=>⟨um2 (uf0 (um1 e) hC),um2 (um1 e)⟩;have neD:∀b u,H' b=some u->b≠s2.heap.objs.size:=λb u e=>AD e hDn;have neC:∀b u,H' b=some u->b≠C:=λb u e=>AD e I'.free;refine I2.call' (s':={s' with heap:=h'}) (ch:=fp) I'.os ⟨λb o e n hb hx=>?_,λb o e n hb hx=>?_,λb o e n hx=>?_,λb o e hx=>?_,λb xs e=>?_,λb o u e=>?_,λb ps e=>?_⟩ ?_ I'.bare λb hb=>⟨(f2 b hb).2.2.2.1,(f2 b hb).2.1,(f2 b hb).2.2.2.2.1,(f2 b hb).2.2.2.2.2⟩
 .exact hs.extBut b o (lt b o e).1 (U.keep b o e n hb hx)
 .clear 5(U.slot b o e n hb hx)sl q;exact⟨sl,hs.extBut b _ (lt b o e).1 q⟩
 .rw[Av (lt b o e).2];exact U.free b o e n hx
 .clear 5(U.there b o e hx)o' q;exact⟨o',hs.extBut b _ (lt b o e).1 q⟩
 .have q:=U.tups b xs e;rw[Av (neD b _ q)];exact q
 .have q:=U.frzs b o u e;rw[Av (neD b _ q)];exact q
 .clear 5(U.tbls b ps e)m q;exact⟨m,by rw[Av (neD b _ q)];exact q⟩
 .intro b u e
  by_cases hb:b=s2.heap.objs.size
  .subst hb;rw[AJ] at e
   cases e
   exact⟨hz,its,n,hv,hs.extBut _ _ (Ne.symm hCD) hD⟩
  .rw[Av hb] at e;refine(I'.hok b u e).stay (λc v hc q=>hs.extBut c v ?_ q) (λc q=>by rw[Av (neD c _ q)];exact q) λc xs q=>by rw[Av (neD c _ q)];exact q
   rcases hc with z|z
   .rw[z];exact neC b u e
   .exact neC c _ z
theorem Wc(O:CmpOk X scope N' σf)(hc:X.calm=true)(hi:PI X tg iter wi)
 (hg:∀cl C s2 H2 fp,PG (BX X N' scope cl C s2 H2 fp) tg g) (ht:∀cl C s2 H2 fp,PIf (BX X N' scope cl C s2 H2 fp) ifs tt) (he:∀cl C s2 H2 fp,PE (BX X N' scope cl C s2 H2 fp) elt te)
 (hs:∀x,foldedSetIterable iter X.env x=pure x:=by intro _;rfl):PE X (.ListComp elt [⟨tg,iter,ifs,0⟩] scope pos) (PJ wi g tt te σf):=by
 intro fb s σ H Q I h;obtain⟨cl,e1,e2,e4⟩:=JE (scope:=scope) (env:=X.env) λy hy hf=>I.ok.has y.1 (O.free y hy hf);rw[eval_ListComp];refine wpAny_comprehension_free (use:=none) rfl hs e1 O.kind O.loc (thn (hi fb s σ H _ I h) λv s1 h1=>thn h1 λitv s2 h2=>?_);clear 5 h2 it fp tn J H2 rfl I2 T st2 f2 B;refine L0 (RR:=λacc C=>compPost (model X.prog X.w) X.A X.xe none (EP X fb σ Q) acc C) O hc I2 T st2 f2 e2 e4 (λcl C=>hg cl C s2 H2 fp) (λcl C=>ht cl C s2 H2 fp) (λcl C=>he cl C s2 H2 fp) B ?_;intro cl' C s' σ' H' acc m hC hCD I' hDn hz hL fin hn;clear 5 hL its n hv hD;refine⟨m,hn,λh' hs'=>?_⟩;exact⟨.ref s2.heap.objs.size,upd H' _ (.lst acc),Lc I2 f2 hC hCD I' hDn hz hv hD hs',rfl,fin _ hDn hz⟩
theorem Oc{i:Nat}{y:Str}{py spos:Pos}(O:CmpOk X scope N' σf)(hc:X.calm=true)(hN:X.N.Nodup)(hiN:X.N[i]?=some y)(hx:X.env.scope.names.lookup y=some .local)(hi:PI X tg iter wi)
 (hg:∀cl C s2 H2 fp,PG (BX X N' scope cl C s2 H2 fp) tg g) (ht:∀cl C s2 H2 fp,PIf (BX X N' scope cl C s2 H2 fp) ifs tt) (he:∀cl C s2 H2 fp,PE (BX X N' scope cl C s2 H2 fp) elt te)
 (hsw:swapsWith (.ListComp elt [⟨tg,iter,ifs,0⟩] scope pos) (some (.Name y py)) spos.line X.env=pure true:=by rfl)
 (hs:∀x,foldedSetIterable iter X.env x=pure x:=by intro _;rfl):PS X (.Assign [.Name y py] (.ListComp elt [⟨tg,iter,ifs,0⟩] scope pos) spos) (Ng (PJ wi g tt te σf) (JN i)):=by
 intro fb s σ H D I h;obtain⟨cl,e1,e2,e4⟩:=JE (scope:=scope) (env:=X.env) λy hy hf=>I.ok.has y.1 (O.free y hy hf);rw[exec_Assign_Name_used _ _ _ _ hsw];refine uo0 (gy (uo0 ?_));show wpAny _ X.A (do let _ <-comprehension (.ListComp elt [⟨tg,iter,ifs,0⟩] scope pos) scope X.env _ (newList []) false (eval iter X.env) (some (assign (.Name y py) X.env))) _ _ s;refine uo0 (thn (wpAny_comprehension_free (use:=some (assign (.Name y py) X.env)) (Q:=λ_ s'=>SP X fb D .next s') rfl hs e1 O.kind O.loc (thn (hi fb s σ H _ I h) λv s1 h1=>thn h1 λitv s2 h2=>?_)) (λ_ s' hq=>uo1 (uo1 hq)));clear 5 h2 it fp tn J H2 rfl I2 T st2 f2 B;refine L0 (RR:=λacc C=>compPost (model X.prog X.w) X.A X.xe (some (assign (.Name y py) X.env)) (λ_ s'=>SP X fb D .next s') acc C) O hc I2 T st2 f2 e2 e4 (λcl C=>hg cl C s2 H2 fp) (λcl C=>ht cl C s2 H2 fp) (λcl C=>he cl C s2 H2 fp) B ?_;intro cl' C s' σ' H' acc m hC hCD I' hDn hz hL fin hn;clear 5 hL its n hv hD;show wpAny _ X.A (assign (.Name y py) X.env (.ref s2.heap.objs.size)) _ _ _;have I3:=Lc I2 f2 hC hCD I' hDn hz hv hD (Heap.SameBut.refl ..);refine wpAny_assign_Name (Lp I3 hN hiN (.inl hx) (v:=.ref s2.heap.objs.size) rfl (λs4 I4 z9=>?_) (.inr hx));clear 5 z9 a hsb ha;have hCL:C≠X.env.locals:=um5 (uf0 I2.lt hC);have hCc:∀x c,X.env.cells.lookup x=some c->c≠C:=λx c e z=>by
  clear 5(I2.cell x c e)v q;exact absurd (uf0 q.lt (by rw[z];exact hC)) (ul1 _)
 have hCa:C≠a:=by
  rcases ha with z|z
  .rw[z];exact hCL
  .exact λq=>hCc _ _ z q.symm
 refine⟨m,hn.sameBut hsb hCa,λh' hs'=>?_⟩;have hnC:(upd H' s2.heap.objs.size (.lst acc)) C=none:=by rw[Av hCD];exact I'.free
 refine⟨_,_,I4.turned (t':=s4.toks) (h':=h') (it:=C) (λb o hb e=>hs'.extBut b o hb e) hnC hCL (.inr (um3 I2.sz hC)) hCc (λp hp z=>?_),fin _ hDn hz⟩;exact absurd (uf0 (um1 (I2.pin p hp).1) (by rw[z];exact hC)) (ul1 _)
end
end
set_option autoImplicit false
inductive D where
 |non|bl (b:Bool)|int (i:Int)|str (x:Str)|tup (xs:List D)|lst (xs:List D)|scr (ns:List Int)|dic|obj (k:Nat)|ty (n:String)|exc (n:Str) (xs:List D)
structure Cf where
 ι:List ff
 O:ff->Prop
def Cf.A(c:Cf)(a:ff):Prop:=a∈c.ι\/c.O a
def Scr(K:eh)(c:Cf)(H:Hp)(a:ff)(vs:List V):Prop:=
 ((∃o,H a=some (.frz o (.lst vs)))/\¬c.A a)\/
   ∃(o:Obj) (its:Array fc) (n:Nat),K.lookup a=some o/\o.cls=.type "list"/\o.dict=none/\o.data=.seq its n/\its.size<=sizeLine/\Vals vs its.toList
def XIs(qx:Bool)(x C:ff)(dx:Option ff)(h:Heap):Prop:=∃(o:Obj) (vs:Array fc),h.get? x=some o/\o.cls=.ref C/\o.dict=dx/\o.data=.fields vs/\(qx=true->vs[2]?=some .none/\4<vs.size)
noncomputable def Te(n:Str):List Str:=if n = "NoTalk" then ["at"] else if n = "Broken" then ["at", "side"] else []
def XFld(c:Cf)(H:Hp)(dx:Option ff)(ns:List Str)(vs:List V):Prop:=match dx with
 |none=>vs=[]
 |some d=>H d=some (.xd (ns.zip vs))/\¬c.A d
mutual
inductive Rep(K:eh)(c:Cf)(H:Hp):V->D->Prop where
 |non:Rep K c H .non .non
 |bl (b:Bool):Rep K c H (.bl b) (.bl b)
 |int (i:Int):Rep K c H (.int i) (.int i)
 |str (x:Str):Rep K c H (.str x) (.str x)
 |ty (n:String):Rep K c H (.ty n) (.ty n)
 |tup {a:ff}{vs:List V}{ds:List D}:H a=some (.tup vs)->¬c.A a->Reps K c H vs ds->Rep K c H (.ref a) (.tup ds)
 |lst {a:ff}{vs:List V}{ds:List D}:H a=some (.lst vs)->¬c.A a->Reps K c H vs ds->Rep K c H (.ref a) (.lst ds)
 |scr {a:ff}{ns:List Int}:Scr K c H a (ns.map V.int)->Rep K c H (.ref a) (.scr ns)
 |dic {a:ff}:H a=some (.dK [])->¬c.A a->Rep K c H (.ref a) .dic
 |obj {a:ff}{k:Nat}:c.ι[k]?=some a->Rep K c H (.ref a) (.obj k)
 |exc {qx:Bool}{x C:ff}{dx:Option ff}{n:Str}{vs:List V}{ds:List D}:PySem.W.nsIn K mainGlobals n=some (some (.ref C))->H x=some (.ext (XIs qx x C dx))->¬c.A x->XFld c H dx (Te n) vs->Reps K c H vs ds->Rep K c H (.ref x) (.exc n ds)
inductive Reps(K:eh)(c:Cf)(H:Hp):List V->List D->Prop where
 |nil:Reps K c H [] []
 |cons {v:V}{d:D}{vs:List V}{ds:List D}:Rep K c H v d->Reps K c H vs ds->Reps K c H (v::vs) (d::ds)
end
structure Ext(c:Cf)(H:Hp)(c':Cf)(H':Hp):Prop where
 keep:∀b o,H b=some o->¬c.A b->H' b=some o
 av:∀b o,H b=some o->c'.A b->c.A b
 io:∀(k:Nat) (a:ff),c.ι[k]?=some a->c'.ι[k]?=some a
section
variable{c:Cf}{H:Hp}
theorem Ext.refl:Ext c H c H:=⟨λ_ _ h _=>h,λ_ _ _ h=>h,λ_ _ h=>h⟩
theorem Ext.trans{c1 c2:Cf}{H1 H2:Hp}(a:Ext c H c1 H1)(b:Ext c1 H1 c2 H2):Ext c H c2 H2:=by
 refine⟨λx o h n=>?_,λx o h n=>?_,λk x h=>b.io k x (a.io k x h)⟩
 .exact b.keep x o (a.keep x o h n) λz=>n (a.av x o h z)
 .by_cases q:c.A x
  .exact q
  .exact a.av x o h (b.av x o (a.keep x o h q) n)
variable{K:eh}{a:ff}{vs:List V}
theorem Scr.mono{c':Cf}{H':Hp}(e:Ext c H c' H')(h:Scr K c H a vs):Scr K c' H' a vs:=by
 rcases h with⟨⟨o,h⟩,n⟩|h
 .exact .inl ⟨⟨o,e.keep _ _ h n⟩,λz=>n (e.av _ _ h z)⟩
 .exact .inr h
theorem Scr.sq(h:Scr K c H a vs):SqL K H a vs:=by
 rcases h with⟨h,_⟩|h
 .exact .inl (.inr h)
 .exact .inr h
theorem XFld.mono{c':Cf}{H':Hp}{dx:Option ff}{ns:List Str}(e:Ext c H c' H')(h:XFld c H dx ns vs):XFld c' H' dx ns vs:=by
 cases dx with
 |none=>exact h
 |some d=>exact⟨e.keep _ _ h.1 h.2,λz=>h.2 (e.av _ _ h.1 z)⟩
mutual
theorem Rep.mono{K:eh}{c c':Cf}{H H':Hp}(e:Ext c H c' H'){v:V}{d:D}(r:Rep K c H v d):Rep K c' H' v d:=by
 cases r with
 |non=>exact .non
 |bl b=>exact .bl b
 |int i=>exact .int i
 |str x=>exact .str x
 |ty n=>exact .ty n
 |tup h n r=>exact .tup (e.keep _ _ h n) (λz=>n (e.av _ _ h z)) (Reps.mono e r)
 |lst h n r=>exact .lst (e.keep _ _ h n) (λz=>n (e.av _ _ h z)) (Reps.mono e r)
 |scr h=>exact .scr (h.mono e)
 |dic h n=>exact .dic (e.keep _ _ h n) (λz=>n (e.av _ _ h z))
 |obj h=>exact .obj (e.io _ _ h)
 |exc g h n f r=>exact .exc g (e.keep _ _ h n) (λz=>n (e.av _ _ h z)) (f.mono e) (Reps.mono e r)
theorem Reps.mono{K:eh}{c c':Cf}{H H':Hp}(e:Ext c H c' H'){vs:List V}{ds:List D}(r:Reps K c H vs ds):Reps K c' H' vs ds:=by
 cases r with
 |nil=>exact .nil
 |cons h t=>exact .cons (Rep.mono e h) (Reps.mono e t)
end
section
variable{K:eh}{c:Cf}{H:Hp}
theorem Reps.length:∀{vs:List V}{ds:List D},Reps K c H vs ds->vs.length=ds.length
 |_,_,.nil=>rfl
 |_,_,.cons _ t=>by simp[Reps.length t]
theorem Reps.get:∀{vs:List V}{ds:List D}{i:Nat}{v:V}{d:D},Reps K c H vs ds->vs[i]?=some v->ds[i]?=some d->Rep K c H v d
 |_,_,_,_,_,.nil,e,_=>by simp at e
 |_,_,0,_,_,.cons r _,e,e'=>by simp at e e';subst e e';exact r
 |_,_,i+1,_,_,.cons _ t,e,e'=>Reps.get (i:=i) t (by simpa using e) (by simpa using e')
theorem Reps.at:∀{vs:List V}{ds:List D}{i:Nat}{d:D},Reps K c H vs ds->ds[i]?=some d->∃v,vs[i]?=some v/\Rep K c H v d
 |_,_,_,_,.nil,e=>by simp at e
 |_,_,0,_,.cons r _,e=>by simp at e;subst e;exact⟨_,rfl,r⟩
 |_,_,i+1,_,.cons _ t,e=>by
   clear 5(Reps.at (i:=i) t (by simpa using e))v h1 h2;exact⟨v,by simpa using h1,h2⟩
theorem Reps.append{vs ws:List V}{ds es:List D}(r:Reps K c H vs ds)(s:Reps K c H ws es):Reps K c H (vs++ws) (ds++es):=by
 cases r with
 |nil=>exact s
 |cons r t=>exact .cons r (Reps.append t s)
theorem Reps.take:∀{vs:List V}{ds:List D} (n:Nat),Reps K c H vs ds->Reps K c H (vs.take n) (ds.take n)
 |_,_,0,_=>.nil
 |_,_,_+1,.nil=>.nil
 |_,_,n+1,.cons r t=>.cons r (Reps.take n t)
theorem Reps.drop:∀{vs:List V}{ds:List D} (n:Nat),Reps K c H vs ds->Reps K c H (vs.drop n) (ds.drop n)
 |_,_,0,r=>r
 |_,_,_+1,.nil=>.nil
 |_,_,n+1,.cons _ t=>Reps.drop n t
theorem Reps.set{v:V}{d:D}(r:Rep K c H v d):∀{vs:List V}{ds:List D} (i:Nat),Reps K c H vs ds->Reps K c H (vs.set i v) (ds.set i d)
 |_,_,_,.nil=>.nil
 |_,_,0,.cons _ t=>.cons r t
 |_,_,i+1,.cons q t=>.cons q (Reps.set r i t)
theorem Reps.ints:∀ns:List Int,Reps K c H (ns.map V.int) (ns.map D.int)
 |[]=>.nil
 |n::r=>.cons (.int n) (Reps.ints r)
theorem Reps.rep{vs:List V}{ds:List D}(h:Reps K c H vs ds):∀k:Nat,Reps K c H (List.replicate k vs).flatten (List.replicate k ds).flatten
 |0=>.nil
 |k+1=>by
   rw[ue6,ue6,ug3,ug3];exact h.append (Reps.rep h k)
end
inductive Ob where
 |lst (xs:List D)
 |dct (kvs:List (Key×D))
 |ins (n:Str) (fs:List (Str×D))
inductive Sl where
 |val (d:D)
 |own (xs:List D)
structure T where
 env:List (Option Sl)
 S:List Ob
def KVR(K:eh)(c:Cf)(H:Hp):List (Key×V)->List (Key×D)->Prop:=Paired λp q=>p.1=q.1/\Rep K c H p.2 q.2
noncomputable def Kv:List Str:=["Reader", "Side", "Lasting", "Parley", "Listener", "Relay", "Desk"]
noncomputable def atN:List Str:=["grammar", "standing", "wires", "places", "side", "said", "taken", "handed", "left", "right", "under_way", "grammars", "standings", "heard", "left_grammar", "right_grammar", "rows", "pair", "broken", "parley"]
def FldR(K:eh)(c:Cf)(H:Hp):List (Str×V)->List (Str×D)->Prop:=Paired λp q=>p.1=q.1/\Rep K c H p.2 q.2
def ObR(K:eh)(c:Cf)(H:Hp)(a:ff):Ob->Prop
 |.lst ds=>∃vs,H a=some (.lst vs)/\Reps K c H vs ds
 |.dct kvs=>∃us,H a=some (.dK us)/\KVR K c H us kvs
 |.ins n fs=>(n∈Kv/\∀p∈fs,p.1∈atN)/\∃C dx us,PySem.W.nsIn K mainGlobals n=some (some (.ref C))/\H a=some (.ins C dx us)/\FldR K c H us fs
theorem ObR.mono{K:eh}{c c':Cf}{H H':Hp}{a:ff}{o:Ob}(e:Ext c H c' H')(h:ObR K c H a o)(ha:H' a=H a):ObR K c' H' a o:=by
 cases o with
 |lst ds=>clear 5 h vs h1 h2;exact⟨vs,ha.trans h1,h2.mono e⟩
 |dct kvs=>clear 5 h us h1 h2;exact⟨us,ha.trans h1,Paired.mapP h2 λ_ _ z=>⟨z.1,z.2.mono e⟩⟩
 |ins n fs=>clear 5 h h0 C dx us g h1 h2;exact⟨h0,C,dx,us,g,ha.trans h1,Paired.mapP h2 λ_ _ z=>⟨z.1,z.2.mono e⟩⟩
theorem ObR.some{o:Ob}(h:ObR K c H a o):∃u,H a=some u:=by
 cases o with
 |lst ds=>obtain⟨vs,h1,_⟩:=h;exact⟨_,h1⟩
 |dct kvs=>obtain⟨us,h1,_⟩:=h;exact⟨_,h1⟩
 |ins n fs=>obtain⟨_,_,_,_,_,h1,_⟩:=h;exact⟨_,h1⟩
structure SInv(K:eh)(c:Cf)(S:List Ob)(H:Hp):Prop where
 len:c.ι.length=S.length
 nd:c.ι.Nodup
 obs:∀(k:Nat) (a:ff) (o:Ob),c.ι[k]?=some a->S[k]?=some o->ObR K c H a o
 trk:∀b,c.O b->∃o,H b=some o
 dis:∀b,c.O b->b∉c.ι
variable{S:List Ob}
theorem SInv.trkA(s:SInv K c S H){b:ff}(h:c.A b):∃o,H b=some o:=by
 rcases h with h|h
 .clear 5(List.mem_iff_getElem.mp h)k hk e;have e1:c.ι[k]?=some b:=by rw[ub2 hk,e]
  have hk':k<S.length:=by rw[<-s.len];exact hk
  exact(s.obs k b _ e1 (ub2 hk')).some
 .exact s.trk b h
theorem SInv.free(s:SInv K c S H){b:ff}(h:H b=none):¬c.A b:=λz=>by
 clear 5(s.trkA z)o e;rw[h] at e;cases e
structure FInv(K:eh)(Oo:ff->Prop)(c:Cf)(t:T)(σ:St)(H:Hp):Prop where
 s:SInv K c t.S H
 len:t.env.length=σ.length
 sub:∀b,Oo b->c.O b
 val:∀(i:Nat) (d:D),t.env[i]?=some (some (.val d))->∃v,σ[i]?=some (some v)/\Rep K c H v d
 own:∀(i:Nat) (ds:List D),t.env[i]?=some (some (.own ds))->∃a vs,σ[i]?=some (some (.ref a))/\c.O a/\¬Oo a/\H a=some (.lst vs)/\Reps K c H vs ds
 inj:∀(i j:Nat) (ds es:List D) (a:ff),t.env[i]?=some (some (.own ds))->t.env[j]?=some (some (.own es))->σ[i]?=some (some (.ref a))->σ[j]?=some (some (.ref a))->i=j
structure Stp(Oo:ff->Prop)(c:Cf)(H:Hp)(c':Cf)(H':Hp):Prop where
 ext:Ext c H c' H'
 oo:∀b,Oo b->H' b=H b
theorem Stp.refl{Oo:ff->Prop}{c:Cf}{H:Hp}:Stp Oo c H c H:=⟨.refl,λ_ _=>rfl⟩
theorem Stp.trans{Oo:ff->Prop}{c c1 c2:Cf}{H H1 H2:Hp}(a:Stp Oo c H c1 H1)(b:Stp Oo c1 H1 c2 H2):Stp Oo c H c2 H2:=
 ⟨a.ext.trans b.ext,λx h=>(b.oo x h).trans (a.oo x h)⟩
section
variable{K:eh}{Oo:ff->Prop}{c:Cf}{t:T}{σ:St}{H:Hp}
theorem Ext.laid(s:SInv K c S H){p:ff}{o:HO}(h:H p=none):Ext c H c (upd H p o):=
 ⟨λb u e _=>by rw[Av (AD e h)];exact e,λ_ _ _ z=>z,λ_ _ e=>e⟩
theorem SInv.laid{S:List Ob}(s:SInv K c S H){p:ff}{o:HO}(h:H p=none):SInv K c S (upd H p o):=
 ⟨s.len,s.nd,λk a u e1 e2=>by
  have q:=s.obs k a u e1 e2;clear 5 q.some w hw;exact q.mono (Ext.laid s h) (Av (AD hw h)),
  λb z=>by clear 5(s.trk b z)u e;exact⟨u,by rw[Av (AD e h)];exact e⟩,s.dis⟩
theorem FInv.laid(f:FInv K Oo c t σ H){p:ff}{o:HO}(h:H p=none):FInv K Oo c t σ (upd H p o):=by
 have e:=Ext.laid (o:=o) f.s h;refine⟨f.s.laid h,f.len,f.sub,λi d q=>?_,λi ds q=>?_,f.inj⟩
 .clear 5(f.val i d q)v h1 h2;exact⟨v,h1,h2.mono e⟩
 .clear 5(f.own i ds q)a vs h1 h2 h3 h4 h5;exact⟨a,vs,h1,h2,h3,by rw[Av (AD h4 h)];exact h4,h5.mono e⟩
theorem FInv.stp_laid(f:FInv K Oo c t σ H){p:ff}{o:HO}(h:H p=none):Stp Oo c H c (upd H p o):=
 ⟨Ext.laid f.s h,λb z=>by clear 5(f.s.trk b (f.sub b z))u e;exact Av (AD e h)⟩
theorem FInv.set(f:FInv K Oo c t σ H){i:Nat}{v:V}{d:D}(r:Rep K c H v d):FInv K Oo c {t with env:=t.env.set i (some (.val d))} (σ.set i (some v)) H:=by
 have neq:∀{j:Nat}{x:Sl},(t.env.set i (some (.val d)))[j]?=some (some x)->(j=i/\x=.val d/\j<t.env.length)\/(j≠i/\t.env[j]?=some (some x)):=λ{j x} q=>by
  by_cases h:j=i
  .subst h;rw[ug7] at q
   split at q
   .split at q
    .next h1=>injection q with q;injection q with q;exact .inl ⟨rfl,q.symm,h1⟩
    .cases q
   .next h1=>exact absurd rfl h1
  .rw[ud8 (Ne.symm h)] at q;exact .inr ⟨h,q⟩
 refine⟨f.s,by simp[f.len],f.sub,λj e q=>?_,λj ds q=>?_,λj k ds es a q1 q2 q3 q4=>?_⟩
 .rcases neq q with⟨rfl,z,hl⟩|⟨h,q⟩
  .cases z
   exact⟨v,by rw[ub8 (by rw[<-f.len];exact hl)],r⟩
  .clear 5(f.val j e q)u h1 h2;exact⟨u,by rw[ud8 (Ne.symm h)];exact h1,h2⟩
 .rcases neq q with⟨rfl,z,_⟩|⟨h,q⟩
  .cases z
  .clear 5(f.own j ds q)a vs h1 h2;exact⟨a,vs,by rw[ud8 (Ne.symm h)];exact h1,h2⟩
 .rcases neq q1 with⟨_,z,_⟩|⟨h,q1⟩
  .cases z
  rcases neq q2 with⟨_,z,_⟩|⟨h',q2⟩
  .cases z
  rw[ud8 (Ne.symm h)] at q3;rw[ud8 (Ne.symm h')] at q4;exact f.inj j k ds es a q1 q2 q3 q4
theorem FInv.setOwn(f:FInv K Oo c t σ H){i:Nat}{p:ff}{vs:List V}{ds:List D}(h:H p=none)(r:Reps K c H vs ds) :
 ∃c',FInv K Oo c' {t with env:=t.env.set i (some (.own ds))} (σ.set i (some (.ref p))) (upd H p (.lst vs))/\Stp Oo c H c' (upd H p (.lst vs)):=by
 let c':Cf:=⟨c.ι,λb=>c.O b\/b=p⟩
 have nA:¬c.A p:=f.s.free h;have ext:Ext c H c' (upd H p (.lst vs)):=by
  refine⟨λb u e _=>by rw[Av (AD e h)];exact e,λb u e z=>?_,λ_ _ e=>e⟩;rcases z with z|z|z
  .exact .inl z
  .exact .inr z
  .subst z;rw[h] at e;cases e
 have stp:Stp Oo c H c' (upd H p (.lst vs)):=⟨ext,λb z=>by clear 5(f.s.trk b (f.sub b z))u e;exact Av (AD e h)⟩;have sinv:SInv K c' t.S (upd H p (.lst vs)):=by
  refine⟨f.s.len,f.s.nd,λk a u e1 e2=>?_,λb z=>?_,λb z hb=>?_⟩
  .have q:=f.s.obs k a u e1 e2;clear 5 q.some w hw;exact q.mono ext (Av (AD hw h))
  .rcases z with z|z
   .clear 5(f.s.trk b z)u e;exact⟨u,by rw[Av (AD e h)];exact e⟩
   .subst z;exact⟨_,AJ⟩
  .rcases z with z|z
   .exact f.s.dis b z hb
   .subst z;exact nA (.inl hb)
 have neq:∀{j:Nat}{x:Sl},(t.env.set i (some (.own ds)))[j]?=some (some x)->(j=i/\x=.own ds/\j<t.env.length)\/(j≠i/\t.env[j]?=some (some x)):=λ{j x} q=>by
  by_cases h:j=i
  .subst h;rw[ug7] at q
   split at q
   .split at q
    .next h1=>injection q with q;injection q with q;exact .inl ⟨rfl,q.symm,h1⟩
    .cases q
   .next h1=>exact absurd rfl h1
  .rw[ud8 (Ne.symm h)] at q;exact .inr ⟨h,q⟩
 have fresh:∀(j:Nat) (es:List D),t.env[j]?=some (some (.own es))->σ[j]?≠some (some (.ref p)):=λj es q z=>by
  obtain⟨a,vs',h1,_,_,h4,_⟩:=f.own j es q;rw[h1] at z;injection z with z;injection z with z;injection z with z;subst z;rw[h] at h4;cases h4
 refine⟨c',⟨sinv,by simp[f.len],λb z=>.inl (f.sub b z),λj e q=>?_,λj es q=>?_,λj k ds' es a q1 q2 q3 q4=>?_⟩,stp⟩
 .rcases neq q with⟨_,z,_⟩|⟨hn,q⟩
  .cases z
  .clear 5(f.val j e q)u h1 h2;exact⟨u,by rw[ud8 (Ne.symm hn)];exact h1,h2.mono ext⟩
 .rcases neq q with⟨rfl,z,hl⟩|⟨hn,q⟩
  .cases z
   refine⟨p,vs,by rw[ub8 (by rw[<-f.len];exact hl)],.inr rfl,λz=>?_,AJ,r.mono ext⟩;clear 5(f.s.trk p (f.sub p z))u e;rw[h] at e;cases e
  .clear 5(f.own j es q)a ws h1 h2 h3 h4 h5;exact⟨a,ws,by rw[ud8 (Ne.symm hn)];exact h1,.inl h2,h3,by rw[Av (AD h4 h)];exact h4,h5.mono ext⟩
 .rcases neq q1 with⟨z1,z2,l1⟩|⟨n1,r1⟩
  .rcases neq q2 with⟨y1,_,_⟩|⟨n2,r2⟩
   .rw[z1,y1]
   .subst z1;rw[ub8 (by rw[<-f.len];exact l1)] at q3;injection q3 with q3;injection q3 with q3;injection q3 with q3;subst q3
    rw[ud8 (Ne.symm n2)] at q4;exact absurd q4 (fresh k es r2)
  .rcases neq q2 with⟨y1,y2,l2⟩|⟨n2,r2⟩
   .subst y1;rw[ub8 (by rw[<-f.len];exact l2)] at q4;injection q4 with q4;injection q4 with q4;injection q4 with q4;subst q4
    rw[ud8 (Ne.symm n1)] at q3;exact absurd q3 (fresh j ds' r1)
   .rw[ud8 (Ne.symm n1)] at q3;rw[ud8 (Ne.symm n2)] at q4;exact f.inj j k ds' es a r1 r2 q3 q4
theorem FInv.frz(f:FInv K Oo c t σ H){i:Nat}{ds:List D}(q:t.env[i]?=some (some (.own ds))) :
 ∃c' v,FInv K Oo c' {t with env:=t.env.set i (some (.val (.lst ds)))} σ H/\Stp Oo c H c' H/\σ[i]?=some (some v)/\Rep K c' H v (.lst ds):=by
 clear 5(f.own i ds q)a vs h1 h2 h3 h4 h5
 let c':Cf:=⟨c.ι,λb=>c.O b/\b≠a⟩
 have ext:Ext c H c' H:=⟨λ_ _ e _=>e,λb u e z=>z.elim .inl λw=>.inr w.1,λ_ _ e=>e⟩;have sinv:SInv K c' t.S H:=⟨f.s.len,f.s.nd,λk b u e1 e2=>(f.s.obs k b u e1 e2).mono ext rfl,λb z=>f.s.trk b z.1,λb z=>f.s.dis b z.1⟩;have nA:¬c'.A a:=λz=>z.elim (λw=>f.s.dis a h2 w) λw=>w.2 rfl;have hσ:σ.set i (some (.ref a))=σ:=by
  apply List.ext_getElem?;intro j
  by_cases hj:j=i
  .subst hj;rw[ub8 (by have:=(ua8.mp h1).1;exact this),h1]
  .rw[ud8 (Ne.symm hj)]
 have r:Rep K c' H (.ref a) (.lst ds):=.lst h4 nA (h5.mono ext);have f0:FInv K Oo c' {t with env:=t.env.set i (some (.val (.lst ds)))} σ H:=by
  have neq:∀{j:Nat}{x:Sl},(t.env.set i (some (.val (.lst ds))))[j]?=some (some x)->(j=i/\x=.val (.lst ds))\/(j≠i/\t.env[j]?=some (some x)):=λ{j x} q=>by
   by_cases h:j=i
   .subst h;rw[ug7] at q
    split at q
    .split at q
     .injection q with q;injection q with q;exact .inl ⟨rfl,q.symm⟩
     .cases q
    .next h1=>exact absurd rfl h1
   .rw[ud8 (Ne.symm h)] at q;exact .inr ⟨h,q⟩
  refine⟨sinv,by simp[f.len],λb z=>⟨f.sub b z,λw=>h3 (w ▸ z)⟩,λj e q'=>?_,λj es q'=>?_,λj k ds' es b q1 q2 q3 q4=>?_⟩
  .rcases neq q' with⟨rfl,z⟩|⟨hn,q'⟩
   .cases z;exact⟨_,h1,r⟩
   .clear 5(f.val j e q')u w1 w2;exact⟨u,w1,w2.mono ext⟩
  .rcases neq q' with⟨_,z⟩|⟨hn,q'⟩
   .cases z
   .clear 5(f.own j es q')b ws w1 w2 w3 w4 w5;refine⟨b,ws,w1,⟨w2,λz=>?_⟩,w3,w4,w5.mono ext⟩;subst z;exact hn (f.inj j i es ds b q' q w1 h1)
  .rcases neq q1 with⟨_,z⟩|⟨_,q1⟩
   .cases z
   rcases neq q2 with⟨_,z⟩|⟨_,q2⟩
   .cases z
   exact f.inj j k ds' es b q1 q2 q3 q4
 exact⟨c',_,f0,⟨ext,λ_ _=>rfl⟩,h1,r⟩
theorem FInv.wrOwn(f:FInv K Oo c t σ H){i:Nat}{ds ds':List D}{vs':List V}{a:ff}(q:t.env[i]?=some (some (.own ds)))(h1:σ[i]?=some (some (.ref a)))(r:Reps K c H vs' ds') :
 FInv K Oo c {t with env:=t.env.set i (some (.own ds'))} σ (upd H a (.lst vs'))/\Stp Oo c H c (upd H a (.lst vs')):=by
 clear 5(f.own i ds q)a' vs g1 h2 h3 h4 h5;rw[h1] at g1;injection g1 with g1;injection g1 with g1;injection g1 with g1;subst g1
 have ext:Ext c H c (upd H a (.lst vs')):=⟨λb u e n=>by rw[Av (λ(z:b=a)=>n (.inr (by rw[z];exact h2)))];exact e,λ_ _ _ z=>z,λ_ _ e=>e⟩;have stp:Stp Oo c H c (upd H a (.lst vs')):=⟨ext,λb z=>Av λw=>h3 (w ▸ z)⟩;have sinv:SInv K c t.S (upd H a (.lst vs')):=by
  refine⟨f.s.len,f.s.nd,λk b u e1 e2=>(f.s.obs k b u e1 e2).mono ext (Av λz=>f.s.dis a h2 (z ▸ ud9 e1)),λb z=>?_,f.s.dis⟩
  by_cases hb:b=a
  .subst hb;exact⟨_,AJ⟩
  .clear 5(f.s.trk b z)u e;exact⟨u,by rw[Av hb];exact e⟩
 have neq:∀{j:Nat}{x:Sl},(t.env.set i (some (.own ds')))[j]?=some (some x)->(j=i/\x=.own ds')\/(j≠i/\t.env[j]?=some (some x)):=λ{j x} q=>by
  by_cases h:j=i
  .subst h;rw[ug7] at q
   split at q
   .split at q
    .injection q with q;injection q with q;exact .inl ⟨rfl,q.symm⟩
    .cases q
   .next h1=>exact absurd rfl h1
  .rw[ud8 (Ne.symm h)] at q;exact .inr ⟨h,q⟩
 refine⟨⟨sinv,by simp[f.len],f.sub,λj e q'=>?_,λj es q'=>?_,λj k es es' b q1 q2 q3 q4=>?_⟩,stp⟩
 .rcases neq q' with⟨_,z⟩|⟨_,q'⟩
  .cases z
  .clear 5(f.val j e q')u w1 w2;exact⟨u,w1,w2.mono ext⟩
 .rcases neq q' with⟨rfl,z⟩|⟨hn,q'⟩
  .cases z;exact⟨a,vs',h1,h2,h3,AJ,r.mono ext⟩
  .clear 5(f.own j es q')b ws w1 w2 w3 w4 w5;have hb:b≠a:=λz=>by subst z;exact hn (f.inj j i es ds b q' q w1 h1)
   exact⟨b,ws,w1,w2,w3,by rw[Av hb];exact w4,w5.mono ext⟩
 .have old:∀{j:Nat}{x:List D},(t.env.set i (some (.own ds')))[j]?=some (some (.own x))->∃y,t.env[j]?=some (some (.own y)):=λ{j x} q'=>by
   rcases neq q' with⟨rfl,_⟩|⟨_,q'⟩
   .exact⟨ds,q⟩
   .exact⟨x,q'⟩
  clear 5(old q1)y1 z1;clear 5(old q2)y2 z2;exact f.inj j k y1 y2 b z1 z2 q3 q4
theorem FInv.wrObj(f:FInv K Oo c t σ H){k:Nat}{a:ff}{o:Ob}{u:HO}(e:c.ι[k]?=some a)(r:∀c' H',Ext c H c' H'->H' a=some u->ObR K c' H' a o) :
 FInv K Oo c {t with S:=t.S.set k o} σ (upd H a u)/\Stp Oo c H c (upd H a u):=by
 have hA:a∈c.ι:=ud9 e;have ext:Ext c H c (upd H a u):=⟨λb w h n=>by rw[Av (λ(z:b=a)=>n (.inl (by rw[z];exact hA)))];exact h,λ_ _ _ z=>z,λ_ _ e=>e⟩;have neO:∀b,c.O b->b≠a:=λb z w=>f.s.dis b z (w ▸ hA);have stp:Stp Oo c H c (upd H a u):=⟨ext,λb z=>Av (neO b (f.sub b z))⟩;have sinv:SInv K c (t.S.set k o) (upd H a u):=by
  refine⟨by simp[f.s.len],f.s.nd,λj b o' e1 e2=>?_,λb z=>?_,f.s.dis⟩
  .by_cases hj:j=k
   .subst hj;rw[e] at e1;cases e1
    have hl:j<t.S.length:=by rw[<-f.s.len];exact(ua8.mp e).1
    rw[ub8 hl] at e2;cases e2
    exact r c _ ext AJ
   .rw[ud8 (Ne.symm hj)] at e2;refine(f.s.obs j b o' e1 e2).mono ext (Av λz=>?_);subst z;clear 5(ua8.mp e1)l1 g1;clear 5(ua8.mp e)l2 g2;exact hj ((uh1 f.s.nd).mp (g1.trans g2.symm))
  .clear 5(f.s.trk b z)w h;exact⟨w,by rw[Av (neO b z)];exact h⟩
 refine⟨⟨sinv,f.len,f.sub,λi d q=>?_,λi ds q=>?_,f.inj⟩,stp⟩
 .clear 5(f.val i d q)v h1 h2;exact⟨v,h1,h2.mono ext⟩
 .clear 5(f.own i ds q)b vs h1 h2 h3 h4 h5;exact⟨b,vs,h1,h2,h3,by rw[Av (neO b h2)];exact h4,h5.mono ext⟩
theorem FInv.newObj(f:FInv K Oo c t σ H){p:ff}{o:Ob}{u:HO}(h:H p=none)(r:∀c' H',Ext c H c' H'->H' p=some u->ObR K c' H' p o) :
 ∃c',FInv K Oo c' {t with S:=t.S++[o]} σ (upd H p u)/\Stp Oo c H c' (upd H p u)/\c'.ι[t.S.length]?=some p:=by
 let c':Cf:=⟨c.ι++[p],c.O⟩
 have nA:¬c.A p:=f.s.free h;have ext:Ext c H c' (upd H p u):=by
  refine⟨λb w e _=>by rw[Av (AD e h)];exact e,λb w e z=>?_,λk a e=>?_⟩
  .rcases z with z|z
   .rcases ui9.mp z with z|z
    .exact .inl z
    .rw[uf7] at z;subst z;rw[h] at e;cases e
   .exact .inr z
  .show(c.ι++[p])[k]?=some a;rw[ua9 (ua8.mp e).1];exact e
 have stp:Stp Oo c H c' (upd H p u):=⟨ext,λb z=>by clear 5(f.s.trk b (f.sub b z))w e;exact Av (AD e h)⟩;have at_:(c.ι++[p])[t.S.length]?=some p:=by rw[<-f.s.len,ua5 (un5 _)];simp
 have sinv:SInv K c' (t.S++[o]) (upd H p u):=by
  refine⟨by simp[c',f.s.len],?_,λj b o' e1 e2=>?_,λb z=>?_,λb z hb=>?_⟩
  .show(c.ι++[p]).Nodup;exact List.nodup_append.mpr ⟨f.s.nd,by simp,λx hx y hy z=>by rw[uf7] at hy;subst z;subst hy;exact nA (.inl hx)⟩
  .have hlt:j<(t.S++[o]).length:=(ua8.mp e2).1
   by_cases hj:j<t.S.length
   .have e1':c.ι[j]?=some b:=by
     have q:(c.ι++[p])[j]?=some b:=e1;rw[ua9 (by rw[f.s.len];exact hj)] at q;exact q
    rw[ua9 hj] at e2;have q:=f.s.obs j b o' e1' e2;clear 5 q.some w hw;exact q.mono ext (Av (AD hw h))
   .have hj':j=t.S.length:=by simp at hlt;lia
    subst hj';rw[at_] at e1;cases e1
    rw[ua5 (un5 _)] at e2;simp at e2;subst e2;exact r c' _ ext AJ
  .clear 5(f.s.trk b z)w e;exact⟨w,by rw[Av (AD e h)];exact e⟩
  .rcases ui9.mp hb with w|w
   .exact f.s.dis b z w
   .rw[uf7] at w;subst w;exact nA (.inr z)
 refine⟨c',⟨sinv,f.len,f.sub,λi d q=>?_,λi ds q=>?_,f.inj⟩,stp,at_⟩
 .clear 5(f.val i d q)v h1 h2;exact⟨v,h1,h2.mono ext⟩
 .clear 5(f.own i ds q)b vs h1 h2 h3 h4 h5;exact⟨b,vs,h1,h2,h3,by rw[Av (AD h4 h)];exact h4,h5.mono ext⟩
theorem FInv.after(f:FInv K Oo c t σ H){c':Cf}{S':List Ob}{H':Hp}(s:SInv K c' S' H')(st:Stp c.O c H c' H')(ho:∀b,c'.O b↔c.O b):FInv K Oo c' {t with S:=S'} σ H'/\Stp Oo c H c' H':=by
 refine⟨⟨s,f.len,λb z=>(ho b).mpr (f.sub b z),λi d q=>?_,λi ds q=>?_,f.inj⟩,st.ext,λb z=>st.oo b (f.sub b z)⟩
 .clear 5(f.val i d q)v h1 h2;exact⟨v,h1,h2.mono st.ext⟩
 .clear 5(f.own i ds q)b vs h1 h2 h3 h4 h5;exact⟨b,vs,h1,(ho b).mpr h2,h3,(st.oo b h2).trans h4,h5.mono st.ext⟩
end
abbrev M(α:Type):=T->Option (α×T)
inductive Out where
 |next|brk|cont|ret (d:D)
noncomputable def ret{α:Type}(a:α):M α:=λt=>some (a,t)
noncomputable def fail{α:Type}:M α:=λ_=>none
noncomputable def bnd{α β:Type}(f:M α)(g:α->M β):M β:=λt=>match f t with
 |some (a,t1)=>g a t1
 |none=>none
variable{t:T}
theorem Ag{α β:Type}{f:M α}{g:α->M β}{z:β×T}(h:bnd f g t=some z):∃a t1,f t=some (a,t1)/\g a t1=some z:=by
 unfold bnd at h
 cases e:f t with
 |none=>rw[e] at h;cases h
 |some p=>clear 5 p a t1;rw[e] at h;exact⟨a,t1,rfl,h⟩
noncomputable def LIM:Nat:=100000
theorem Da:LIM<=sizeLine:=by unfold LIM;decide
theorem P2:LIM<sizeLine:=by unfold LIM;decide
section
variable(K:eh)
inductive RE(f:M D)(σ:L2.St)(H:Hp)(Q:VK):Prop where
 |mk (Oo:ff->Prop) (c:Cf) (t:T) (fi:FInv K Oo c t σ H) (r:D) (t':T) (e:f t=some (r,t')) (k:∀v H' c',FInv K Oo c' t' σ H'->Stp Oo c H c' H'->Rep K c' H' v r->Q v H'):RE f σ H Q
inductive RT(f:M Bool)(σ:L2.St)(H:Hp)(Q:Bool->Hp->Prop):Prop where
 |mk (Oo:ff->Prop) (c:Cf) (t:T) (fi:FInv K Oo c t σ H) (r:Bool) (t':T) (e:f t=some (r,t')) (k:∀H' c',FInv K Oo c' t' σ H'->Stp Oo c H c' H'->Q r H'):RT f σ H Q
inductive RA(f:M (List D))(σ:L2.St)(H:Hp)(Q:List V->Hp->Prop):Prop where
 |mk (Oo:ff->Prop) (c:Cf) (t:T) (fi:FInv K Oo c t σ H) (r:List D) (t':T) (e:f t=some (r,t')) (k:∀vs H' c',FInv K Oo c' t' σ H'->Stp Oo c H c' H'->Reps K c' H' vs r->Q vs H'):RA f σ H Q
inductive RF(f:M (List D))(σ:L2.St)(H:Hp)(Q:VK):Prop where
 |mk (Oo:ff->Prop) (c:Cf) (t:T) (fi:FInv K Oo c t σ H) (ds:List D) (t':T) (e:f t=some (ds,t')) (k:∀p vs H' c',FInv K Oo c' t' σ H'->Stp Oo c H c' H'->Reps K c' H' vs ds->H' p=none->Q (.ref p) (upd H' p (.lst vs))):RF f σ H Q
inductive RSg(μ:Cf->Hp->D->(V->Hp->Prop)->Prop)(f:M Out)(E:Ends)(σ:L2.St)(H:Hp):Prop where
 |mk (Oo:ff->Prop) (c:Cf) (t:T) (fi:FInv K Oo c t σ H) (o:Out) (t':T) (e:f t=some (o,t')) (k:∀σ' H' c',FInv K Oo c' t' σ' H'->Stp Oo c H c' H'->
 match (generalizing:=false) o with
 |.next=>E.nx σ' H'
 |.brk=>E.bk σ' H'
 |.cont=>E.ct σ' H'
 |.ret r=>μ c' H' r E.rt):RSg μ f E σ H
def μR:Cf->Hp->D->(V->Hp->Prop)->Prop:=λc H r rt=>∀v,Rep K c H v r->rt v H
def μF:Cf->Hp->D->(V->Hp->Prop)->Prop:=λc H r rt=>match r with
 |.lst ds=>∀p us,H p=none->Reps K c H us ds->rt (.ref p) (upd H p (.lst us))
 |_=>False
abbrev RS(f:M Out):TS:=RSg K (μR K) f
inductive RG(f:D->M Unit)(v:V)(σ:L2.St)(H:Hp)(Q:L2.St->Hp->Prop):Prop where
 |mk (Oo:ff->Prop) (c:Cf) (t:T) (d:D) (fi:FInv K Oo c t σ H) (r:Rep K c H v d) (t':T) (e:f d t=some ((),t')) (k:∀σ' H' c',FInv K Oo c' t' σ' H'->Stp Oo c H c' H'->Q σ' H'):RG f v σ H Q
structure ItOk(J:It)(c:Cf)(H:Hp)(ds:List D):Prop where
 go:∀c' H' (i:Nat),Ext c H c' H'->i<ds.length->J.go i H'
 yld:∀c' H' (i:Nat) x H'' d,Ext c H c' H'->ds[i]?=some d->J.yld i H' x H''->H''=H'/\Rep K c' H' x d
 stop:∀c' H',Ext c H c' H'->J.stop ds.length H'
inductive RI(f:M (List D))(σ:L2.St)(H:Hp)(R:It->Hp->Prop):Prop where
 |mk (Oo:ff->Prop) (c:Cf) (t:T) (fi:FInv K Oo c t σ H) (ds:List D) (t':T) (e:f t=some (ds,t')) (k:∀J H' c',FInv K Oo c' t' σ H'->Stp Oo c H c' H'->ItOk K J c' H' ds->R J H'):RI f σ H R
def A6(R:R2)(h:D->D->M D):Prop:=∀{Oo:ff->Prop}{c:Cf}{t:T}{σ:L2.St}{H:Hp}{x y:V}{dx dy r:D}{t':T}{Q:VK},FInv K Oo c t σ H->Rep K c H x dx->Rep K c H y dy->h dx dy t=some (r,t')->
 (∀v H' c',FInv K Oo c' t' σ H'->Stp Oo c H c' H'->Rep K c' H' v r->Q v H')->R x y H Q
def E9(R:List V->Hp->VK->Prop)(h:List D->M D):Prop:=∀{Oo:ff->Prop}{c:Cf}{t:T}{σ:L2.St}{H:Hp}{xs:List V}{ds:List D}{r:D}{t':T}{Q:VK},FInv K Oo c t σ H->Reps K c H xs ds->h ds t=some (r,t')->
 (∀v H' c',FInv K Oo c' t' σ H'->Stp Oo c H c' H'->Rep K c' H' v r->Q v H')->R xs H Q
def LB(R:R2)(h:D->D->M (List D)):Prop:=∀{Oo:ff->Prop}{c:Cf}{t:T}{σ:L2.St}{H:Hp}{x y:V}{dx dy:D}{r:List D}{t':T}{Q:VK},FInv K Oo c t σ H->Rep K c H x dx->Rep K c H y dy->h dx dy t=some (r,t')->
 (∀p vs H' c',FInv K Oo c' t' σ H'->Stp Oo c H c' H'->Reps K c' H' vs r->H' p=none->Q (.ref p) (upd H' p (.lst vs)))->R x y H Q
def LC(R:List V->Hp->VK->Prop)(h:List D->M (List D)):Prop:=∀{Oo:ff->Prop}{c:Cf}{t:T}{σ:L2.St}{H:Hp}{xs:List V}{ds r:List D}{t':T}{Q:VK},FInv K Oo c t σ H->Reps K c H xs ds->h ds t=some (r,t')->
 (∀p vs H' c',FInv K Oo c' t' σ H'->Stp Oo c H c' H'->Reps K c' H' vs r->H' p=none->Q (.ref p) (upd H' p (.lst vs)))->R xs H Q
end
variable{tg:Expr}{j i:Nat}{x:Str}{f g:M D}{h:D->D->M D}{R:R2}{op:CmpOp}{σ:L2.St}
section
variable{X:Cx}{e a b:Expr}{pos:Pos}
theorem AI{t t':TE}(h:PE X e t)(i:∀σ H Q,t' σ H Q->t σ H Q):PE X e t':=λfb s σ H Q I q=>h fb s σ H Q I (i σ H Q q)
theorem LS{t t':TT}(h:PT X e t)(i:∀σ H Q,t' σ H Q->t σ H Q):PT X e t':=λfb s σ H Q I q=>h fb s σ H Q I (i σ H Q q)
theorem P7{t t':TT}(h:PW X e t)(i:∀σ H Q,t' σ H Q->t σ H Q):PW X e t':=λw fb s σ H Q I q=>h w fb s σ H Q I (i σ H Q q)
theorem P5{es:List Expr}{t t':TA}(h:PA X es t)(i:∀σ H Q,t' σ H Q->t σ H Q):PA X es t':=λpos fb s σ H Q I q=>h pos fb s σ H Q I (i σ H Q q)
theorem A5{st:Stmt}{t t':TS}(h:PS X st t)(i:∀E σ H,t' E σ H->t E σ H):PS X st t':=λfb s σ H E I q=>h fb s σ H E I (i E σ H q)
theorem NA{st:List Stmt}{t t':TS}(h:PSs X st t)(i:∀E σ H,t' E σ H->t E σ H):PSs X st t':=λfb s σ H E I q=>h fb s σ H E I (i E σ H q)
theorem Gy{t t':TG}(h:PG X e t)(i:∀v σ H Q,t' v σ H Q->t v σ H Q):PG X e t':=λfb s σ H v u Q I r q=>h fb s σ H v u Q I r (i v σ H Q q)
theorem Jq{t t':TI}(h:PI X tg e t)(i:∀σ H R,t' σ H R->t σ H R):PI X tg e t':=λfb s σ H R I q=>h fb s σ H R I (i σ H R q)
def fC(d:D):M D:=ret d
theorem Ja{v:V}{d:D}(h:PE X e (tC v))(r:∀c H,Rep X.K c H v d):PE X e (RE X.K (fC d)):=
 AI h λσ H Q z9=>by
  clear 5 z9 Oo c t f r' t' eq k
  cases eq
  exact k v H c f .refl (r c H)
theorem XQ{i:Int}:PE X (.Constant (.int i) j pos) (RE X.K (fC (.int i))):=Ja YI λ_ _=>.int i
theorem ZJ{i:Bool}:PE X (.Constant (.bool i) j pos) (RE X.K (fC (.bl i))):=Ja Z2 λ_ _=>.bl i
theorem XV{i:Str}:PE X (.Constant (.str i) j pos) (RE X.K (fC (.str i))):=Ja Rj λ_ _=>.str i
theorem XR:PE X (.Constant .none j pos) (RE X.K (fC .non)):=Ja YK λ_ _=>.non
theorem Ky{i:Int}{tk:Tok}(hg:Gl X x)(hm:X.mg x=some (.int i tk))(hd:(x==("__debug__":Str))=false:=by decide):PE X (.Name x pos) (RE X.K (fC (.int i))):=
 Ja (Oa hg hm (v:=.int i) ⟨tk,rfl⟩ hd) λ_ _=>.int i
theorem SW{y:Str}{tk:Tok}(hg:Gl X x)(hm:X.mg x=some (.str y tk))(hd:(x==("__debug__":Str))=false:=by decide):PE X (.Name x pos) (RE X.K (fC (.str y))):=
 Ja (Oa hg hm (v:=.str y) ⟨tk,rfl⟩ hd) λ_ _=>.str y
theorem JK{n:String}(hg:Gl X x)(hm:X.mg x=none)(hv:bootBuiltins x=some (.type n))(hn:x≠"__name__":=by decide)(hd:(x==("__debug__":Str))=false:=by decide):PE X (.Name x pos) (RE X.K (fC (.ty n))):=
 Ja (Wa hg hm hv (v:=.ty n) rfl hn hd) λ_ _=>.ty n
noncomputable def Ab(i:Nat):M D:=λt=>match t.env[i]? with
 |some (some (.val d))=>some (d,t)
 |some (some (.own ds))=>some (.lst ds,{t with env:=t.env.set i (some (.val (.lst ds)))})
 |_=>none
theorem OX{t':T}{r:D}(h:Ab i t=some (r,t')):(t.env[i]?=some (some (.val r))/\t'=t)\/∃ds,t.env[i]?=some (some (.own ds))/\r=.lst ds/\t' = {t with env:=t.env.set i (some (.val (.lst ds)))}:=by
 unfold Ab at h
 cases e:t.env[i]? with
 |none=>rw[e] at h;cases h
 |some o=>
   cases o with
   |none=>rw[e] at h;cases h
   |some sl=>
     cases sl with
     |val d=>rw[e] at h;cases h;exact .inl ⟨rfl,rfl⟩
     |own ds=>rw[e] at h;cases h;exact .inr ⟨ds,rfl,rfl,rfl⟩
theorem XW(i:Nat){x:Str}(hN:X.N[i]?=some x:=by rfl)(hv:Vis X.env.scope x:=by walk_at"h")(hd:(x==("__debug__":Str))=false:=by decide)
 (hcd:(x==("__classdict__":Str))=false:=by decide):PE X (.Name x pos) (RE X.K (Ab i)):=
 AI (E4 hN hv hd hcd) λσ H Q z9=>by
  clear 5 z9 Oo c t f r t' eq k;rcases OX eq with⟨q,rfl⟩|⟨ds,q,rfl,rfl⟩
  .clear 5(f.val i r q)v h1 h2;exact⟨v,h1,k v H c f .refl h2⟩
  .clear 5(f.frz q)c' v f' st h1 h2;exact⟨v,h1,k v H c' f' st h2⟩
def Ac(f g:M D)(h:D->D->M D):M D:=bnd f λx=>bnd g λy=>h x y
theorem RE.two(s:A6 K R h){σ:L2.St}{H:Hp}{Q:VK}(q:RE K (Ac f g h) σ H Q):tOp R (RE K f) (RE K g) σ H Q:=by
 clear 5 q Oo c t fi r t' eq k;clear 5(Ag eq)dx t1 e1 eq;clear 5(Ag eq)dy t2 e2 eq;exact⟨Oo,c,t,fi,dx,t1,e1,λx H1 c1 f1 s1 rx=>⟨Oo,c1,t1,f1,dy,t2,e2,λy H2 c2 f2 s2 ry=>s f2 (rx.mono s2.ext) ry eq λv H' c' f' s' rv=>k v H' c' f' ((s1.trans s2).trans s') rv⟩⟩
theorem Fm{op:Operator}(ho:OpR X (binaryOp op) R)(s:A6 X.K R h)(ha:PE X a (RE X.K f))(hb:PE X b (RE X.K g)):PE X (.BinOp a op b pos) (RE X.K (Ac f g h)):=
 AI (Pn ho ha hb) λ_ _ _ q=>RE.two s q
theorem HK(ho:OpR X (compareOp op) R)(s:A6 X.K R h)(ha:PE X a (RE X.K f))(hb:PE X b (RE X.K g))(hm:behindInMarks op b=false):PE X (.Compare a [op] [b] pos) (RE X.K (Ac f g h)):=
 AI (Wb ho ha hb hm) λ_ _ _ q=>RE.two s q
theorem UA(hr:IxR X R)(s:A6 X.K R h)(ha:PE X a (RE X.K f))(hb:PE X b (RE X.K g))(hs:Kj b):PE X (.Subscript a b pos) (RE X.K (Ac f g h)):=
 AI (UH hr ha hb hs) λ_ _ _ q=>RE.two s q
def fUn(f:M D)(h:D->M D):M D:=bnd f h
def toB:D->M Bool
 |.bl b=>ret b
 |_=>fail
def Aj(f:M D):M Bool:=bnd f toB
theorem Jm{d:D}{z:Bool×T}(h:toB d t=some z):∃b,d=.bl b/\z=(b,t):=by
 cases d with
 |bl b=>cases h;exact⟨b,rfl,rfl⟩
 |_=>cases h
theorem RT.val{Q:Bool->Hp->Prop}(q:RT K (Aj f) σ H Q):RE K f σ H λx H1=>∃k,x=.bl k/\Q k H1:=by
 clear 5 q Oo c t fi r t' eq k;clear 5(Ag eq)d t1 e1 eq;clear 5(Jm eq)b rfl z
 cases z
 refine⟨Oo,c,t,fi,_,t',e1,λv H1 c1 f1 s1 rv=>?_⟩
 cases rv
 exact⟨r,rfl,k H1 c1 f1 s1⟩
theorem Ya(h:PE X e (RE X.K f))(he:∀whole,isTrue e X.env whole=(do let v <-whole;standAt e.pos;holding [v] (truthy v)):=by intro _;rfl):PT X e (RT X.K (Aj f)):=
 LS (YV h he) λ_ _ _ q=>RT.val q
theorem Et(ho:OpR X (compareOp op) R)(s:A6 X.K R h)(ha:PE X a (RE X.K f))(hb:PE X b (RE X.K g))(hm:behindInMarks op b=false):PT X (.Compare a [op] [b] pos) (RT X.K (Aj (Ac f g h))):=
 LS (Wu ho ha hb hm) λσ H Q q=>RE.two s (RT.val q)
def E1(f g w:M D)(h h':D->D->M D):M D:=bnd f λx=>bnd g λy=>bnd (Aj (h x y)) λk=>if k=true then bnd w λz=>h' y z else ret (.bl false)
theorem RE.chain{w:M D}{h':D->D->M D}{R':R2}(s:A6 K R h)(s':A6 K R' h'){σ:L2.St}{H:Hp}{Q:VK}(q:RE K (E1 f g w h h') σ H Q):RZ R R' (RE K f) (RE K g) (RE K w) σ H Q:=by
 clear 5 q Oo c t fi r t' eq k;clear 5(Ag eq)dx t1 e1 eq;clear 5(Ag eq)dy t2 e2 eq;clear 5(Ag eq)kb t3 e3 eq;clear 5(Ag e3)d3 t3' e3' e3;clear 5(Jm e3)b3 rfl z
 cases z
 refine⟨Oo,c,t,fi,dx,t1,e1,λx H1 c1 f1 s1 rx=>⟨Oo,c1,t1,f1,dy,t2,e2,λy H2 c2 f2 s2 ry=>s f2 (rx.mono s2.ext) ry e3' λv H3 c3 f3 s3 rv=>?_⟩⟩
 cases rv
 refine⟨kb,rfl,?_⟩
 cases kb with
 |false=>
   rw[gX uf2] at eq⊢
   cases eq
   exact k _ H3 c3 f3 ((s1.trans s2).trans s3) (.bl false)
 |true=>
   rw[gW rfl] at eq⊢;clear 5(Ag eq)dz t4 e4 eq;exact⟨Oo,c3,t3,f3,dz,t4,e4,λw' H4 c4 f4 s4 rw'=>s' f4 (ry.mono (s3.trans s4).ext) rw' eq λv H' c' f' s' rv=>k v H' c' f' ((((s1.trans s2).trans s3).trans s4).trans s') rv⟩
theorem SV{d:Expr}{op':CmpOp}{R':R2}{w:M D}{h':D->D->M D}(ho:OpR X (compareOp op) R)(ho':OpR X (compareOp op') R')(s:A6 X.K R h)(s':A6 X.K R' h')(ha:PE X a (RE X.K f))(hb:PE X b (RE X.K g))(hd:PE X d (RE X.K w))
 (hm:lastMarks [op,op'] [b,d]=false:=by with_unfolding_all rfl):PE X (.Compare a [op,op'] [b,d] pos) (RE X.K (E1 f g w h h')):=
 AI (TD ho ho' ha hb hd hm) λ_ _ _ q=>RE.chain s s' q
def G8(f g:M Bool):M Bool:=bnd f λk=>if k=true then g else ret false
def fOr(f g:M Bool):M Bool:=bnd f λk=>if k=true then ret true else g
def CP(f:M Bool):M Bool:=bnd f λk=>ret (!k)
def EV(f g:M D):M D:=bnd (Aj f) λk=>if k=true then g else ret (.bl false)
def Kx(f g:M D):M D:=bnd (Aj f) λk=>if k=true then ret (.bl true) else g
def JI(f:M D):M D:=bnd (Aj f) λk=>ret (.bl (!k))
def fIf(f:M Bool)(g h:M D):M D:=bnd f λk=>if k=true then g else h
variable{f g:M Bool}{u v w:M D}{rest:List Expr}
theorem ZU(h:PW X e (RT X.K f)):PT X e (RT X.K f):=h.pt
theorem Vn(ha:PT X a (RT X.K f)):PW X (.BoolOp .And [a] pos) (RT X.K f):=Wx ha
theorem Yc(ha:PT X a (RT X.K f)):PW X (.BoolOp .Or [a] pos) (RT X.K f):=YX ha
theorem Yb(ha:PT X a (RT X.K f))(hb:PW X (.BoolOp .And (b::rest) pos) (RT X.K g)):PW X (.BoolOp .And (a::b::rest) pos) (RT X.K (G8 f g)):=
 P7 (YW ha hb) λσ H Q z9=>by
  clear 5 z9 Oo c t fi r t' eq k;clear 5(Ag eq)kb t1 e1 eq;refine⟨Oo,c,t,fi,kb,t1,e1,λH1 c1 f1 s1=>?_⟩
  cases kb with
  |false=>rw[gX uf2] at eq⊢;cases eq;exact k H1 c1 f1 s1
  |true=>rw[gW rfl] at eq⊢;exact⟨Oo,c1,t1,f1,r,t',eq,λH2 c2 f2 s2=>k H2 c2 f2 (s1.trans s2)⟩
theorem ZV(ha:PT X a (RT X.K f))(hb:PW X (.BoolOp .Or (b::rest) pos) (RT X.K g)):PW X (.BoolOp .Or (a::b::rest) pos) (RT X.K (fOr f g)):=
 P7 (Z9 ha hb) λσ H Q z9=>by
  clear 5 z9 Oo c t fi r t' eq k;clear 5(Ag eq)kb t1 e1 eq;refine⟨Oo,c,t,fi,kb,t1,e1,λH1 c1 f1 s1=>?_⟩
  cases kb with
  |true=>rw[gW rfl] at eq⊢;cases eq;exact k H1 c1 f1 s1
  |false=>rw[gX uf2] at eq⊢;exact⟨Oo,c1,t1,f1,r,t',eq,λH2 c2 f2 s2=>k H2 c2 f2 (s1.trans s2)⟩
theorem X9(ha:PT X a (RT X.K f)):PT X (.UnaryOp .Not a pos) (RT X.K (CP f)):=
 LS (YU ha) λσ H Q z9=>by
  clear 5 z9 Oo c t fi r t' eq k;clear 5(Ag eq)kb t1 e1 eq
  cases eq
  exact⟨Oo,c,t,fi,kb,_,e1,λH1 c1 f1 s1=>k H1 c1 f1 s1⟩
theorem Jn{f:M D}{kb:Bool}{t1:T}(h:Aj f t=some (kb,t1)):f t=some (.bl kb,t1):=by
 clear 5(Ag h)d t2 e1 e2;clear 5(Jm e2)b rfl z
 cases z
 exact e1
theorem XU{op:PySem.BoolOp}(h:PE X a (RE X.K u)):PE X (.BoolOp op [a] pos) (RE X.K u):=YM h
theorem XN(ha:PE X a (RE X.K u))(hb:PE X (.BoolOp .And (b::rest) pos) (RE X.K v)):PE X (.BoolOp .And (a::b::rest) pos) (RE X.K (EV u v)):=
 AI (YG ha hb) λσ H Q z9=>by
  clear 5 z9 Oo c t fi r t' eq k;clear 5(Ag eq)kb t1 e1 eq;refine⟨Oo,c,t,fi,_,t1,Jn e1,λx H1 c1 f1 s1 rx=>?_⟩
  cases rx
  refine⟨kb,rfl,?_⟩
  cases kb with
  |false=>rw[gX uf2] at eq⊢;cases eq;exact k _ H1 c1 f1 s1 (.bl false)
  |true=>rw[gW rfl] at eq⊢;exact⟨Oo,c1,t1,f1,r,t',eq,λy H2 c2 f2 s2 ry=>k y H2 c2 f2 (s1.trans s2) ry⟩
theorem ZK(ha:PE X a (RE X.K u))(hb:PE X (.BoolOp .Or (b::rest) pos) (RE X.K v)):PE X (.BoolOp .Or (a::b::rest) pos) (RE X.K (Kx u v)):=
 AI (Z3 ha hb) λσ H Q z9=>by
  clear 5 z9 Oo c t fi r t' eq k;clear 5(Ag eq)kb t1 e1 eq;refine⟨Oo,c,t,fi,_,t1,Jn e1,λx H1 c1 f1 s1 rx=>?_⟩
  cases rx
  refine⟨kb,rfl,?_⟩
  cases kb with
  |true=>rw[gW rfl] at eq⊢;cases eq;exact k _ H1 c1 f1 s1 (.bl true)
  |false=>rw[gX uf2] at eq⊢;exact⟨Oo,c1,t1,f1,r,t',eq,λy H2 c2 f2 s2 ry=>k y H2 c2 f2 (s1.trans s2) ry⟩
theorem XS(ha:PE X a (RE X.K u)):PE X (.UnaryOp .Not a pos) (RE X.K (JI u)):=
 AI (YL ha) λσ H Q z9=>by
  clear 5 z9 Oo c t fi r t' eq k;clear 5(Ag eq)kb t1 e1 eq
  cases eq
  refine⟨Oo,c,t,fi,_,_,Jn e1,λx H1 c1 f1 s1 rx=>?_⟩
  cases rx
  exact⟨kb,rfl,k _ H1 c1 f1 s1 (.bl (!kb))⟩
theorem SX{d:Expr}(hc:PT X d (RT X.K f))(ha:PE X a (RE X.K u))(hb:PE X b (RE X.K v)):PE X (.IfExp d a b pos) (RE X.K (fIf f u v)):=
 AI (TF hc ha hb) λσ H Q z9=>by
  clear 5 z9 Oo c t fi r t' eq k;clear 5(Ag eq)kb t1 e1 eq;refine⟨Oo,c,t,fi,kb,t1,e1,λH1 c1 f1 s1=>?_⟩
  cases kb with
  |false=>rw[gX uf2] at eq⊢;exact⟨Oo,c1,t1,f1,r,t',eq,λy H2 c2 f2 s2 ry=>k y H2 c2 f2 (s1.trans s2) ry⟩
  |true=>rw[gW rfl] at eq⊢;exact⟨Oo,c1,t1,f1,r,t',eq,λy H2 c2 f2 s2 ry=>k y H2 c2 f2 (s1.trans s2) ry⟩
end
variable{n:Nat}{p:Pos}
section
variable{X:Cx}{e a b:Expr}{es:List Expr}{pos:Pos}
def Ad:M (List D):=ret []
def Aa(f:M D)(g:M (List D)):M (List D):=bnd f λd=>bnd g λds=>ret (d::ds)
theorem XL:PA X [] (RA X.K Ad):=P5 Ri λσ H Q z9=>by
 clear 5 z9 Oo c t fi r t' eq k
 cases eq
 exact k [] H c fi .refl .nil
theorem U3{g:M (List D)}(ha:PE X e (RE X.K f))(hr:PA X es (RA X.K g))(hs:starEach (e::es) X.env=(false,eval e X.env)::starEach es X.env:=by rfl):PA X (e::es) (RA X.K (Aa f g)):=
 P5 (N8 ha hr hs) λσ H Q z9=>by
  clear 5 z9 Oo c t fi r t' eq k;clear 5(Ag eq)d t1 e1 eq;clear 5(Ag eq)ds t2 e2 eq
  cases eq
  exact⟨Oo,c,t,fi,d,t1,e1,λx H1 c1 f1 s1 rx=>⟨Oo,c1,t1,f1,ds,_,e2,λxs H2 c2 f2 s2 rxs=>k _ H2 c2 f2 (s1.trans s2) (.cons (rx.mono s2.ext) rxs)⟩⟩
def lim{α:Type}(n:Nat)(a:α):M α:=λt=>if n<=LIM then some (a,t) else none
theorem D8{α:Type}{a:α}{z:α×T}(h:lim n a t=some z):n<=LIM/\z=(a,t):=by
 unfold lim at h
 split at h
 .next h1=>cases h;exact⟨h1,rfl⟩
 .cases h
def AN(f:M (List D)):M D:=bnd f λds=>lim ds.length (.tup ds)
theorem Qs{x1:Nat}{f:M (List D)}(h:PA X es (RA X.K f)):PE X (.Tuple es x1 pos) (RE X.K (AN f)):=
 AI (YN h) λσ H Q z9=>by
  clear 5 z9 Oo c t fi r t' eq k;clear 5(Ag eq)ds t1 e1 eq;clear 5(D8 eq)hl z
  cases z
  refine⟨Oo,c,t,fi,ds,_,e1,λxs H1 c1 f1 s1 rxs=>⟨by rw[rxs.length];exact um3 hl Da,λp hp=>?_⟩⟩;exact k _ _ c1 (f1.laid hp) (s1.trans (f1.stp_laid hp)) (.tup AJ (f1.s.free hp) (rxs.mono (Ext.laid f1.s hp)))
def AK(f:M (List D)):M (List D):=bnd f λds=>lim ds.length ds
theorem XX{f:M (List D)}(h:PA X es (RA X.K f)):PE X (.List es pos) (RF X.K (AK f)):=
 AI (YJ h) λσ H Q z9=>by
  clear 5 z9 Oo c t fi r t' eq k;clear 5(Ag eq)ds t1 e1 eq;clear 5(D8 eq)hl z
  cases z
  exact⟨Oo,c,t,fi,_,_,e1,λxs H1 c1 f1 s1 rxs=>⟨by rw[rxs.length];exact um3 hl Da,λp hp=>k p xs H1 c1 f1 s1 rxs hp⟩⟩
def Ax(f:M (List D)):M D:=bnd f λds=>ret (.lst ds)
theorem U8{f:M (List D)}(h:PE X e (RF X.K f)):PE X e (RE X.K (Ax f)):=
 AI h λσ H Q z9=>by
  clear 5 z9 Oo c t fi r t' eq k;clear 5(Ag eq)ds t1 e1 eq
  cases eq
  exact⟨Oo,c,t,fi,ds,_,e1,λp xs H1 c1 f1 s1 rxs hp=>k _ _ c1 (f1.laid hp) (s1.trans (f1.stp_laid hp)) (.lst AJ (f1.s.free hp) (rxs.mono (Ext.laid f1.s hp)))⟩
noncomputable def Pi(o:Ob):M D:=λt=>some (.obj t.S.length,{t with S:=t.S++[o]})
def Dk(f:M (List D)):M D:=bnd f λds=>Pi (.lst ds)
theorem XT{f:M (List D)}(h:PE X e (RF X.K f)):PE X e (RE X.K (Dk f)):=
 AI h λσ H Q z9=>by
  clear 5 z9 Oo c t fi r t' eq k;clear 5(Ag eq)ds t1 e1 eq
  cases eq
  refine⟨Oo,c,t,fi,ds,_,e1,λp xs H1 c1 f1 s1 rxs hp=>?_⟩;obtain⟨c2,f2,s2,e2⟩:=f1.newObj (o:=.lst ds) (u:=.lst xs) hp λc' H' ex hu=>⟨xs,hu,rxs.mono ex⟩;exact k _ _ c2 f2 (s1.trans s2) (.obj e2)
abbrev Fn:=List D->List Ob->Option (D×List Ob)
inductive spF(K:eh)(f:Fn)(vs:List V)(H:Hp)(Q:VK)(E:XK):Prop where
 |mk (c:Cf) (ds:List D) (S:List Ob) (si:SInv K c S H) (rs:Reps K c H vs ds) (r:D) (S':List Ob) (e:f ds S=some (r,S')) (k:∀v H' c',SInv K c' S' H'->Stp c.O c H c' H'->(∀b,c'.O b↔c.O b)->Rep K c' H' v r->Q v H'):spF K f vs H Q E
def Af(g:Fn)(f:M (List D)):M D:=bnd f λds t=>match g ds t.S with
 |some (r,S')=>some (r,{t with S:=S'})
 |none=>none
theorem HD{g:Fn}{ds:List D}{r:D}{t':T}(h:(match g ds t.S with|some (r,S')=>some (r,{t with S:=S'})|none=>none:Option (D×T))=some (r,t')):∃S',g ds t.S=some (r,S')/\t' = {t with S:=S'}:=by
 cases e:g ds t.S with
 |none=>rw[e] at h;cases h
 |some p=>clear 5 p r' S';rw[e] at h;cases h;exact⟨S',rfl,rfl⟩
theorem U4{k:Nat}{fa:ff}{fd:fk}{ps:List Str}{g:Fn}{f:M (List D)}(F:FnOk X.prog X.w X.K X.mg X.base CX0 k fa fd ps (spF X.K g))(hr:Room k X.A)(hg:Gl X x)(hm:X.mg x=some (.ref fa))(hk:PySem.W.keepIn X.K (.ref fa)=true)(hb:Binds X.K fd ps [])
 (ha:PA X (e::es) (RA X.K f)) (hdb:(x==("__debug__":Str))=false:=by decide) (he:starEach (e::es) X.env=(false,eval e X.env)::starEach es X.env:=by rfl) (hpl:(backTo pos (starEach es X.env)).any (·.1)=false:=by rfl) :
 PE X (.Call (.Name x p) (e::es) [] pos) (RE X.K (Af g f)):=
 AI (N9 F hr hg hm hk hb .nil LJ ha hdb he hpl) λσ H Q z9=>by
  clear 5 z9 Oo c t fi r t' eq kk;clear 5(Ag eq)ds t1 e1 eq;clear 5(HD eq)S' e2 rfl;refine⟨Oo,c,t,fi,ds,t1,e1,λvs H1 c1 f1 s1 rvs=>?_⟩;show spF X.K g (vs++[]) H1 Q E0;rw[uj3];refine⟨c1,ds,t1.S,f1.s,rvs,r,S',e2,λv H' c' si st ho rv=>?_⟩;clear 5(f1.after si st ho)f2 s2;exact kk v H' c' f2 (s1.trans s2) rv
def fB(f:M (List D))(h:List D->M D):M D:=bnd f h
theorem RE.callB{f:M (List D)}{h:List D->M D}{R:List V->Hp->VK->Prop}(s:E9 K R h){σ:L2.St}{H:Hp}{Q:VK}(q:RE K (fB f h) σ H Q):tCB R (RA K f) σ H Q:=by
 clear 5 q Oo c t fi r t' eq k;clear 5(Ag eq)ds t1 e1 eq;exact⟨Oo,c,t,fi,ds,t1,e1,λxs H1 c1 f1 s1 rxs=>s f1 rxs eq λv H' c' f' s' rv=>k v H' c' f' (s1.trans s') rv⟩
def fBF(f:M (List D))(h:List D->M (List D)):M (List D):=bnd f h
theorem RF.callB{f:M (List D)}{h:List D->M (List D)}{R:List V->Hp->VK->Prop}(s:LC K R h){σ:L2.St}{H:Hp}{Q:VK}(q:RF K (fBF f h) σ H Q):tCB R (RA K f) σ H Q:=by
 clear 5 q Oo c t fi r t' eq k;clear 5(Ag eq)ds t1 e1 eq;exact⟨Oo,c,t,fi,ds,t1,e1,λxs H1 c1 f1 s1 rxs=>s f1 rxs eq λp vs H' c' f' s' rv hp=>k p vs H' c' f' (s1.trans s') rv hp⟩
theorem RF.two{h:D->D->M (List D)}(s:LB K R h){σ:L2.St}{H:Hp}{Q:VK}(q:RF K (bnd f λx=>bnd g λy=>h x y) σ H Q):tOp R (RE K f) (RE K g) σ H Q:=by
 clear 5 q Oo c t fi r t' eq k;clear 5(Ag eq)dx t1 e1 eq;clear 5(Ag eq)dy t2 e2 eq;exact⟨Oo,c,t,fi,dx,t1,e1,λx H1 c1 f1 s1 rx=>⟨Oo,c1,t1,f1,dy,t2,e2,λy H2 c2 f2 s2 ry=>s f2 (rx.mono s2.ext) ry eq λp vs H' c' f' s' rv hp=>k p vs H' c' f' ((s1.trans s2).trans s') rv hp⟩⟩
end
variable{μ:Cf->Hp->D->(V->Hp->Prop)->Prop}
section
variable{X:Cx}{e a b:Expr}{pos:Pos}{st:Stmt}{sts:List Stmt}
noncomputable def Ae(f g:M Out):M Out:=λt=>match f t with
 |some (.next,t1)=>g t1
 |z=>z
def Ap:M Out:=ret .next
theorem Vm:PSs X [] (RSg X.K μ Ap):=NA Wt λE σ H z9=>by
 clear 5 z9 Oo c t fi o t' eq k
 cases eq
 exact k σ H c fi .refl
theorem Th{μ:Cf->Hp->D->(V->Hp->Prop)->Prop}{f g:M Out}(h1:PS X st (RSg X.K μ f))(h2:PSs X sts (RSg X.K μ g)):PSs X (st::sts) (RSg X.K μ (Ae f g)):=
 NA (TR h1 h2) λE σ H z9=>by
  clear 5 z9 Oo c t fi o t' eq k;unfold Ae at eq
  cases e1:f t with
  |none=>rw[e1] at eq;cases eq
  |some p=>
    clear 5 p o1 t1;rw[e1] at eq;refine⟨Oo,c,t,fi,o1,t1,e1,λσ1 H1 c1 f1 s1=>?_⟩
    cases o1 with
    |next=>exact⟨Oo,c1,t1,f1,o,t',eq,λσ2 H2 c2 f2 s2=>k σ2 H2 c2 f2 (s1.trans s2)⟩
    |brk=>cases eq;exact k σ1 H1 c1 f1 s1
    |cont=>cases eq;exact k σ1 H1 c1 f1 s1
    |ret d=>cases eq;exact k σ1 H1 c1 f1 s1
theorem KB{μ:Cf->Hp->D->(V->Hp->Prop)->Prop}{f:M Out}(h1:PS X st (RSg X.K μ f)):PSs X [st] (RSg X.K μ f):=Od h1
def Al(f:M D):M Out:=bnd f λd=>ret (.ret d)
theorem QC(h:PE X e (RE X.K f)):PS X (.Return (some e) pos) (RS X.K (Al f)):=
 A5 (Ih h) λE σ H z9=>by
  clear 5 z9 Oo c t fi o t' eq k;clear 5(Ag eq)d t1 e1 eq
  cases eq
  exact⟨Oo,c,t,fi,d,_,e1,λv H1 c1 f1 s1 rv=>k σ H1 c1 f1 s1 v rv⟩
theorem NS:PS X (.Pass pos) (RSg X.K μ Ap):=A5 Wq λE σ H z9=>by
 clear 5 z9 Oo c t fi o t' eq k
 cases eq
 exact k σ H c fi .refl
def D5(f:M D):M Out:=bnd f λ_=>ret .next
theorem NN(h:PE X e (RE X.K f))(hs:swapsWith e none pos.line X.env=pure false:=by rfl):PS X (.Expr e pos) (RSg X.K μ (D5 f)):=
 A5 (KM h hs) λE σ H z9=>by
  clear 5 z9 Oo c t fi o t' eq k;clear 5(Ag eq)d t1 e1 eq
  cases eq
  exact⟨Oo,c,t,fi,d,_,e1,λv H1 c1 f1 s1 rv=>k σ H1 c1 f1 s1⟩
def ifS(f:M Bool)(g h:M Out):M Out:=bnd f λk=>if k=true then g else h
theorem ZS{f:M Bool}{g h:M Out}{sa sb:List Stmt}(hc:PT X e (RT X.K f))(ha:PSs X sa (RSg X.K μ g))(hb:PSs X sb (RSg X.K μ h)):PS X (.If e sa sb pos) (RSg X.K μ (ifS f g h)):=
 A5 (Z8 hc ha hb) λE σ H z9=>by
  clear 5 z9 Oo c t fi o t' eq k;clear 5(Ag eq)kb t1 e1 eq;refine⟨Oo,c,t,fi,kb,t1,e1,λH1 c1 f1 s1=>?_⟩
  cases kb with
  |true=>rw[gW rfl] at eq⊢;exact⟨Oo,c1,t1,f1,o,t',eq,λσ2 H2 c2 f2 s2=>k σ2 H2 c2 f2 (s1.trans s2)⟩
  |false=>rw[gX uf2] at eq⊢;exact⟨Oo,c1,t1,f1,o,t',eq,λσ2 H2 c2 f2 s2=>k σ2 H2 c2 f2 (s1.trans s2)⟩
noncomputable def As(i:Nat)(d:D):M Unit:=λt=>some ((),{t with env:=t.env.set i (some (.val d))})
def Ao(i:Nat)(f:M D):M Out:=bnd f λd=>bnd (As i d) λ_=>ret .next
theorem RS.set{μ:Cf->Hp->D->(V->Hp->Prop)->Prop}{K:eh}{i:Nat}{f:M D}{E:Ends}{σ:L2.St}{H:Hp}(q:RSg K μ (Ao i f) E σ H):Ng (RE K f) (JN i) E σ H:=by
 clear 5 q Oo c t fi o t' eq k;clear 5(Ag eq)d t1 e1 eq
 cases eq
 exact⟨Oo,c,t,fi,d,t1,e1,λv H1 c1 f1 s1 rv=>k _ H1 c1 (f1.set rv) s1⟩
theorem Ms{pos':Pos}(hN:X.N.Nodup)(hi:X.N[i]?=some x)(hx:Loc X.env.scope x)(he:PE X e (RE X.K f))(hs:swapsWith e (some (.Name x pos')) pos.line X.env=pure false:=by rfl)(hf:X.fn x=true\/X.env.scope.names.lookup x=some .local:=by walk_at"h") :
 PS X (.Assign [.Name x pos'] e pos) (RSg X.K μ (Ao i f)):=A5 (MU hN hi hx he hs hf) λ_ _ _ q=>RS.set q
def Eb(i:Nat)(f:M (List D)):M Out:=bnd f λds t=>some (.next,{t with env:=t.env.set i (some (.own ds))})
theorem RS.own{f:M (List D)}{E:Ends}(q:RSg K μ (Eb i f) E σ H):Ng (RF K f) (JN i) E σ H:=by
 clear 5 q Oo c t fi o t' eq k;clear 5(Ag eq)ds t1 e1 eq
 cases eq
 refine⟨Oo,c,t,fi,ds,t1,e1,λp vs H1 c1 f1 s1 rv hp=>?_⟩;clear 5(f1.setOwn (i:=i) hp rv)c2 f2 s2;exact k _ _ c2 f2 (s1.trans s2)
theorem X7{f:M (List D)}{pos':Pos}(hN:X.N.Nodup)(hi:X.N[i]?=some x)(hx:Loc X.env.scope x)(he:PE X e (RF X.K f))(hs:swapsWith e (some (.Name x pos')) pos.line X.env=pure false:=by rfl)(hf:X.fn x=true\/X.env.scope.names.lookup x=some .local:=by walk_at"h") :
 PS X (.Assign [.Name x pos'] e pos) (RSg X.K μ (Eb i f)):=A5 (MU hN hi hx he hs hf) λ_ _ _ q=>RS.own q
theorem Di(hN:X.N.Nodup)(hi:X.N[i]?=some x)(hx:Loc X.env.scope x)(hf:X.fn x=true\/X.env.scope.names.lookup x=some .local:=by walk_at"h"):PG X (.Name x pos) (RG X.K (As i)):=
 Gy (Wh hN hi hx hf) λv σ H Q z9=>by
  clear 5 z9 Oo c t d fi rv t' eq k
  cases eq
  exact k _ H c (fi.set rv) .refl
def Dt(f:M D)(g:D->M Unit):M Out:=bnd f λd=>bnd (g d) λ_=>ret .next
theorem X5{g:D->M Unit}(he:PE X e (RE X.K f))(hg:PG X tg (RG X.K g))(hs:swapsWithSole [tg] e pos.line X.env=pure false:=by rfl)(hw:swappedStores [tg] e X.env=pure none:=by rfl)(hp:(assignEach [tg] X.env).map (·.2)=[assign tg X.env]:=by rfl) :
 PS X (.Assign [tg] e pos) (RSg X.K μ (Dt f g)):=
 A5 (by first|exact Rn he hg hs hw|exact Rn he hg hs hw hp) λE σ H z9=>by
  clear 5 z9 Oo c t fi o t' eq k;clear 5(Ag eq)d t1 e1 eq;clear 5(Ag eq)u t2 e2 eq
  cases eq
  exact⟨Oo,c,t,fi,d,t1,e1,λv H1 c1 f1 s1 rv=>⟨Oo,c1,t1,d,f1,rv,_,e2,λσ2 H2 c2 f2 s2=>k σ2 H2 c2 f2 (s1.trans s2)⟩⟩
inductive RGs(K:eh)(f:List D->M Unit)(vs:List V)(σ:L2.St)(H:Hp)(Q:L2.St->Hp->Prop):Prop where
 |mk (Oo:ff->Prop) (c:Cf) (t:T) (ds:List D) (fi:FInv K Oo c t σ H) (r:Reps K c H vs ds) (t':T) (e:f ds t=some ((),t')) (k:∀σ' H' c',FInv K Oo c' t' σ' H'->Stp Oo c H c' H'->Q σ' H'):RGs K f vs σ H Q
theorem Nz{ts:List Expr}{t t':TGs}(h:PGs X ts t)(i:∀v σ H Q,t' v σ H Q->t v σ H Q):PGs X ts t':=λfb s σ H vs us Q I r q=>h fb s σ H vs us Q I r (i vs σ H Q q)
def DE:List D->M Unit
 |[]=>ret ()
 |_=>fail
def AO(f:D->M Unit)(g:List D->M Unit):List D->M Unit
 |d::ds=>bnd (f d) λ_=>g ds
 |[]=>fail
theorem U9:PGs X [] (RGs X.K DE):=Nz Wi λvs σ H Q z9=>by
 clear 5 z9 Oo c t ds fi rv t' eq k
 cases rv with
 |nil=>cases eq;exact⟨rfl,k σ H c fi .refl⟩
 |cons _ _=>cases eq
theorem RGs.cons{K:eh}{f:D->M Unit}{g:List D->M Unit}{vs:List V}{σ:L2.St}{H:Hp}{Q:L2.St->Hp->Prop}(q:RGs K (AO f g) vs σ H Q):UF (RG K f) (RGs K g) vs σ H Q:=by
 clear 5 q Oo c t ds fi rv t' eq k
 cases rv with
 |nil=>cases eq
 |cons r rs=>
   clear 5(Ag eq)u t1 e1 eq;exact⟨_,_,rfl,Oo,c,t,_,fi,r,t1,e1,λσ1 H1 c1 f1 s1=>⟨Oo,c1,t1,_,f1,rs.mono s1.ext,t',eq,λσ2 H2 c2 f2 s2=>k σ2 H2 c2 f2 (s1.trans s2)⟩⟩
def unT(n:Nat)(g:List D->M Unit):D->M Unit
 |.tup ds=>if ds.length=n then g ds else fail
 |_=>fail
def Bv(st:D->M Unit)(b:M Out):List D->M Out
 |[]=>ret .next
 |d::r=>λt=>match st d t with
   |none=>none
   |some (_,t1)=>match b t1 with
     |some (.next,t2)=>Bv st b r t2
     |some (.cont,t2)=>Bv st b r t2
     |some (.brk,t2)=>some (.next,t2)
     |some (.ret x,t2)=>some (.ret x,t2)
     |none=>none
def Bj(f:M (List D))(st:D->M Unit)(b:M Out):M Out:=bnd f λds=>Bv st b ds
theorem RS.for{f:M (List D)}{g:D->M Unit}{b:M Out}{E:Ends}(q:RSg K μ (Bj f g b) E σ H):Ug (RI K f) (RG K g) (RSg K μ b) E σ H:=by
 clear 5 q Oo c t fi o t' eq k;clear 5(Ag eq)ds t1 e1 eq;refine⟨Oo,c,t,fi,ds,t1,e1,λJ H1 c1 f1 s1 it=>?_⟩;refine⟨λi m σ' H'=>m=ds.length-i/\i<=ds.length/\∃c' t2,FInv K Oo c' t2 σ' H'/\Stp Oo c1 H1 c' H'/\Bv g b (ds.drop i) t2=some (o,t'),⟨_,rfl,un6 _,c1,t1,f1,.refl,by rw[uk9];exact eq⟩,?_⟩;rintro i m σ' H' ⟨rfl,hi,c',t2,f2,s2,e2⟩
 by_cases hlt:i<ds.length
 .refine .inr ⟨it.go c' H' i s2.ext hlt,λσ3 H3=>∃c3 t3,FInv K Oo c3 t3 σ3 H3/\Stp Oo c1 H1 c3 H3/\Bv g b (ds.drop (i+1)) t3=some (o,t'),λσ3 H3 h=>⟨ds.length-(i+1),by lia,rfl,hlt,h⟩,λx H'' hy=>?_⟩;clear 5(it.yld c' H' i x H'' _ s2.ext (ub2 hlt) hy)rfl rx;rw[ub0 hlt] at e2;unfold Bv at e2
  cases e3:g ds[i] t2 with
  |none=>rw[e3] at e2;cases e2
  |some p=>
    clear 5 p u t3;rw[e3] at e2
    try dsimp only at e2
    refine⟨Oo,c',t2,_,f2,rx,t3,e3,λσ3 H3 c3 f3 s3=>?_⟩
    cases e4:b t3 with
    |none=>rw[e4] at e2;cases e2
    |some p=>
      clear 5 p o4 t4;rw[e4] at e2
      try dsimp only at e2
      refine⟨Oo,c3,t3,f3,o4,t4,e4,λσ5 H5 c5 f5 s5=>?_⟩;have s':=(s2.trans s3).trans s5
      cases o4 with
      |next=>exact⟨c5,t4,f5,s',e2⟩
      |cont=>exact⟨c5,t4,f5,s',e2⟩
      |brk=>cases e2;exact k σ5 H5 c5 f5 (s1.trans s')
      |ret r=>cases e2;exact k σ5 H5 c5 f5 (s1.trans s')
 .have hi':i=ds.length:=by lia
  subst hi';rw[ui0] at e2
  cases e2
  exact .inl ⟨it.stop c' H' s2.ext,k σ' H' c' f2 (s1.trans s2)⟩
theorem QA{iter:Expr}{body:List Stmt}{f:M (List D)}{g:D->M Unit}{b:M Out}(hp:PassesOwn (model X.prog X.w) X.A X.env X.xe)(hc:X.calm=true)(hi:PI X tg iter (RI X.K f))(hg:PG X tg (RG X.K g))(hb:PSs X body (RSg X.K μ b))
 (hs:∀x,foldedSetIterable iter X.env x=pure x:=by intro _;rfl):PS X (.For tg iter body [] pos) (RSg X.K μ (Bj f g b)):=
 A5 (Ro hp hc hi hg hb hs) λ_ _ _ q=>RS.for q
theorem ItOk.lst{K:eh}{c:Cf}{H:Hp}{p:ff}{ds:List D}(r:∀c' H',Ext c H c' H'->∃vs,SqL K H' p vs/\Reps K c' H' vs ds):ItOk K (Itl K p) c H ds:=by
 refine⟨λc' H' i ex hi=>?_,λc' H' i x H'' d ex hd hy=>?_,λc' H' ex=>?_⟩
 .clear 5(r c' H' ex)vs h1 h2;obtain⟨v,e,_⟩:=h2.at (ub2 hi);exact⟨vs,v,h1,e⟩
 .clear 5(r c' H' ex)vs h1 h2;clear 5 hy rfl h;exact⟨rfl,h2.get (h vs h1) hd⟩
 .clear 5(r c' H' ex)vs h1 h2;exact⟨vs,h1,by rw[h2.length];exact un5 _⟩
theorem ItOk.tup{K:eh}{c:Cf}{H:Hp}{p:ff}{ds:List D}(r:∀c' H',Ext c H c' H'->∃vs,SqT K H' p vs/\Reps K c' H' vs ds):ItOk K (Itt K p) c H ds:=by
 refine⟨λc' H' i ex hi=>?_,λc' H' i x H'' d ex hd hy=>?_,λc' H' ex=>?_⟩
 .clear 5(r c' H' ex)vs h1 h2;obtain⟨v,e,_⟩:=h2.at (ub2 hi);exact⟨vs,v,h1,e⟩
 .clear 5(r c' H' ex)vs h1 h2;clear 5 hy rfl h;exact⟨rfl,h2.get (h vs h1) hd⟩
 .clear 5(r c' H' ex)vs h1 h2;exact⟨vs,h1,by rw[h2.length];exact un5 _⟩
end
theorem FInv.leave{Oo:ff->Prop}(f:FInv K Oo c t σ H):SInv K ⟨c.ι,Oo⟩ t.S H/\Ext c H ⟨c.ι,Oo⟩ H:=by
 have ext:Ext c H ⟨c.ι,Oo⟩ H:=⟨λ_ _ e _=>e,λb o _ z=>z.elim .inl λw=>.inr (f.sub b w),λ_ _ e=>e⟩;exact⟨⟨f.s.len,f.s.nd,λk a o e1 e2=>(f.s.obs k a o e1 e2).mono ext rfl,λb z=>f.s.trk b (f.sub b z),λb z=>f.s.dis b (f.sub b z)⟩,ext⟩
noncomputable def env0(m:Nat)(ds:List D):List (Option Sl):=ds.map (λd=>some (.val d))++List.replicate (m-ds.length) none
def fnOf(n m:Nat)(g:M Out):Fn:=λds S=>if ds.length=n then(match g ⟨env0 m ds,S⟩ with
 |some (.ret r,t)=>some (r,t.S)
 |some (.next,t)=>some (.non,t.S)
 |_=>none) else none
theorem G9{ds:List D}{N:List Str}(s:SInv K c S H)(r:Reps K c H vs ds):FInv K c.O c ⟨env0 N.length ds,S⟩ (L2.start N vs) H:=by
 have hlen:vs.length=ds.length:=r.length;have none_:∀{i:Nat}{x:Sl},(env0 N.length ds)[i]?=some (some x)->∃d,ds[i]?=some d/\x=.val d:=λ{i x} q=>by
  unfold env0 at q
  by_cases hi:i<ds.length
  .rw[ua9 (by simpa using hi),ug2,ub2 hi] at q;simp at q;exact⟨ds[i],ub2 hi,q.symm⟩
  .rw[ua5 (by simpa using hi),ub3] at q
   split at q<;>simp at q
 refine⟨s,by simp[env0,L2.start,hlen],λ_ z=>z,λi d q=>?_,λi es q=>?_,λi j es _ a q _ _ _=>?_⟩
 .obtain⟨d',h1,h2⟩:=none_ q
  cases h2
  clear 5(r.at h1)v h3 h4;refine⟨v,?_,h4⟩;unfold L2.start;have hi:=(ua8.mp h3).1;rw[ua9 (by simpa using hi),ug2,h3];rfl
 .obtain⟨_,_,h2⟩:=none_ q;cases h2
 .obtain⟨_,_,h2⟩:=none_ q;cases h2
theorem ZR{P:fh}{w:fj}{mg:Str->Option fc}{base:Heap}{qual:Str}{st:Stmt}{fa:ff}{fd:fk}{N ps:List Str}{k:Nat}{g:M Out}(F:Fun K x qual st fa fd)(S:FnScope N ps (AA st))
 (hb:∀(cdv:fc) (A:Around) (outer:List Env) (s:fg) (H:Hp) (E:XK),Room k (A.deeper (PyProof.Rows.envOfC qual (AA st) s.heap.objs.size fa cdv))->
   PSs (EG CX0 P w K mg base N qual (AA st) fa cdv A outer s H E).nox (CA st) (RS K g)):FnOk P w K mg base CX0 (k+1) fa fd ps (spF K (fnOf ps.length N.length g)):=by
 have hlen:∀{ds:List D}{S:List Ob}{z:D×List Ob},fnOf ps.length N.length g ds S=some z->ds.length=ps.length:=λ{ds S z} h=>by
  unfold fnOf at h
  split at h
  .next h1=>exact h1
  .cases h
 refine F.ok S (λvs H Q E h=>?_) (λcdv A outer s H vs Q E hr h=>?_)
 .obtain⟨c,ds,S,si,rs,r,S',e,_⟩:=h;rw[rs.length];exact hlen e
 clear 5 h c ds S0 si rs r S' e kk;refine⟨RS K g,hb cdv A outer s H E hr,?_⟩;have hl:=hlen e;unfold fnOf at e;rw[gW hl] at e
 cases eg:g ⟨env0 N.length ds,S0⟩ with
 |none=>rw[eg] at e;cases e
 |some p=>
   clear 5 p o t;rw[eg] at e;refine⟨c.O,c,_,G9 si rs,o,t,eg,λσ' H' c' f' s'=>?_⟩;clear 5 f'.leave si' ext';have st':Stp c.O c H ⟨c'.ι,c.O⟩ H':=⟨s'.ext.trans ext',s'.oo⟩
   cases o with
   |next=>cases e;exact kk .non H' _ si' st' (λ_=>gU) .non
   |ret d=>cases e;exact λv rv=>kk v H' _ si' st' (λ_=>gU) (rv.mono ext')
   |brk=>cases e
   |cont=>cases e
variable{fr:List Nat}
section
variable{X:Cx}{e a b:Expr}{pos:Pos}
def items:D->M (List D)
 |.lst ds=>ret ds
 |.tup ds=>ret ds
 |.scr ns=>ret (ns.map .int)
 |_=>fail
noncomputable def AH(lo:Int)(n:Nat):List D:=(List.range n).map λi=>.int (lo+(i:Nat))
theorem ItOk.rng{lo:Int}:ItOk K (Itr lo n) c H (AH lo n):=by
 refine⟨λc' H' i ex hi=>?_,λc' H' i x H'' d ex hd hy=>?_,λc' H' ex=>?_⟩
 .have:i<n:=by simpa[AH] using hi
  exact this
 .clear 5 hy rfl rfl;refine⟨rfl,?_⟩;have hi:i<n:=by
   have:=(ua8.mp hd).1;simpa[AH] using this
  have:d=.int (lo+(i:Nat)):=by
   rw[AH,ug2,ue8 hi] at hd;simpa using hd.symm
  rw[this];exact .int _
 .show n<=(AH lo n).length;simp[AH]
noncomputable def B9(i:Int):Bool:=decide (-(2 ^ 62)<=i)&&decide (i<2 ^ 62)
def KQ:List D->M (List D)
 |[.int j]=>λt=>if B9 j=true then some (AH 0 j.toNat,t) else none
 |_=>fail
def KR:List D->M (List D)
 |[.int i,.int j]=>λt=>if (B9 i&&B9 j)=true then some (AH i (j-i).toNat,t) else none
 |_=>fail
def Bm(f:M (List D)):M (List D):=bnd f KQ
def Ge(f:M (List D)):M (List D):=bnd f KR
theorem E6{i:Int}(h:B9 i=true) : -(2 ^ 62)<=i/\i<2 ^ 62:=by
 unfold B9 at h;rw[uh6] at h;exact⟨uh0 h.1,uh0 h.2⟩
theorem Qw{f:M (List D)}(hg:Gl X "range")(hm:X.mg "range" = none)(ha:PA X [a] (RA X.K f))(hs:starEach [a] X.env=[(false,eval a X.env)]:=by rfl):PI X tg (.Call (.Name "range" p) [a] [] pos) (RI X.K (Bm f)):=
 Jq (Rk hg hm ha hs) λσ H R z9=>by
  clear 5 z9 Oo c t fi ds t' eq k;clear 5(Ag eq)xs t1 e1 eq;refine⟨Oo,c,t,fi,xs,t1,e1,λvs H1 c1 f1 s1 rv=>?_⟩;unfold KQ at eq
  split at eq
  .next j=>
   split at eq
   .next hs=>
    cases eq
    cases rv with
    |cons r rs=>
      cases rs
      cases r
      clear 5(E6 hs)h1 h2;exact⟨j,rfl,h1,h2,k _ H1 c1 f1 s1 ItOk.rng⟩
   .cases eq
  .cases eq
theorem Qx{f:M (List D)}(hg:Gl X "range")(hm:X.mg "range" = none)(ha:PA X [a,b] (RA X.K f))(hs:starEach [a,b] X.env=[(false,eval a X.env),(false,eval b X.env)]:=by rfl)(hs2:starEach [b] X.env=[(false,eval b X.env)]:=by rfl):PI X tg (.Call (.Name "range" p) [a,b] [] pos) (RI X.K (Ge f)):=
 Jq (Rl hg hm ha hs hs2) λσ H R z9=>by
  clear 5 z9 Oo c t fi ds t' eq k;clear 5(Ag eq)xs t1 e1 eq;refine⟨Oo,c,t,fi,xs,t1,e1,λvs H1 c1 f1 s1 rv=>?_⟩;unfold KR at eq
  split at eq
  .next i j=>
   split at eq
   .next hs=>
    cases eq
    rw[uh6] at hs
    cases rv with
    |cons r rs=>
      cases r
      cases rs with
      |cons r rs=>
        cases rs
        cases r
        clear 5(E6 hs.1)h1 h2;clear 5(E6 hs.2)h3 h4;exact⟨i,j,rfl,⟨h1,h2,h3,h4⟩,k _ H1 c1 f1 s1 ItOk.rng⟩
   .cases eq
  .cases eq
def Bf(st:D->M Unit)(tst:M Bool)(elt:M D):List D->M (List D)
 |[]=>ret []
 |d::r=>bnd (st d) λ_=>bnd tst λk=>if k=true then bnd elt λx=>bnd (Bf st tst elt r) λxs=>ret (x::xs) else Bf st tst elt r
noncomputable def au:Option (Option Sl)->Option Sl
 |some (some (.val d))=>some (.val d)
 |_=>none
def cenv(n:Nat)(fr:List Nat)(env:List (Option Sl)):List (Option Sl):=List.replicate n none++fr.map λi=>au env[i]?
noncomputable def FI(n:Nat)(fr:List Nat)(σ:L2.St):L2.St:=List.replicate n none++fr.map λi=>(σ[i]?).join
def AU(n:Nat)(fr:List Nat)(f:M (List D))(st:D->M Unit)(tst:M Bool)(elt:M D):M (List D):=bnd f λds t=>match Bf st tst elt ds ⟨cenv n fr t.env,t.S⟩ with
 |some (xs,t')=>if xs.length<=LIM then some (xs,{t with S:=t'.S}) else none
 |none=>none
theorem IZ{env:List (Option Sl)}{x:Sl}(h:(cenv n fr env)[j]?=some (some x)):∃i d,n<=j/\fr[j-n]?=some i/\env[i]?=some (some (.val d))/\x=.val d:=by
 unfold cenv at h
 by_cases hj:j<n
 .rw[ua9 (by simpa using hj),ub3] at h
  split at h<;>simp at h
 .rw[ua5 (by simpa using hj),uc7,ug2] at h
  cases e:fr[j-n]? with
  |none=>rw[e] at h;simp at h
  |some i=>
    rw[e] at h;simp only[uk1,Option.some.injEq] at h
    cases e2:env[i]? with
    |none=>rw[e2] at h;cases h
    |some o=>
      cases o with
      |none=>rw[e2] at h;cases h
      |some sl=>
        cases sl with
        |own _=>rw[e2] at h;cases h
        |val d=>rw[e2] at h;cases h;exact⟨i,d,by lia,rfl,e2,rfl⟩
theorem O1{Oo:ff->Prop}(f:FInv K Oo c t σ H):FInv K c.O c ⟨cenv n fr t.env,t.S⟩ (FI n fr σ) H:=by
 refine⟨f.s,by simp[cenv,FI],λ_ z=>z,λj d q=>?_,λj es q=>?_,λj _ es _ _ q _ _ _=>?_⟩
 .obtain⟨i,d',h0,h1,h2,h3⟩:=IZ q
  cases h3
  clear 5(f.val i d h2)v h4 h5;refine⟨v,?_,h5⟩;unfold FI;rw[ua5 (by simpa using h0),uc7,ug2,h1];simp[h4]
 .obtain⟨_,_,_,_,_,h⟩:=IZ q;cases h
 .obtain⟨_,_,_,_,_,h⟩:=IZ q;cases h
theorem RF.comp{f:M (List D)}{st:D->M Unit}{tst:M Bool}{elt:M D}{Q:VK}(q:RF K (AU n fr f st tst elt) σ H Q):PJ (RI K f) (RG K st) (RT K tst) (RE K elt) (FI n fr) σ H Q:=by
 clear 5 q Oo c t fi xs t' eq k;clear 5(Ag eq)ds t1 e1 eq;refine⟨Oo,c,t,fi,ds,t1,e1,λJ H1 c1 f1 s1 it=>?_⟩
 cases e3:Bf st tst elt ds ⟨cenv n fr t1.env,t1.S⟩ with
 |none=>rw[e3] at eq;cases eq
 |some p=>
   clear 5 p ys t3;rw[e3] at eq;dsimp only at eq
   split at eq
   case isFalse=>cases eq
   next hl=>
   cases eq
   refine⟨λi m acc σ' H'=>m=ds.length-i/\i<=ds.length/\∃c' t2 zs rest,FInv K c1.O c' t2 σ' H'/\Stp c1.O c1 H1 c' H'/\Reps K c' H' acc zs/\Bf st tst elt (ds.drop i) t2=some (rest,t3)/\xs=zs++rest,
    ⟨_,rfl,un6 _,c1,_,[],xs,O1 f1,.refl,.nil,by rw[uk9];exact e3,rfl⟩,?_⟩
   rintro i m acc σ' H' ⟨rfl,hi,c',t2,zs,rest,f2,s2,ra,e2,ez⟩;have hacc:acc.length<=sizeLine:=by
    have:zs.length<=xs.length:=by rw[ez,uf4];exact uh8 _ _
    rw[ra.length];exact um3 this (um3 hl Da)
   refine⟨hacc,?_⟩
   by_cases hlt:i<ds.length
   .refine .inr ⟨it.go c' H' i s2.ext hlt,λx H'' hy=>?_⟩;clear 5(it.yld c' H' i x H'' _ s2.ext (ub2 hlt) hy)rfl rx;rw[ub0 hlt] at e2;unfold Bf at e2;clear 5(Ag e2)u t4 e4 e2;clear 5(Ag e2)kb t5 e5 e2;refine⟨c1.O,c',t2,_,f2,rx,t4,e4,λσ3 H3 c3 f3 s3=>⟨c1.O,c3,t4,f3,kb,t5,e5,λH4 c4 f4 s4=>?_⟩⟩
    cases kb with
    |false=>
      rw[gX uf2] at e2⊢;exact⟨ds.length-(i+1),by lia,rfl,hlt,c4,t5,zs,rest,f4,(s2.trans s3).trans s4,ra.mono (s3.trans s4).ext,e2,ez⟩
    |true=>
      rw[gW rfl] at e2⊢;clear 5(Ag e2)x6 t6 e6 e2;clear 5(Ag e2)r7 t7 e7 e2
      cases e2
      refine⟨c1.O,c4,t5,f4,x6,t6,e6,λv H5 c5 f5 s5 rv=>?_⟩;exact⟨ds.length-(i+1),by lia,rfl,hlt,c5,t6,zs++[x6],r7,f5,((s2.trans s3).trans s4).trans s5,(ra.mono ((s3.trans s4).trans s5).ext).append (.cons rv .nil),e7,by rw[ez,ug4];rfl⟩
   .have hi':i=ds.length:=by lia
    subst hi';rw[ui0] at e2
    cases e2
    refine .inl ⟨it.stop c' H' s2.ext,λp hp _=>?_⟩;clear 5 f2.leave si ext;clear 5(f1.after si ⟨s2.ext.trans ext,s2.oo⟩ (λ_=>gU))f6 s6;rw[uj3] at ez;subst ez;exact k p acc H' _ f6 (s1.trans s6) (ra.mono ext) hp
end
end
open PySem.SeqAt
noncomputable def eq0:D->D->Option Bool
 |.int a,.int b=>some (a==b)
 |.str a,.str b=>some (a==b)
 |.bl a,.bl b=>some (a==b)
 |.non,.non=>some true
 |.non,.tup _=>some false
 |_,_=>none
noncomputable def Dx(f:D->D->Option Bool):List D->List D->Option Bool
 |x::xs,y::ys=>match f x y,Dx f xs ys with
   |some a,some b=>some (a&&b)
   |_,_=>none
 |_,_=>some true
def eqN:Nat->D->D->Option Bool
 |0,x,y=>eq0 x y
 |n+1,.tup xs,.tup ys=>(Dx (eqN n) xs ys).map λb=>b&&xs.length==ys.length
 |n+1,.lst xs,.lst ys=>if xs.length=ys.length then Dx (eqN n) xs ys else some false
 |_+1,x,y=>eq0 x y
noncomputable def ej(f:D->D->Option Bool)(xs ys:List D)(j:Nat):Bool:=match xs[j]?,ys[j]? with
 |some d,some e=>(f d e).getD true
 |_,_=>true
theorem Dy{f:D->D->Option Bool}:∀{xs ys:List D}{b:Bool},Dx f xs ys=some b->b=(List.range (min xs.length ys.length)).all (ej f xs ys)/\∀(j:Nat) d e,xs[j]?=some d->ys[j]?=some e->∃k,f d e=some k
 |[],ys,b,h=>by
   have h:some true=some b:=by simpa[Dx] using h
   cases h
   refine⟨by simp,λj d e q _=>by simp at q⟩
 |x::xs,[],b,h=>by
   have h:some true=some b:=by simpa[Dx] using h
   cases h
   refine⟨by simp,λj d e _ q=>by simp at q⟩
 |x::xs,y::ys,b,h=>by
   unfold Dx at h
   cases e1:f x y with
   |none=>rw[e1] at h;cases h
   |some a=>
     cases e2:Dx f xs ys with
     |none=>rw[e1,e2] at h;cases h
     |some c=>
       rw[e1,e2] at h
       cases h
       clear 5(Dy e2)h1 h2;refine⟨?_,λj d e q1 q2=>?_⟩
       .have hm:min (x::xs).length (y::ys).length=min xs.length ys.length+1:=by simp[Nat.succ_min_succ]
        rw[hm,fW,ul6,List.all_map,h1];have:ej f (x::xs) (y::ys) 0=a:=by simp[ej,e1]
        rw[this];rfl
       .cases j with
        |zero=>simp at q1 q2;subst q1 q2;exact⟨a,e1⟩
        |succ j=>exact h2 j d e (by simpa using q1) (by simpa using q2)
section
variable{P:fh}{w:fj}{H:Hp}{vs:List V}
theorem Hb{h:Heap}{a:ff}(o:HOk P w H h)(e:H a=some (.lst vs)):∃its:List fc,Vals vs its/\h.IsList a its.toArray:=by
 obtain⟨_,its,n,r,q⟩:=o a _ e;exact⟨its,r,_,q,rfl,n,rfl⟩
theorem Fw{h:Heap}{a:ff}(o:HOk P w H h)(e:H a=some (.tup vs)):∃its:List fc,Vals vs its/\h.IsTuple a its.toArray:=by
 obtain⟨_,its,r,q⟩:=o a _ e;exact⟨its,r,q⟩
theorem Ke{its:List fc}{j:Nat}(r:Vals vs its)(h:j<its.toArray.size):∃v,vs[j]?=some v/\RelV v its.toArray[j]:=by
 have h':j<its.length:=by simpa using h
 have hl:j<vs.length:=by rw[r.length];exact h'
 clear 5(r.get (ub2 hl))u e1 e2;refine⟨vs[j],ub2 hl,?_⟩;rw[ub2 h'] at e1
 cases e1
 simpa using e2
variable{b:Bool}
theorem Ql{f:D->D->Option Bool}{xs ys:List D}(h:Dx f xs ys=some b)(ht:∀(j:Nat) d e k,xs[j]?=some d->ys[j]?=some e->f d e=some k->k=true):b=true:=by
 clear 5(Dy h)h1 h2;rw[h1,ui1];intro j hj;have hj':=uk5.mp hj;have l1:j<xs.length:=by lia
 have l2:j<ys.length:=by lia
 clear 5(h2 j _ _ (ub2 l1) (ub2 l2))k ek;have:=ht j _ _ k (ub2 l1) (ub2 l2) ek;unfold ej;rw[ub2 l1,ub2 l2];simp[ek,this]
theorem HH{x y:D}(e:eq0 x y=some b):(∃i j,x=.int i/\y=.int j/\(i==j)=b)\/(∃i j,x=.str i/\y=.str j/\(i==j)=b)\/(∃i j,x=.bl i/\y=.bl j/\(i==j)=b)\/(x=.non/\y=.non/\true=b)\/(∃ys,x=.non/\y=.tup ys/\false=b):=by
 unfold eq0 at e
 split at e
 .cases e;exact .inl ⟨_,_,rfl,rfl,rfl⟩
 .cases e;exact .inr (.inl ⟨_,_,rfl,rfl,rfl⟩)
 .cases e;exact .inr (.inr (.inl ⟨_,_,rfl,rfl,rfl⟩))
 .cases e;exact .inr (.inr (.inr (.inl ⟨rfl,rfl,rfl⟩)))
 .cases e;exact .inr (.inr (.inr (.inr ⟨_,rfl,rfl,rfl⟩)))
 .cases e
theorem HJ{n:Nat}{x y:D}(e:eqN n x y=some b):eq0 x y=some b\/(∃m xs ys,n=m+1/\x=.lst xs/\y=.lst ys/\(if xs.length=ys.length then Dx (eqN m) xs ys else some false)=some b)\/∃m xs ys b',n=m+1/\x=.tup xs/\y=.tup ys/\Dx (eqN m) xs ys=some b'/\(b'&&xs.length==ys.length)=b:=by
 unfold eqN at e
 split at e
 .exact .inl e
 .clear 5(uc2.mp e)b' e1 e2;exact .inr (.inr ⟨_,_,_,b',rfl,rfl,rfl,e1,e2⟩)
 .exact .inr (.inl ⟨_,_,_,rfl,rfl,rfl,e⟩)
 .exact .inl e
variable{K:eh}{c:Cf}
theorem NK:∀(n:Nat){v:V}{d e:D}{b:Bool},Rep K c H v d->Rep K c H v e->eqN n d e=some b->b=true
 :=by
  intro n
  induction n using Nat.strongRecOn with
  |ind n ih=>
  intro v d e b rd re q;have items:∀{m:Nat}{vs:List V}{ds es:List D}{b':Bool},n=m+1->Reps K c H vs ds->Reps K c H vs es->Dx (eqN m) ds es=some b'->b'=true:=λ{m vs ds es b'} hm r1 r2 e'=>
   Ql e' λj d e k q1 q2 ek=>by
    clear 5(r1.at q1)v g1 g2;exact ih m (by lia) g2 (r2.get g1 q2) ek
  rcases HJ q with q0|⟨m,ds,es,hm,rfl,rfl,q0⟩|⟨m,ds,es,b',hm,rfl,rfl,q1,q2⟩
  .rcases HH q0 with⟨i,j,rfl,rfl,rfl⟩|⟨i,j,rfl,rfl,rfl⟩|⟨i,j,rfl,rfl,rfl⟩|⟨rfl,rfl,rfl⟩|⟨ys,rfl,rfl,rfl⟩
   .cases rd;cases re;simp
   .cases rd;cases re;simp
   .cases rd;cases re;simp
   .cases rd;cases re;rfl
   .cases rd;cases re
  .cases rd with
   |lst h1 h2 h3=>
     cases re with
     |lst g1 g2 g3=>
       rw[h1] at g1;cases g1
       rw[gW (h3.length.symm.trans g3.length)] at q0;exact items hm h3 g3 q0
  .cases rd with
   |tup h1 h2 h3=>
     cases re with
     |tup g1 g2 g3=>
       rw[h1] at g1;cases g1
       rw[<-q2,items hm h3 g3 q1,h3.length.symm.trans g3.length];simp
theorem NJ{s:fg}(hok:HOk P w H s.heap):∀(n:Nat){A:Around}{x y:V}{u v:fc}{dx dy:D}{b:Bool},RelV x u->RelV y v->Rep K c H x dx->Rep K c H y dy->eqN n dx dy=some b->A.units+n<cLine->
 RcAt A s u v b/\(EqAt A s u v b)
 :=by
  intro n
  induction n using Nat.strongRecOn with
  |ind n ih=>
  intro A x y u v dx dy b ru rv rx ry e hu;have items:∀{m:Nat}{vs ws:List V}{is js:List fc}{ds es:List D}{b':Bool},n=m+1->Vals vs is->Vals ws js->Reps K c H vs ds->Reps K c H ws es->Dx (eqN m) ds es=some b'->
   ∀j (h1:j<is.toArray.size) (h2:j<js.toArray.size),EqAt A.in1 s is.toArray[j] js.toArray[j] (ej (eqN m) ds es j):=λ{m vs ws is js ds es b'} hm r1 r2 q1 q2 e' j h1 h2=>by
   clear 5(Ke r1 h1)v1 a1 a2;clear 5(Ke r2 h2)v2 b1 b2;clear 5(ua8.mp a1)l1 g1;clear 5(ua8.mp b1)l2 g2;have k1:ds[j]?=some (ds[j]'(by rw[<-q1.length];exact l1)):=ub2 _;have k2:es[j]?=some (es[j]'(by rw[<-q2.length];exact l2)):=ub2 _;clear 5((Dy e').2 j _ _ k1 k2)kk ek;have:ej (eqN m) ds es j=kk:=by unfold ej;rw[k1,k2];simp[ek]
   rw[this];have hu':A.in1.units+m<cLine:=by
    have:A.in1.units=A.units+1:=by first|rfl|exact Around.units_in1 _|simp[Around.in1,Around.units]
    lia
   exact(ih m (by lia) a2 b2 (q1.get a1 k1) (q2.get b1 k2) ek hu').2
  have hu0:A.units<cLine:=by lia
  have conc:∀{p q:ff}{k:Bool},p≠q->RcAt A s (.ref p) (.ref q) k->RcAt A s (.ref p) (.ref q) k/\EqAt A s (.ref p) (.ref q) k:=λhn h=>⟨h,EqAt.of_refs hn h⟩;rcases HJ e with e0|⟨m,ds,es,hm,rfl,rfl,e0⟩|⟨m,ds,es,b',hm,rfl,rfl,e1,e2⟩
  .rcases HH e0 with⟨i,j,rfl,rfl,rfl⟩|⟨i,j,rfl,rfl,rfl⟩|⟨i,j,rfl,rfl,rfl⟩|⟨rfl,rfl,rfl⟩|⟨ys,rfl,rfl,rfl⟩
   .cases rx;cases ry;clear 5 ru t' rfl;clear 5 rv t rfl;exact⟨RcAt.int_int _ _ _ _,EqAt.int_int _ _ _ _⟩
   .cases rx;cases ry;clear 5 ru t' rfl;clear 5 rv t rfl;exact⟨RcAt.str_str _ _ _ _,EqAt.str_str _ _ _ _⟩
   .cases rx;cases ry;cases ru;cases rv;exact⟨RcAt.bool_bool _ _,EqAt.bool_bool _ _⟩
   .cases rx;cases ry;cases ru;cases rv;exact⟨RcAt.none_none,EqAt.same _⟩
   .cases rx;cases ry with|tup h1 h2 h3=>cases ru;cases rv;clear 5(Fw hok h1)its r l;exact⟨RcAt.none_tuple l hu0,EqAt.none_tuple l hu0⟩
  .cases rx with
   |@lst p vs _ g1 g2 g3=>
   cases ry with
   |@lst q ws _ h1 h2 h3=>
     cases ru
     cases rv
     clear 5(Hb hok g1)is r1 l1;clear 5(Hb hok h1)js r2 l2;have hs1:is.toArray.size=ds.length:=by rw[<-g3.length,r1.length];simp
     have hs2:js.toArray.size=es.length:=by rw[<-h3.length,r2.length];simp
     by_cases hl:ds.length=es.length
     .rw[gW hl] at e0;have hsz:is.toArray.size=js.toArray.size:=by rw[hs1,hs2,hl]
      have rc:=RcAt.lists l1 l2 hsz hu0 (items hm r1 r2 g3 h3 e0);have eb:(List.range is.toArray.size).all (ej (eqN m) ds es)=b:=by rw[(Dy e0).1,hs1,<-hl,Nat.min_self]
      rw[eb] at rc
      by_cases hpq:p=q
      .refine⟨rc,?_⟩;subst hpq;rw[NK n (Rep.lst g1 g2 g3) (Rep.lst h1 h2 h3) e];exact EqAt.same _
      .exact conc hpq rc
     .rw[gX hl] at e0
      cases e0
      have hsz:(is.toArray.size != js.toArray.size)=true:=by rw[hs1,hs2];simpa using hl
      refine conc (λz=>hl ?_) (RcAt.lists_lengths l1 l2 hsz hu0);subst z;rw[g1] at h1;cases h1
      rw[<-g3.length,<-h3.length]
  .cases rx with
   |@tup p vs _ g1 g2 g3=>
   cases ry with
   |@tup q ws _ h1 h2 h3=>
     cases ru
     cases rv
     clear 5(Fw hok g1)is r1 l1;clear 5(Fw hok h1)js r2 l2;have hs1:is.toArray.size=ds.length:=by rw[<-g3.length,r1.length];simp
     have hs2:js.toArray.size=es.length:=by rw[<-h3.length,r2.length];simp
     have rc:=RcAt.tuples l1 l2 hu0 (items hm r1 r2 g3 h3 e1);have eb:((List.range (min is.toArray.size js.toArray.size)).all (ej (eqN m) ds es)&&is.toArray.size==js.toArray.size)=b:=by rw[hs1,hs2,<-(Dy e1).1];exact e2
     rw[eb] at rc
     by_cases hpq:p=q
     .refine⟨rc,?_⟩;subst hpq;rw[NK n (Rep.tup g1 g2 g3) (Rep.tup h1 h2 h3) e];exact EqAt.same _
     .exact conc hpq rc
theorem VM{s:fg}(hok:HOk P w H s.heap)(n:Nat){A:Around}{x y:V}{u v:fc}{dx dy:D}{b:Bool}(ru:RelV x u)(rv:RelV y v)(rx:Rep K c H x dx)(ry:Rep K c H y dy)(e:eqN n dx dy=some b)(hu:A.units+n<cLine) :
 RcNeAt A s u v (!b):=by
 have items:∀{m:Nat}{vs ws:List V}{is js:List fc}{ds es:List D}{b':Bool},n=m+1->Vals vs is->Vals ws js->Reps K c H vs ds->Reps K c H ws es->Dx (eqN m) ds es=some b'->
  ∀j (h1:j<is.toArray.size) (h2:j<js.toArray.size),EqAt A.in1 s is.toArray[j] js.toArray[j] (ej (eqN m) ds es j):=λ{m vs ws is js ds es b'} hm r1 r2 q1 q2 e' j h1 h2=>by
  clear 5(Ke r1 h1)v1 a1 a2;clear 5(Ke r2 h2)v2 b1 b2;clear 5(ua8.mp a1)l1 g1;clear 5(ua8.mp b1)l2 g2;have k1:ds[j]?=some (ds[j]'(by rw[<-q1.length];exact l1)):=ub2 _;have k2:es[j]?=some (es[j]'(by rw[<-q2.length];exact l2)):=ub2 _;clear 5((Dy e').2 j _ _ k1 k2)kk ek;have:ej (eqN m) ds es j=kk:=by unfold ej;rw[k1,k2];simp[ek]
  rw[this];have hu':A.in1.units+m<cLine:=by
   have:A.in1.units=A.units+1:=rfl;lia
  exact(NJ hok m a2 b2 (q1.get a1 k1) (q2.get b1 k2) ek hu').2
 have hu0:A.units<cLine:=by lia
 rcases HJ e with e0|⟨m,ds,es,hm,rfl,rfl,e0⟩|⟨m,ds,es,b',hm,rfl,rfl,e1,e2⟩
 .rcases HH e0 with⟨i,j,rfl,rfl,rfl⟩|⟨i,j,rfl,rfl,rfl⟩|⟨i,j,rfl,rfl,rfl⟩|⟨rfl,rfl,rfl⟩|⟨ys,rfl,rfl,rfl⟩
  .cases rx;cases ry;clear 5 ru t' rfl;clear 5 rv t rfl;exact RcNeAt.int_int _ _ _ _
  .cases rx;cases ry;clear 5 ru t' rfl;clear 5 rv t rfl;exact RcNeAt.str_str _ _ _ _
  .cases rx;cases ry;cases ru;cases rv;exact RcNeAt.bool_bool _ _
  .cases rx;cases ry;cases ru;cases rv;exact RcNeAt.none_none
  .cases rx;cases ry with|tup h1 h2 h3=>cases ru;cases rv;clear 5(Fw hok h1)its r l;exact RcNeAt.none_tuple l hu0
 .cases rx with
  |@lst p vs _ g1 g2 g3=>
  cases ry with
  |@lst q ws _ h1 h2 h3=>
    cases ru
    cases rv
    clear 5(Hb hok g1)is r1 l1;clear 5(Hb hok h1)js r2 l2;have hs1:is.toArray.size=ds.length:=by rw[<-g3.length,r1.length];simp
    have hs2:js.toArray.size=es.length:=by rw[<-h3.length,r2.length];simp
    by_cases hl:ds.length=es.length
    .rw[gW hl] at e0;have hsz:is.toArray.size=js.toArray.size:=by rw[hs1,hs2,hl]
     have rc:=RcNeAt.lists l1 l2 hsz hu0 (items hm r1 r2 g3 h3 e0);rw[show(List.range is.toArray.size).all (ej (eqN m) ds es)=b by rw[(Dy e0).1,hs1,<-hl,Nat.min_self]] at rc;exact rc
    .rw[gX hl] at e0
     cases e0
     exact RcNeAt.lists_lengths l1 l2 (by rw[hs1,hs2];simpa using hl) hu0
 .cases rx with
  |@tup p vs _ g1 g2 g3=>
  cases ry with
  |@tup q ws _ h1 h2 h3=>
    cases ru
    cases rv
    clear 5(Fw hok g1)is r1 l1;clear 5(Fw hok h1)js r2 l2;have hs1:is.toArray.size=ds.length:=by rw[<-g3.length,r1.length];simp
    have hs2:js.toArray.size=es.length:=by rw[<-h3.length,r2.length];simp
    have rc:=RcNeAt.tuples l1 l2 hu0 (items hm r1 r2 g3 h3 e1);have eb:((List.range (min is.toArray.size js.toArray.size)).all (ej (eqN m) ds es)&&is.toArray.size==js.toArray.size)=b:=by rw[hs1,hs2,<-(Dy e1).1];exact e2
    rw[eb] at rc;exact rc
def EQD:Nat:=40
def neD(x y:D):M D:=λt=>(eqN EQD x y).map λb=>(.bl (!b),t)
def Pt(K:eh)(g:Bool->Bool):R2:=λx y H Q=>∃c dx dy b,Rep K c H x dx/\Rep K c H y dy/\eqN EQD dx dy=some b/\Q (.bl (g b)) H
theorem Rc{X:Cx}(hu:X.A.units+64<cLine):OpR X (compareOp .Eq) (Pt X.K id):=by
 intro fb s σ H x y v u Q I rx ry h;clear 5 h c dx dy b q1 q2 e q;have hu':X.A.units+EQD<cLine:=by unfold EQD;lia
 exact(NJ I.hok EQD rx ry q1 q2 e hu').1 X.prog X.w _ _ ⟨.bl b,H,I,rfl,q⟩
theorem MQ{X:Cx}(hu:X.A.units+64<cLine):OpR X (compareOp .NotEq) (Pt X.K (!·)):=by
 intro fb s σ H x y v u Q I rx ry h;clear 5 h c dx dy b q1 q2 e q;have hu':X.A.units+EQD<cLine:=by unfold EQD;lia
 exact VM I.hok EQD rx ry q1 q2 e hu' X.prog X.w _ _ ⟨.bl (!b),H,I,rfl,q⟩
end
section
variable{g:Int->Int->D}{t:T}{z:D×T}{X:Cx}{c:Cf}{H:Hp}
section
variable{K:eh}
def i2(g:Int->Int->D):D->D->M D
 |.int i,.int j=>ret (g i j)
 |_,_=>fail
theorem Yg{x y:D}(h:i2 g x y t=some z):∃i j,x=.int i/\y=.int j/\z=(g i j,t):=by
 cases x with
 |int i=>cases y with
   |int j=>cases h;exact⟨i,j,rfl,rfl,rfl⟩
   |_=>cases h
 |_=>cases h
theorem Zb{gV:Int->Int->V}(hr:∀i j c H,Rep K c H (gV i j) (g i j)):A6 K (rI0 gV) (i2 g):=λ{Oo c t σ H x y dx dy r t' Q} f rx ry eq k=>by
 clear 5(Yg eq)i j rfl rfl z
 cases z
 cases rx
 cases ry
 exact⟨i,j,rfl,rfl,k _ H c f .refl (hr i j c H)⟩
def i2C(C:Int->Int->Bool)(g:Int->Int->D):D->D->M D
 |.int i,.int j=>λt=>if C i j=true then some (g i j,t) else none
 |_,_=>fail
theorem Vv{C:Int->Int->Bool}{x y:D}(h:i2C C g x y t=some z):∃i j,x=.int i/\y=.int j/\C i j=true/\z=(g i j,t):=by
 cases x with
 |int i=>cases y with
   |int j=>
     unfold i2C at h;dsimp only at h
     by_cases hc:C i j=true
     .rw[gW hc] at h;cases h;exact⟨i,j,rfl,rfl,hc,rfl⟩
     .rw[gX hc] at h;cases h
   |_=>cases h
 |_=>cases h
theorem Fz{P:Int->Int->Prop}{C:Int->Int->Bool}{gV:Int->Int->V}(hP:∀i j,C i j=true->P i j)(hr:∀i j c H,Rep K c H (gV i j) (g i j)):A6 K (rI P gV) (i2C C g):=λ{Oo c t σ H x y dx dy r t' Q} f rx ry eq k=>by
 clear 5(Vv eq)i j rfl rfl hc z
 cases z
 cases rx
 cases ry
 exact⟨i,j,rfl,rfl,hP i j hc,k _ H c f .refl (hr i j c H)⟩
def Bw:=i2 λi j=>.int (i-j)
noncomputable def LD(_ j:Int):Bool:=decide (0<j)&&decide (j<1073741824)
def Fl:=i2C LD λi j=>.int (i/j)
def EA:=i2C (λ_ j=>decide (0<j)) λi j=>.int (i%j)
noncomputable def LK(i j:Int):Bool:=decide (0<=j)&&decide (j<=1000000)&&decide (i.natAbs<2 ^ 64)
def Ig:=i2C LK λi j=>.int (i ^ j.toNat)
noncomputable def Fp(i j:Int):Bool:=(decide (-(2 ^ 64)<i)&&decide (i<2 ^ 64))||(decide (-(2 ^ 64)<j)&&decide (j<2 ^ 64))
def M9:=i2C (λ_ j=>decide (0<=j)) λi j=>.int (i/2 ^ j.toNat)
theorem WV:A6 K (rI0 λi j=>.int (i-j)) Bw:=Zb λi j _ _=>.int _
theorem T8:A6 K (rI Xq λi j=>.int (i/j)) Fl:=Fz (λi j h=>by
 unfold LD at h;rw[uh6] at h;exact⟨uh0 h.1,uh0 h.2⟩) λi j _ _=>.int _
theorem WP:A6 K (rI (λ_ j=>0<j) λi j=>.int (i%j)) EA:=Fz (λi j h=>uh0 h) λi j _ _=>.int _
theorem WT:A6 K (rI Xr λi j=>.int (i ^ j.toNat)) Ig:=Fz (λi j h=>by
 unfold LK at h;rw[uh6,uh6] at h;exact⟨uh0 h.1.1,uh0 h.1.2,uh0 h.2⟩) λi j _ _=>.int _
theorem WU:A6 K (rI (λ_ j=>0<=j) λi j=>.int (i/2 ^ j.toNat)) M9:=Fz (λi j h=>uh0 h) λi j _ _=>.int _
theorem Q2{i j:Int}(h:Fp i j=true):CMul i j:=by
 unfold Fp at h;rw[Bool.or_eq_true,uh6,uh6] at h;rcases h with h|h
 .exact .inl ⟨uh0 h.1,uh0 h.2⟩
 .exact .inr ⟨uh0 h.1,uh0 h.2⟩
def bO:D->M D
 |.int i=>ret (.int (-i))
 |_=>fail
def Xv:D->D->M D
 |.int i,.int j=>ret (.int (i+j))
 |.str x,.str y=>lim (x.length+y.length) (.str (x++y))
 |.lst xs,.lst ys=>lim (xs.length+ys.length) (.lst (xs++ys))
 |_,_=>fail
def Wy:R2:=λx y H Q=>∃i j,x=.str i/\y=.str j/\i.length+j.length<=sizeLine/\Q (.str (i++j)) H
def Ps(K:eh):R2:=λx y H Q=>rI0 (λi j=>.int (i+j)) x y H Q\/(Wy x y H Q\/TU x y H Q)
theorem V4:OpR X (binaryOp .Add) (Ps X.K):=op_add.or (op_add_str.or Rb)
theorem WG:A6 K (Ps K) Xv:=λ{Oo c t σ H x y dx dy r t' Q} f rx ry eq k=>by
 cases rx with
 |int i=>
   cases ry with
   |int j=>cases eq;exact .inl ⟨i,j,rfl,rfl,k _ H c f .refl (.int _)⟩
   |_=>cases eq
 |str i=>
   cases ry with
   |str j=>
     clear 5(D8 eq)h z
     cases z
     exact .inr (.inl ⟨i,j,rfl,rfl,um3 h Da,k _ H c f .refl (.str _)⟩)
   |_=>cases eq
 |@lst a vs ds h1 h2 h3=>
   cases ry with
   |@lst b ws es g1 g2 g3=>
     clear 5(D8 eq)h z
     cases z
     refine .inr (.inr ⟨a,b,vs,ws,rfl,rfl,h1,g1,?_,λp hp=>?_⟩)
     .rw[h3.length,g3.length];exact um3 h Da
     .exact k _ _ c (f.laid hp) (f.stp_laid hp) (.lst AJ (f.s.free hp) ((h3.append g3).mono (Ext.laid f.s hp)))
   |_=>cases eq
 |_=>cases eq
def IY:D->D->M (List D)
 |.lst xs,.lst ys=>lim (xs.length+ys.length) (xs++ys)
 |_,_=>fail
theorem T3:LB K TU IY:=λ{Oo c t σ H x y dx dy r t' Q} f rx ry eq k=>by
 cases rx with
 |@lst a vs ds h1 h2 h3=>
   cases ry with
   |@lst b ws es g1 g2 g3=>
     clear 5(D8 eq)h z
     cases z
     refine⟨a,b,vs,ws,rfl,rfl,h1,g1,?_,λp hp=>k p _ H c f .refl (h3.append g3) hp⟩;rw[h3.length,g3.length];exact um3 h Da
   |_=>cases eq
 |_=>cases eq
def isC:D->D->M D
 |x,.non=>λt=>some (.bl (match x with | .non=>true|_=>false),t)
 |x,.bl b=>λt=>some (.bl (match x with | .bl c=>c==b|_=>false),t)
 |_,_=>fail
def GB(x y:D):M D:=bnd (isC x y) λd=>match d with | .bl b=>ret (.bl (!b))|_=>fail
def rIs(g:Bool->Bool):R2:=λx y H Q=>(y=.non\/∃b,y=.bl b)/\Q (.bl (g (decide (x=y)))) H
theorem NC{x y:V}{v u:fc}(rx:RelV x v)(ry:RelV y u)(hy:y=.non\/∃b,y=.bl b):plainIs v u=true/\(v==u)=decide (x=y):=by
 rcases hy with rfl|⟨b,rfl⟩
 .cases ry
  cases x with
  |non=>cases rx;exact⟨rfl,by simp⟩
  |bl _=>cases rx;exact⟨rfl,by simp⟩
  |int _=>clear 5 rx t rfl;exact⟨rfl,by simp⟩
  |str _=>clear 5 rx t rfl;exact⟨rfl,by simp⟩
  |byt _=>clear 5 rx t rfl;exact⟨rfl,by simp⟩
  |flt _=>clear 5 rx t rfl;exact⟨rfl,by simp⟩
  |ref _=>cases rx;exact⟨rfl,by simp⟩
  |ty _=>cases rx;exact⟨rfl,by simp⟩
 .cases ry
  cases x with
  |non=>cases rx;exact⟨rfl,by simp⟩
  |bl c=>cases rx;exact⟨rfl,by simp;cases c<;>cases b<;>rfl⟩
  |int _=>clear 5 rx t rfl;exact⟨rfl,by simp⟩
  |str _=>clear 5 rx t rfl;exact⟨rfl,by simp⟩
  |byt _=>clear 5 rx t rfl;exact⟨rfl,by simp⟩
  |flt _=>clear 5 rx t rfl;exact⟨rfl,by simp⟩
  |ref _=>cases rx;exact⟨rfl,by simp⟩
  |ty _=>cases rx;exact⟨rfl,by simp⟩
theorem Rg:OpR X (compareOp .Is) (rIs id):=by
 intro fb s σ H x y v u Q I rx ry h;clear 5 h hy q;clear 5(NC rx ry hy)h1 h2;exact wpAny_is_plain h1 ⟨.bl _,H,I,by rw[h2];rfl,q⟩
theorem Rh:OpR X (compareOp .IsNot) (rIs (!·)):=by
 intro fb s σ H x y v u Q I rx ry h;clear 5 h hy q;clear 5(NC rx ry hy)h1 h2;exact wpAny_isNot_plain h1 ⟨.bl _,H,I,by rw[h2];rfl,q⟩
theorem NZ{x y:V}{dx dy:D}(rx:Rep K c H x dx)(ry:Rep K c H y dy)(eq:isC dx dy t=some z):(y=.non\/∃b,y=.bl b)/\z=(.bl (decide (x=y)),t):=by
 cases ry with
 |non=>
   refine⟨.inl rfl,?_⟩
   cases rx<;>(cases eq;first|rfl|simp)
 |bl b=>
   refine⟨.inr ⟨b,rfl⟩,?_⟩
   cases rx<;>(cases eq;first|rfl|simp)
   next a=>cases a<;>cases b<;>rfl
 |_=>cases eq
theorem RJ:A6 K (rIs id) isC:=λ{Oo c t σ H x y dx dy r t' Q} f rx ry eq k=>by
 clear 5(NZ rx ry eq)h z
 cases z
 exact⟨h,k _ H c f .refl (.bl _)⟩
theorem RK:A6 K (rIs (!·)) GB:=λ{Oo c t σ H x y dx dy r t' Q} f rx ry eq k=>by
 clear 5(Ag eq)d t1 e1 eq;clear 5(NZ rx ry e1)h z
 cases z
 cases eq
 exact⟨h,k _ H c f .refl (.bl _)⟩
def ixD:D->D->M D
 |.lst ds,.int i=>λt=>(atI ds i).map λd=>(d,t)
 |.tup ds,.int i=>λt=>(atI ds i).map λd=>(d,t)
 |.scr ns,.int i=>λt=>(atI ns i).map λn=>(.int n,t)
 |.str x,.int i=>λt=>if x.length<=LIM then(atI x.cps.toList i).map λn=>(.str ⟨#[n]⟩,t) else none
 |.obj k,.int i=>λt=>match t.S[k]? with
   |some (.lst ds)=>(atI ds i).map λd=>(d,t)
   |_=>none
 |_,_=>fail
theorem GU{vs:List V}{ds:List D}{i:Int}{d:D}(r:Reps K c H vs ds)(h:atI ds i=some d):∃v,atI vs i=some v/\Rep K c H v d:=by
 unfold atI at h⊢;clear 5(Option.bind_eq_some_iff.mp h)j h1 h2;clear 5(r.at h2)v h3 h4;exact⟨v,by rw[r.length,h1];exact h3,h4⟩
theorem UV{α β:Type}(g:α->β)(xs:List α)(i:Int):atI (xs.map g) i=(atI xs i).map g:=by
 unfold atI;rw[uj1]
 cases ixN xs.length i with
 |none=>rfl
 |some j=>simp
theorem Yj{dx dy r:D}{t':T}(eq:ixD dx dy t=some (r,t')):∃i,dy=.int i/\((∃ds,dx=.lst ds)\/(∃ds,dx=.tup ds)\/(∃ns,dx=.scr ns)\/(∃z,dx=.str z)\/∃k,dx=.obj k):=by
 unfold ixD at eq
 split at eq
 .exact⟨_,rfl,.inl ⟨_,rfl⟩⟩
 .exact⟨_,rfl,.inr (.inl ⟨_,rfl⟩)⟩
 .exact⟨_,rfl,.inr (.inr (.inl ⟨_,rfl⟩))⟩
 .exact⟨_,rfl,.inr (.inr (.inr (.inl ⟨_,rfl⟩)))⟩
 .exact⟨_,rfl,.inr (.inr (.inr (.inr ⟨_,rfl⟩)))⟩
 .cases eq
theorem Zc:A6 K (rIx K) ixD:=λ{Oo c t σ H x y dx dy r t' Q} f rx ry eq k=>by
 clear 5(Yj eq)i rfl hd
 cases ry
 rcases hd with⟨ds,rfl⟩|⟨ds,rfl⟩|⟨ns,rfl⟩|⟨z,rfl⟩|⟨kk,rfl⟩
 .cases rx with
  |@lst a vs _ h1 h2 h3=>
    clear 5(uc2.mp eq)d e1 e2
    cases e2
    clear 5(GU h3 e1)v e3 e4;exact .inl ⟨a,vs,i,v,rfl,rfl,SqL.of h1,e3,k _ H c f .refl e4⟩
 .cases rx with
  |@tup a vs _ h1 h2 h3=>
    clear 5(uc2.mp eq)d e1 e2
    cases e2
    clear 5(GU h3 e1)v e3 e4;exact .inr (.inl ⟨a,vs,i,v,rfl,rfl,SqT.of h1,e3,k _ H c f .refl e4⟩)
 .cases rx with
  |@scr a _ h1=>
    clear 5(uc2.mp eq)n e1 e2
    cases e2
    exact .inl ⟨a,_,i,.int n,rfl,rfl,h1.sq,by rw[UV,e1];rfl,k _ H c f .refl (.int n)⟩
 .cases rx
  unfold ixD at eq;dsimp only at eq
  split at eq
  .next hl=>
   clear 5(uc2.mp eq)n e1 e2
   cases e2
   exact .inr (.inr ⟨z,i,n,rfl,rfl,um3 hl Da,e1,k _ H c f .refl (.str _)⟩)
  .cases eq
 .cases rx with
  |@obj a _ h1=>
    unfold ixD at eq;dsimp only at eq
    cases es:t.S[kk]? with
    |none=>rw[es] at eq;cases eq
    |some o=>
      rw[es] at eq
      cases o with
      |dct _|ins _ _=>cases eq
      |lst ds=>
        clear 5(uc2.mp eq)d e1 e2
        cases e2
        clear 5(f.s.obs kk a _ h1 es)vs g1 g2;clear 5(GU g2 e1)v e3 e4;exact .inl ⟨a,vs,i,v,rfl,rfl,SqL.of g1,e3,k _ H c f .refl e4⟩
end
variable{f:M D}{id:String}{R:List V->Hp->VK->Prop}{x:Str}{p:Pos}
section
variable{X:Cx}{e a b:Expr}{es:List Expr}{pos:Pos}
inductive RO(K:eh)(f:M (Option Int))(σ:L2.St)(H:Hp)(Q:Option Int->Hp->Prop):Prop where
 |mk (Oo:ff->Prop) (c:Cf) (t:T) (fi:FInv K Oo c t σ H) (r:Option Int) (t':T) (e:f t=some (r,t')) (k:∀H' c',FInv K Oo c' t' σ H'->Stp Oo c H c' H'->Q r H'):RO K f σ H Q
theorem P6{oe:Option Expr}{t t':TO}(h:PO X oe t)(i:∀σ H Q,t' σ H Q->t σ H Q):PO X oe t':=λfb s σ H Q I q=>h fb s σ H Q I (i σ H Q q)
def fNo:M (Option Int):=ret none
def asI:D->M (Option Int)
 |.int i=>ret (some i)
 |_=>fail
def Dm(f:M D):M (Option Int):=bnd f asI
theorem Vh:PO X none (RO X.K fNo):=P6 Wn λσ H Q z9=>by
 clear 5 z9 Oo c t fi r t' eq k
 cases eq
 exact k H c fi .refl
theorem Vi(h:PE X e (RE X.K f)):PO X (some e) (RO X.K (Dm f)):=P6 (Wo h) λσ H Q z9=>by
 clear 5 z9 Oo c t fi r t' eq k;clear 5(Ag eq)d t1 e1 eq;refine⟨Oo,c,t,fi,d,t1,e1,λv H1 c1 f1 s1 rv=>?_⟩
 cases rv with
 |int i=>cases eq;exact⟨i,rfl,k H1 c1 f1 s1⟩
 |_=>cases eq
def OK(K:eh)(R:V->Option Int->Option Int->Hp->VK->Prop)(h:D->Option Int->Option Int->M D):Prop:=∀{Oo:ff->Prop}{c:Cf}{t:T}{σ:L2.St}{H:Hp}{x:V}{dx r:D}{lo hi:Option Int}{t':T}{Q:VK},FInv K Oo c t σ H->Rep K c H x dx->h dx lo hi t=some (r,t')->
 (∀v H' c',FInv K Oo c' t' σ H'->Stp Oo c H c' H'->Rep K c' H' v r->Q v H')->R x lo hi H Q
def fSl(f:M D)(l u:M (Option Int))(h:D->Option Int->Option Int->M D):M D:=bnd f λx=>bnd l λlo=>bnd u λhi=>h x lo hi
theorem Mn{R:V->Option Int->Option Int->Hp->VK->Prop}{h:D->Option Int->Option Int->M D}{l u:M (Option Int)}{lo hi:Option Expr}{p2:Pos}(hr:SlR X R)(s:OK X.K R h)(he:PE X e (RE X.K f))(hl:PO X lo (RO X.K l))(hu:PO X hi (RO X.K u)):PE X (.Subscript e (.Slice lo hi none p2) pos) (RE X.K (fSl f l u h)):=
 AI (TH hr he hl hu) λσ H Q z9=>by
  clear 5 z9 Oo c t fi r t' eq k;clear 5(Ag eq)d t1 e1 eq;clear 5(Ag eq)ol t2 e2 eq;clear 5(Ag eq)oh t3 e3 eq;exact⟨Oo,c,t,fi,d,t1,e1,λv H1 c1 f1 s1 rv=>⟨Oo,c1,t1,f1,ol,t2,e2,λH2 c2 f2 s2=>⟨Oo,c2,t2,f2,oh,t3,e3,λH3 c3 f3 s3=>
   s f3 (rv.mono (s2.trans s3).ext) eq λv H' c' f' s' rv'=>k v H' c' f' (((s1.trans s2).trans s3).trans s') rv'⟩⟩⟩
def Bp{α:Type}(xs:List α)(lo hi:Option Int):List α:=(xs.drop (HT.sIx xs.length 0 lo)).take (HT.sIx xs.length xs.length hi-HT.sIx xs.length 0 lo)
def slD:D->Option Int->Option Int->M D
 |.lst ds,lo,hi=>ret (.lst (Bp ds lo hi))
 |.scr ns,lo,hi=>ret (.lst ((Bp ns lo hi).map .int))
 |.tup ds,lo,hi=>λt=>if HT.sIx ds.length 0 lo=0/\HT.sIx ds.length ds.length hi=ds.length then none else some (.tup (Bp ds lo hi),t)
 |_,_,_=>fail
theorem Hi{K:eh}{vs:List V}{ds:List D}(r:Reps K c H vs ds)(lo hi:Option Int):Reps K c H (GZ vs lo hi) (Bp ds lo hi):=by
 unfold GZ Bp;rw[r.length];exact(r.drop _).take _
theorem SJ{α β:Type}(g:α->β)(xs:List α)(lo hi:Option Int):Bp (xs.map g) lo hi=(Bp xs lo hi).map g:=by
 unfold Bp;rw[uj1,List.map_take,List.map_drop]
theorem Qi(ns:List Int)(lo hi:Option Int):GZ (ns.map V.int) lo hi=(Bp ns lo hi).map V.int:=SJ V.int ns lo hi
def TV(K:eh):V->Option Int->Option Int->Hp->VK->Prop:=λx lo hi H Q=>Y4 K x lo hi H Q\/Y6 K x lo hi H Q
theorem sl2:SlR X (TV X.K):=sl_list.or Zf
theorem Zd{K:eh}:OK K (TV K) slD:=λ{Oo c t σ H x dx r lo hi t' Q} f rx eq k=>by
 cases rx with
 |@lst p vs ds h1 h2 h3=>
   cases eq
   exact .inl ⟨p,vs,rfl,SqL.of h1,λq hq=>k _ _ c (f.laid hq) (f.stp_laid hq) (.lst AJ (f.s.free hq) ((Hi h3 lo hi).mono (Ext.laid f.s hq)))⟩
 |@scr p ns h1=>
   cases eq
   refine .inl ⟨p,_,rfl,h1.sq,λq hq=>k _ _ c (f.laid hq) (f.stp_laid hq) (.lst AJ (f.s.free hq) ?_)⟩;rw[Qi];exact Reps.ints _
 |@tup p vs ds h1 h2 h3=>
   unfold slD at eq;dsimp only at eq
   split at eq
   .cases eq
   .next hn=>
    cases eq
    exact .inr ⟨p,vs,rfl,SqT.of h1,by rw[h3.length];exact hn,λq hq=>k _ _ c (f.laid hq) (f.stp_laid hq) (.tup AJ (f.s.free hq) ((Hi h3 lo hi).mono (Ext.laid f.s hq)))⟩
 |_=>cases eq
theorem bE{h:List D->M D}{f:M (List D)}(hc:Co X (.builtin id) R)(s:E9 X.K R h)(hg:Gl X x)(hm:X.mg x=none)(hv:bootBuiltins x=some (.builtin id))(ha:PA X (e::es) (RA X.K f))(hn:x≠"__name__":=by decide)(hdb:(x==("__debug__":Str))=false:=by decide)
 (he:starEach (e::es) X.env=(false,eval e X.env)::starEach es X.env:=by rfl) (hpl:(backTo pos (starEach es X.env)).any (·.1)=false:=by rfl):PE X (.Call (.Name x p) (e::es) [] pos) (RE X.K (fB f h)):=
 AI (MR hc hg hm hv ha hn hdb he hpl) λ_ _ _ q=>RE.callB s q
theorem bF{h:List D->M D}{f:M (List D)}(hc:Co X (.type id) R)(s:E9 X.K R h)(hg:Gl X x)(hm:X.mg x=none)(hv:bootBuiltins x=some (.type id))(ha:PA X (e::es) (RA X.K f))(hn:x≠"__name__":=by decide)(hdb:(x==("__debug__":Str))=false:=by decide)
 (he:starEach (e::es) X.env=(false,eval e X.env)::starEach es X.env:=by rfl) (hpl:(backTo pos (starEach es X.env)).any (·.1)=false:=by rfl):PE X (.Call (.Name x p) (e::es) [] pos) (RE X.K (fB f h)):=
 AI (Ll hc hg hm hv ha hn hdb he hpl) λ_ _ _ q=>RE.callB s q
theorem bG{h:List D->M (List D)}{f:M (List D)}(hc:Co X (.type id) R)(s:LC X.K R h)(hg:Gl X x)(hm:X.mg x=none)(hv:bootBuiltins x=some (.type id))(ha:PA X (e::es) (RA X.K f))(hn:x≠"__name__":=by decide)(hdb:(x==("__debug__":Str))=false:=by decide)
 (he:starEach (e::es) X.env=(false,eval e X.env)::starEach es X.env:=by rfl) (hpl:(backTo pos (starEach es X.env)).any (·.1)=false:=by rfl):PE X (.Call (.Name x p) (e::es) [] pos) (RF X.K (fBF f h)):=
 AI (Ll hc hg hm hv ha hn hdb he hpl) λ_ _ _ q=>RF.callB s q
theorem UB{op:Operator}{R:R2}{g:M D}{h:D->D->M (List D)}(ho:OpR X (binaryOp op) R)(s:LB X.K R h)(ha:PE X a (RE X.K f))(hb:PE X b (RE X.K g)):PE X (.BinOp a op b pos) (RF X.K (bnd f λx=>bnd g λy=>h x y)):=
 AI (Pn ho ha hb) λ_ _ _ q=>RF.two s q
end
section
variable{K:eh}
theorem Fq{xs:List V}{d:D}(r:Reps K c H xs [d]):∃v,xs=[v]/\Rep K c H v d:=by
 cases r with
 |cons r rs=>cases rs;exact⟨_,rfl,r⟩
theorem Pz{xs:List V}{d e:D}(r:Reps K c H xs [d,e]):∃v u,xs=[v,u]/\Rep K c H v d/\Rep K c H u e:=by
 cases r with
 |cons r rs=>
   clear 5(Fq rs)u rfl q;exact⟨_,u,rfl,r,q⟩
def Az:List D->M D
 |[.lst ds]=>ret (.int ds.length)
 |[.tup ds]=>ret (.int ds.length)
 |[.scr ns]=>ret (.int ns.length)
 |[.str x]=>lim x.length (.int x.length)
 |[.obj k]=>λt=>match t.S[k]? with
   |some (.lst ds)=>some (.int ds.length,t)
   |_=>none
 |_=>fail
theorem WK:E9 K (λxs H Q=>∃x n,xs=[x]/\Xs K x H n/\Q (.int n) H) Az:=λ{Oo c t σ H xs ds r t' Q} f rx eq k=>by
 match ds,rx,eq with
 |[],_,eq=>cases eq
 |d0::_::_,_,eq=>cases d0<;>cases eq
 |[d],rx,eq=>
   clear 5(Fq rx)v rfl rv
   cases rv with
   |@lst a vs ds h1 h2 h3=>cases eq;exact⟨_,ds.length,rfl,.inl ⟨vs,SqL.of h1,h3.length.symm⟩,k _ H c f .refl (.int _)⟩
   |@tup a vs ds h1 h2 h3=>cases eq;exact⟨_,ds.length,rfl,.inr ⟨vs,SqT.of h1,h3.length.symm⟩,k _ H c f .refl (.int _)⟩
   |@scr a ns h1=>cases eq;exact⟨_,ns.length,rfl,.inl ⟨_,h1.sq,by simp⟩,k _ H c f .refl (.int _)⟩
   |str x=>
     clear 5(D8 eq)hl z
     cases z
     exact⟨_,x.length,rfl,⟨um3 hl Da,rfl⟩,k _ H c f .refl (.int _)⟩
   |@obj a kk h1=>
     unfold Az at eq;dsimp only at eq
     cases es:t.S[kk]? with
     |none=>rw[es] at eq;cases eq
     |some o=>
       rw[es] at eq
       cases o with
       |dct _|ins _ _=>cases eq
       |lst ds=>
         cases eq
         clear 5(f.s.obs kk a _ h1 es)vs g1 g2;exact⟨_,ds.length,rfl,.inl ⟨vs,SqL.of g1,g2.length.symm⟩,k _ H c f .refl (.int _)⟩
   |_=>cases eq
noncomputable def tyD:D->Option String
 |.non=>some "NoneType"
 |.bl _=>some "bool"
 |.int _=>some "int"
 |.str _=>some "str"
 |.lst _=>some "list"
 |.tup _=>some "tuple"
 |.dic=>some "dict"
 |_=>none
noncomputable def FL(n m:String):Option Bool:=match m with
 | "int"=>some (n == "int" || n == "bool")
 | "bool"=>some (n == "bool")
 | "str"=>some (n == "str")
 | "list"=>some (n == "list")
 | "tuple"=>some (n == "tuple")
 | "dict"=>some (n == "dict")
 |_=>none
def CD:List D->M D
 |[d,.ty m]=>λt=>match tyD d with
   |some n=>(FL n m).map λb=>(.bl b,t)
   |none=>none
 |_=>fail
theorem Vy{d:D}{n m:String}{b:Bool}(h1:tyD d=some n)(h2:FL n m=some b):PySem.W.kitOne K (.type n) (.type m)=some b:=by
 have hm:m = "int"\/m = "bool"\/m = "str"\/m = "list"\/m = "tuple"\/m = "dict":=by
  unfold FL at h2
  split at h2<;>simp_all
 have hn:n = "NoneType"\/n = "bool"\/n = "int"\/n = "str"\/n = "list"\/n = "tuple"\/n = "dict":=by
  cases d<;>simp[tyD] at h1<;>simp[<-h1]
 rcases hm with rfl|rfl|rfl|rfl|rfl|rfl<;>rcases hn with rfl|rfl|rfl|rfl|rfl|rfl|rfl<;>(cases h2;rfl)
def YZ(K:eh):List V->Hp->VK->Prop:=λxs H Q=>∃x n t b,xs=[x,.ty n]/\TyOf K H x t/\PySem.W.kitOne K t (.type n)=some b/\Q (.bl b) H
theorem SG:Co X (.builtin "isinstance") (YZ X.K):=by
 intro fb s σ H xs us Q I r h;clear 5 h x n t b rfl ty e q;clear 5(PP r)u w' rfl rx rt
 cases rt
 exact QN I rx ty e λtk=>⟨.bl b,H,I.tok tk,rfl,q⟩
theorem WJ:E9 K (YZ K) CD:=λ{Oo c t σ H xs ds r t' Q} f rx eq k=>by
 unfold CD at eq
 split at eq
 .next d m=>
  clear 5(Pz rx)v u rfl rv ru
  cases ru
  cases et:tyD d with
  |none=>rw[et] at eq;cases eq
  |some n=>
    rw[et] at eq;clear 5(uc2.mp eq)b e1 e2
    cases e2
    refine⟨v,m,.type n,b,rfl,?_,Vy et e1,k _ H c f .refl (.bl b)⟩
    cases rv<;>first|(cases et;first|exact .non|exact .bl _|exact .int _|exact .str _|exact .lst ‹_› | exact .tup ‹_› | exact .dK ‹_›)|cases et
 .cases eq
def KZ:List D->M D
 |[.lst ds]=>ret (.tup ds)
 |[.tup ds]=>ret (.tup ds)
 |[.obj k]=>λt=>match t.S[k]? with
   |some (.lst ds)=>some (.tup ds,t)
   |_=>none
 |_=>fail
theorem WW:E9 K (λxs H Q=>∃p ys,xs=[.ref p]/\((SqL K H p ys/\∀l,H l=none->Q (.ref l) (upd H l (.tup ys)))\/(SqT K H p ys/\Q (.ref p) H))) KZ:=λ{Oo c t σ H xs ds r t' Q} f rx eq k=>by
 match ds,rx,eq with
 |[],_,eq=>cases eq
 |d0::_::_,_,eq=>cases d0<;>cases eq
 |[d],rx,eq=>
   clear 5(Fq rx)v rfl rv
   cases rv with
   |@lst a vs ds h1 h2 h3=>cases eq;exact⟨a,vs,rfl,.inl ⟨SqL.of h1,λq hq=>k _ _ c (f.laid hq) (f.stp_laid hq) (.tup AJ (f.s.free hq) (h3.mono (Ext.laid f.s hq)))⟩⟩
   |@tup a vs ds h1 h2 h3=>cases eq;exact⟨a,vs,rfl,.inr ⟨SqT.of h1,k _ H c f .refl (.tup h1 h2 h3)⟩⟩
   |@obj a kk h1=>
     unfold KZ at eq;dsimp only at eq
     cases es:t.S[kk]? with
     |none=>rw[es] at eq;cases eq
     |some o=>
       rw[es] at eq
       cases o with
       |dct _|ins _ _=>cases eq
       |lst ds=>
         cases eq
         clear 5(f.s.obs kk a _ h1 es)vs g1 g2;exact⟨a,vs,rfl,.inl ⟨SqL.of g1,λq hq=>k _ _ c (f.laid hq) (f.stp_laid hq) (.tup AJ (f.s.free hq) (g2.mono (Ext.laid f.s hq)))⟩⟩
   |_=>cases eq
def FM:List D->M (List D)
 |[.lst ds]=>ret ds
 |[.tup ds]=>ret ds
 |[.scr ns]=>ret (ns.map .int)
 |[.obj k]=>λt=>match t.S[k]? with
   |some (.lst ds)=>some (ds,t)
   |_=>none
 |_=>fail
theorem WL:LC K (λxs H Q=>∃p ys,xs=[.ref p]/\(SqL K H p ys\/SqT K H p ys)/\∀l,H l=none->Q (.ref l) (upd H l (.lst ys))) FM:=λ{Oo c t σ H xs ds r t' Q} f rx eq k=>by
 match ds,rx,eq with
 |[],_,eq=>cases eq
 |d0::_::_,_,eq=>cases d0<;>cases eq
 |[d],rx,eq=>
   clear 5(Fq rx)v rfl rv
   cases rv with
   |@lst a vs ds h1 h2 h3=>cases eq;exact⟨a,vs,rfl,.inl (SqL.of h1),λq hq=>k q vs H c f .refl h3 hq⟩
   |@tup a vs ds h1 h2 h3=>cases eq;exact⟨a,vs,rfl,.inr (SqT.of h1),λq hq=>k q vs H c f .refl h3 hq⟩
   |@scr a ns h1=>cases eq;exact⟨a,_,rfl,.inl h1.sq,λq hq=>k q _ H c f .refl (Reps.ints ns) hq⟩
   |@obj a kk h1=>
     unfold FM at eq;dsimp only at eq
     cases es:t.S[kk]? with
     |none=>rw[es] at eq;cases eq
     |some o=>
       rw[es] at eq
       cases o with
       |dct _|ins _ _=>cases eq
       |lst ds=>
         cases eq
         clear 5(f.s.obs kk a _ h1 es)vs g1 g2;exact⟨a,vs,rfl,.inl (SqL.of g1),λq hq=>k q vs H c f .refl g2 hq⟩
   |_=>cases eq
def HQ:List D->M D
 |[.int i]=>ret (.int i)
 |[.bl b]=>ret (.int (if b then 1 else 0))
 |_=>fail
theorem WI:E9 K (λxs H Q=>(∃i,xs=[.int i]/\Q (.int i) H)\/∃k,xs=[.bl k]/\Q (.int (if k then 1 else 0)) H) HQ:=λ{Oo c t σ H xs ds r t' Q} f rx eq k=>by
 match ds,rx,eq with
 |[],_,eq=>cases eq
 |d0::_::_,_,eq=>cases d0<;>cases eq
 |[d],rx,eq=>
   clear 5(Fq rx)v rfl rv
   cases rv with
   |int i=>cases eq;exact .inl ⟨i,rfl,k _ H c f .refl (.int _)⟩
   |bl b=>cases eq;exact .inr ⟨b,rfl,k _ H c f .refl (.int _)⟩
   |_=>cases eq
def bB:List D->M D
 |[.int i]=>ret (.int (if i<0 then -i else i))
 |_=>fail
def FU:List D->M D
 |[.int i,.int j]=>ret (.int (if j<i then j else i))
 |_=>fail
def KI:List D->M D
 |[.int i,.int j]=>ret (.int (if j > i then j else i))
 |_=>fail
theorem WO:E9 K (λxs H Q=>∃i j,xs=[.int i,.int j]/\Q (.int (if j<i then j else i)) H) FU:=λ{Oo c t σ H xs ds r t' Q} f rx eq k=>by
 unfold FU at eq
 split at eq
 .next i j=>
  clear 5(Pz rx)v u rfl rv ru
  cases rv;cases ru;cases eq
  exact⟨i,j,rfl,k _ H c f .refl (.int _)⟩
 .cases eq
theorem WN:E9 K (λxs H Q=>∃i j,xs=[.int i,.int j]/\Q (.int (if j > i then j else i)) H) KI:=λ{Oo c t σ H xs ds r t' Q} f rx eq k=>by
 unfold KI at eq
 split at eq
 .next i j=>
  clear 5(Pz rx)v u rfl rv ru
  cases rv;cases ru;cases eq
  exact⟨i,j,rfl,k _ H c f .refl (.int _)⟩
 .cases eq
def Ib:List D->M D
 |[.str x]=>λt=>if x.length=1 then some (.int (x.cps.getD 0 0:Nat),t) else none
 |_=>fail
theorem WR:E9 K (λxs H Q=>∃x,xs=[.str x]/\x.length=1/\Q (.int (x.cps.getD 0 0:Nat)) H) Ib:=λ{Oo c t σ H xs ds r t' Q} f rx eq k=>by
 match ds,rx,eq with
 |[],_,eq=>cases eq
 |d0::_::_,_,eq=>cases d0<;>cases eq
 |[d],rx,eq=>
   clear 5(Fq rx)v rfl rv
   cases rv with
   |str x=>
     unfold Ib at eq;dsimp only at eq
     split at eq
     .next h=>cases eq;exact⟨x,rfl,h,k _ H c f .refl (.int _)⟩
     .cases eq
   |_=>cases eq
end
end
open AutoSeq1 (wpAny_loadPart')
open AutoSeq1 (wpAny_loadPart')
theorem MtM.or{X:Cx}{id:String}{r r':V->List V->Hp->VK->Prop}(h:MtM X id r)(h':MtM X id r'):MtM X id (λx xs H Q=>r x xs H Q\/r' x xs H Q):=by
 intro fb s σ H x xs v us Q I rx rv q;rcases q with q|q
 .exact h fb s σ H x xs v us Q I rx rv q
 .exact h' fb s σ H x xs v us Q I rx rv q
section
variable{X:Cx}{a b c d:Expr}{ta tb tc td:TE}{pos:Pos}
end
section
variable{K:eh}
def AC(x y:D):M D:=Xv x y
def UI(K:eh):R2:=Ps K
theorem N7{X:Cx}:OpR X (binaryOp .Add) (UI X.K):=V4
theorem M4:A6 K (UI K) AC:=WG
def Tt:D->D->M D
 |.int i,.int j=>λt=>if Fp i j=true then some (.int (i*j),t) else none
 |_,_=>fail
def Pu(K:eh):R2:=rI CMul (λi j=>.int (i*j))
theorem op_mul3{X:Cx}:OpR X (binaryOp .Mult) (Pu X.K):=YA
theorem WQ:A6 K (Pu K) Tt:=λ{Oo c t σ H x y dx dy r t' Q} f rx ry eq k=>by
 cases rx with
 |int i=>
   cases ry with
   |int j=>
     unfold Tt at eq;dsimp only at eq
     split at eq
     .next h=>cases eq;exact⟨i,j,rfl,rfl,Q2 h,k _ H c f .refl (.int _)⟩
     .cases eq
   |_=>cases eq
 |_=>cases eq
end
section
variable{K:eh}{μ:Cf->Hp->D->(V->Hp->Prop)->Prop}
section
variable{X:Cx}{e a b:Expr}{pos:Pos}
def Cd(xs:List D):List D->Option (List D)
 |[d]=>if xs.length<LIM then some (xs++[d]) else none
 |_=>none
def Fb(xs:List D):List D->Option (List D)
 |[.lst ys]=>if xs.length+ys.length<=LIM then some (xs++ys) else none
 |_=>none
def ownM(i:Nat)(h:List D->List D->Option (List D))(g:M (List D)):M Out:=λt=>match t.env[i]? with
 | some (some (.own _))=>bnd g (λds t1=>match t1.env[i]? with
   |some (some (.own xs))=>(h xs ds).map λys=>(.next,{t1 with env:=t1.env.set i (some (.own ys))})
   |_=>none) t
 |_=>none
def OL(K:eh)(R:V->List V->Hp->VK->Prop)(h:List D->List D->Option (List D)):Prop:=∀{c:Cf}{S:List Ob}{H:Hp}{a:ff}{vs us:List V}{xs ds ys:List D}{Q:VK},SInv K c S H->H a=some (.lst vs)->Reps K c H vs xs->Reps K c H us ds->h xs ds=some ys->
 (∀ws,Reps K c H ws ys->Q .non (upd H a (.lst ws)))->R (.ref a) us H Q
theorem On:OL K Og Cd:=λ{c S H a vs us xs ds ys Q} s h r rs e k=>by
 unfold Cd at e
 split at e
 .next d=>
  split at e
  .next hl=>
   cases e
   clear 5(Fq rs)v rfl rv;exact⟨a,vs,v,rfl,rfl,h,by rw[r.length];exact uf0 hl Da,k _ (r.append (.cons rv .nil))⟩
  .cases e
 .cases e
def UJ(K:eh):V->List V->Hp->VK->Prop:=Oh
theorem N3{X:Cx}:MtM X "list.extend" (UJ X.K):=Q1
theorem Op:OL K (UJ K) Fb:=λ{c S H a vs us xs ds ys Q} s h r rs e k=>by
 unfold Fb at e
 split at e
 .split at e
  .next hl=>
   cases e
   clear 5(Fq rs)v rfl rv
   cases rv with
   |lst h1 h2 h3=>exact⟨a,_,vs,_,rfl,rfl,h,h1,by rw[r.length,h3.length];exact um3 hl Da,k _ (r.append h3)⟩
  .cases e
 .cases e
theorem RS.ownM{μ:Cf->Hp->D->(V->Hp->Prop)->Prop}{K:eh}{i:Nat}{h:List D->List D->Option (List D)}{g:M (List D)}{R:V->List V->Hp->VK->Prop}(s:OL K R h){E:Ends}{σ:L2.St}{H:Hp}(q:RSg K μ (L2.ownM i h g) E σ H):UO (tBM K "list" R (Zm i) (RA K g)) E σ H:=by
 clear 5 q Oo c t fi o t' eq k;unfold L2.ownM at eq
 split at eq
 .next xs0 e0=>
  clear 5(Ag eq)ds t1 e1 eq;clear 5(fi.own i xs0 e0)a vs0 h1 h2 h3 h4 h5;refine⟨.ref a,h1,.inl ⟨rfl,vs0,SqL.of h4⟩,Oo,c,t,fi,ds,t1,e1,λus H1 c1 f1 s1 rus=>?_⟩
  split at eq
  .next xs ex=>
   clear 5(uc2.mp eq)ys ey ez
   cases ez
   clear 5(f1.own i xs ex)a' vs g1 g2 g3 g4 g5;rw[h1] at g1;injection g1 with g1;injection g1 with g1;injection g1 with g1;subst g1
   refine s f1.s g4 g5 rus ey λws rws=>?_;clear 5(f1.wrOwn ex h1 rws)f2 s2;exact k σ _ c1 f2 (s1.trans s2)
  .cases eq
 .cases eq
theorem Qy(i:Nat){x:Str}{es:List Expr}{g:M (List D)}{px apos cpos:Pos}(ha:PA X (e::es) (RA X.K g))(hN:X.N[i]?=some x:=by rfl)(hv:Vis X.env.scope x:=by walk_at"h")(hd:(x==("__debug__":Str))=false:=by decide)
 (hcd:(x==("__classdict__":Str))=false:=by decide)
 (hbase:attributeBase (.Name x px) "append" X.env (eval (.Name x px) X.env)=eval (.Name x px) X.env:=by rfl)
 (hfew:((backTo cpos (starEach (e::es) X.env)).all (λx=>!x.1)&&(backToKw cpos (keywordEach [] X.env)).all (λx=>x.1.isSome)&&decide ((e::es).length+([]:List Keyword).length+(if ([]:List Keyword).isEmpty then 0 else 1)<30))=true:=by rfl)
 (hline:(apos.endLine==cpos.line)=true:=by rfl) (hs:starEach (e::es) X.env=(false,eval e X.env)::starEach es X.env:=by rfl) (hplain:(backTo cpos (starEach es X.env)).any (·.1)=false:=by rfl) :
 PS X (.Expr (.Call (.Attribute (.Name x px) "append" apos) (e::es) [] cpos) pos) (RSg X.K μ (ownM i Cd g)):=
 A5 (KM (JW ub5 ft fu Lk (E4 hN hv hd hcd) ha hbase hfew hline hs hplain)) λ_ _ _ q=>RS.ownM On q
theorem Qz(i:Nat){x:Str}{es:List Expr}{g:M (List D)}{px apos cpos:Pos}(ha:PA X (e::es) (RA X.K g))(hN:X.N[i]?=some x:=by rfl)(hv:Vis X.env.scope x:=by walk_at"h")(hd:(x==("__debug__":Str))=false:=by decide)
 (hcd:(x==("__classdict__":Str))=false:=by decide)
 (hbase:attributeBase (.Name x px) "extend" X.env (eval (.Name x px) X.env)=eval (.Name x px) X.env:=by rfl)
 (hfew:((backTo cpos (starEach (e::es) X.env)).all (λx=>!x.1)&&(backToKw cpos (keywordEach [] X.env)).all (λx=>x.1.isSome)&&decide ((e::es).length+([]:List Keyword).length+(if ([]:List Keyword).isEmpty then 0 else 1)<30))=true:=by rfl)
 (hline:(apos.endLine==cpos.line)=true:=by rfl) (hs:starEach (e::es) X.env=(false,eval e X.env)::starEach es X.env:=by rfl) (hplain:(backTo cpos (starEach es X.env)).any (·.1)=false:=by rfl) :
 PS X (.Expr (.Call (.Attribute (.Name x px) "extend" apos) (e::es) [] cpos) pos) (RSg X.K μ (ownM i Fb g)):=
 A5 (KM (JW ub5 fv fx N3 (E4 hN hv hd hcd) ha hbase hfew hline hs hplain)) λ_ _ _ q=>RS.ownM Op q
def objM(h:List D->List D->Option (List D))(f:M D)(g:M (List D)):M D:=bnd f λo=>match o with
 |.obj k=>λt=>match t.S[k]? with
   | some (.lst _)=>bnd g (λds t1=>match t1.S[k]? with
     |some (.lst xs)=>(h xs ds).map λys=>(.non,{t1 with S:=t1.S.set k (.lst ys)})
     |_=>none) t
   |_=>none
 |_=>fail
theorem RE.objM{K:eh}{h:List D->List D->Option (List D)}{f:M D}{g:M (List D)}{R:V->List V->Hp->VK->Prop}(s:OL K R h){σ:L2.St}{H:Hp}{Q:VK}(q:RE K (L2.objM h f g) σ H Q):tBM K "list" R (RE K f) (RA K g) σ H Q:=by
 clear 5 q Oo c t fi r t' eq k;clear 5(Ag eq)o t0 e0 eq;refine⟨Oo,c,t,fi,o,t0,e0,λx H0 c0 f0 s0 rx=>?_⟩
 cases rx with
 |@obj a kk hk=>
   dsimp only at eq
   split at eq
   .next xs0 ex0=>
    clear 5(Ag eq)ds t1 e1 eq;clear 5(f0.s.obs kk a _ hk ex0)vs0 g0 g0';refine⟨.inl ⟨rfl,vs0,SqL.of g0⟩,Oo,c0,t0,f0,ds,t1,e1,λus H1 c1 f1 s1 rus=>?_⟩
    split at eq
    .next xs ex=>
     clear 5(uc2.mp eq)ys ey ez
     cases ez
     have hk1:=s1.ext.io _ _ hk;clear 5(f1.s.obs kk a _ hk1 ex)vs g1 g2;refine s f1.s g1 g2 rus ey λws rws=>?_;obtain⟨f2,s2⟩:=f1.wrObj (o:=.lst ys) (u:=.lst ws) hk1 λc' H' ext hu=>⟨ws,hu,rws.mono ext⟩;exact k _ _ c1 f2 ((s0.trans s1).trans s2) .non
    .cases eq
   .cases eq
 |_=>cases eq
theorem Qo{o:Expr}{es:List Expr}{f:M D}{g:M (List D)}{apos cpos:Pos}(ho:PE X o (RE X.K f))(ha:PA X (e::es) (RA X.K g))
 (hbase:attributeBase o "append" X.env (eval o X.env)=eval o X.env:=by rfl)
 (hfew:((backTo cpos (starEach (e::es) X.env)).all (λx=>!x.1)&&(backToKw cpos (keywordEach [] X.env)).all (λx=>x.1.isSome)&&decide ((e::es).length+([]:List Keyword).length+(if ([]:List Keyword).isEmpty then 0 else 1)<30))=true:=by rfl)
 (hline:(apos.endLine==cpos.line)=true:=by rfl) (hs:starEach (e::es) X.env=(false,eval e X.env)::starEach es X.env:=by rfl) (hplain:(backTo cpos (starEach es X.env)).any (·.1)=false:=by rfl) :
 PE X (.Call (.Attribute o "append" apos) (e::es) [] cpos) (RE X.K (objM Cd f g)):=
 AI (JW ub5 ft fu Lk ho ha hbase hfew hline hs hplain) λ_ _ _ q=>RE.objM On q
def F5(o i d:D):M Unit:=match o,i with
 |.obj k,.int j=>λt=>match t.S[k]? with
   |some (.lst xs)=>(ixN xs.length j).map λn=>((),{t with S:=t.S.set k (.lst (xs.set n d))})
   |_=>none
 |_,_=>fail
def stD(f g:M D)(d:D):M Unit:=bnd f λo=>bnd g λi=>F5 o i d
theorem XY{o i:Expr}{f g:M D}(ho:PE X o (RE X.K f))(hi:PE X i (RE X.K g))
 (ha:∀v,assign (.Subscript o i pos) X.env v=(do
   let ov <-holding [v] (eval o X.env)
   let iv <-holding [v,ov] (eval i X.env)
   standAt pos
   holding [v,ov,iv] (setItem ov iv v)
   release [v,ov,iv] []):=by intro _;rfl):PG X (.Subscript o i pos) (RG X.K (stD f g)):=
 Gy (MS ho hi M6 ha) λv σ H Q z9=>by
  clear 5 z9 Oo c t d fi rv t' eq k;clear 5(Ag eq)d0 t1 e1 eq;clear 5(Ag eq)di t2 e2 eq;refine⟨Oo,c,t,fi,_,t1,e1,λx H1 c1 f1 s1 rx=>⟨Oo,c1,t1,f1,di,t2,e2,λy H2 c2 f2 s2 ry=>?_⟩⟩;unfold F5 at eq
  split at eq
  .cases ry with
   |int j=>
   cases rx with
   |@obj a kk hk=>
     split at eq
     .next xs ex=>
      clear 5(uc2.mp eq)n en ez
      cases ez
      have hk2:=s2.ext.io _ _ hk;clear 5(f2.s.obs _ a _ hk2 ex)vs g1 g2;refine⟨a,vs,_,n,rfl,rfl,g1,by rw[g2.length];exact en,?_⟩;have rv2:=rv.mono (s1.trans s2).ext;obtain⟨f3,s3⟩:=f2.wrObj (o:=.lst (xs.set n d)) (u:=.lst (vs.set n v)) hk2 λc' H' ext hu=>⟨_,hu,(Reps.set rv2 n g2).mono ext⟩;exact k σ _ c2 f3 ((s1.trans s2).trans s3)
     .cases eq
  .cases eq
end
variable{H:Hp}
section
variable{X:Cx}{e a b tg iter elt:Expr}{ifs:List Expr}{pos:Pos}{scope:Scope}{N':List Str}{n:Nat}{fr:List Nat}{f:M (List D)}{st:D->M Unit}{tst:M Bool}{el:M D}
def B4:M Bool:=ret true
theorem Vb:PIf X [] (RT X.K B4):=λfb s σ H Q I z9=>by
 clear 5 z9 Oo c t fi r t' eq k;exact Wk fb s σ H Q I (by cases eq;exact k H c fi .refl)
theorem Vc{g:M Bool}(h:PT X e (RT X.K g)):PIf X [e] (RT X.K g):=Wl h
theorem Ei(O:CmpOk X scope N' (FI n fr))(hc:X.calm=true)(hi:PI X tg iter (RI X.K f))
 (hg:∀cl C s2 H2 fp,PG (BX X N' scope cl C s2 H2 fp) tg (RG X.K st)) (ht:∀cl C s2 H2 fp,PIf (BX X N' scope cl C s2 H2 fp) ifs (RT X.K tst)) (he:∀cl C s2 H2 fp,PE (BX X N' scope cl C s2 H2 fp) elt (RE X.K el))
 (hs:∀x,foldedSetIterable iter X.env x=pure x:=by intro _;rfl):PE X (.ListComp elt [⟨tg,iter,ifs,0⟩] scope pos) (RF X.K (AU n fr f st tst el)):=
 AI (Wc O hc hi hg ht he hs) λ_ _ _ q=>RF.comp q
theorem RF.ofPure{f:M (List D)}{σ:L2.St}{Q:VK}(q:RE K (Ax f) σ H Q):RF K f σ H Q:=by
 clear 5 q Oo c t fi r t' eq k;clear 5(Ag eq)ds t1 e1 eq
 cases eq
 exact⟨Oo,c,t,fi,ds,_,e1,λp xs H1 c1 f1 s1 rxs hp=>k _ _ c1 (f1.laid hp) (s1.trans (f1.stp_laid hp)) (.lst AJ (f1.s.free hp) (rxs.mono (Ext.laid f1.s hp)))⟩
theorem NX{i:Nat}{y:Str}{py spos:Pos}(O:CmpOk X scope N' (FI n fr))(hc:X.calm=true)(hN:X.N.Nodup)(hiN:X.N[i]?=some y)(hx:X.env.scope.names.lookup y=some .local)(hi:PI X tg iter (RI X.K f))
 (hg:∀cl C s2 H2 fp,PG (BX X N' scope cl C s2 H2 fp) tg (RG X.K st)) (ht:∀cl C s2 H2 fp,PIf (BX X N' scope cl C s2 H2 fp) ifs (RT X.K tst)) (he:∀cl C s2 H2 fp,PE (BX X N' scope cl C s2 H2 fp) elt (RE X.K el))
 (hsw:swapsWith (.ListComp elt [⟨tg,iter,ifs,0⟩] scope pos) (some (.Name y py)) spos.line X.env=pure true:=by rfl)
 (hs:∀x,foldedSetIterable iter X.env x=pure x:=by intro _;rfl):PS X (.Assign [.Name y py] (.ListComp elt [⟨tg,iter,ifs,0⟩] scope pos) spos) (RSg X.K μ (Ao i (Ax (AU n fr f st tst el)))):=
 A5 (Oc O hc hN hiN hx hi hg ht he hsw hs) λE σ H q=>RF.comp (RF.ofPure (RS.set q))
theorem U0(tgs:List Str)(frn:List (Nat×Str))(hk:scope.kind=.function)(hcf:∃k:Option Str,(∀n cl,cellsFrom n scope.names cl=match k with|none=>cl|some x=>(x,n)::cl)/\(∀y,scope.names.lookup y=some .cell->k=some y)/\(∀y,k=some y->scope.names.lookup y=some .cell))(hloc:(scope.names.all λy=>y.2 != .local||scope.names.lookup y.1==some .local)=true)
 (hfree:(scope.names.all λy=>y.2 != .free||X.env.kindOf y.1==some .cell||X.env.kindOf y.1==some .free)=true)
 (hf:(frn.all λp=>X.N[p.1]?==some p.2&&scope.names.lookup p.2==some .free)=true):CmpOk X scope (tgs++frn.map (·.2)) (FI tgs.length (frn.map (·.1))):=by
 rw[ui1] at hloc hfree hf;refine⟨hk,hcf,λy hy hl=>?_,λy hy hl=>?_,λσ _=>by simp[FI],λσ j x v h1 h2=>?_⟩
 .have:=hloc y hy;simpa[hl] using this
 .have:=hfree y hy;simpa[hl] using this
 .unfold FI at h2
  by_cases hj:j<tgs.length
  .rw[ua9 (by simpa using hj),ub3] at h2
   split at h2<;>simp at h2
  .rw[ua5 (by simpa using hj),uc7,ug2,ug2] at h2;rw[ua5 (by simpa using hj),ug2] at h1
   cases e:frn[j-tgs.length]? with
   |none=>rw[e] at h1;cases h1
   |some p=>
     rw[e] at h1 h2;simp only[uk1,Option.some.injEq] at h1 h2;have hp:=hf p (ud9 e);rw[uh6] at hp;refine⟨p.1,by rw[<-h1];simpa using hp.1,?_,by rw[<-h1];simpa using hp.2⟩
     cases e2:σ[p.1]? with
     |none=>rw[e2] at h2;cases h2
     |some o=>rw[e2] at h2;simpa using h2
theorem Lb:∀(l:List (Str×NameKind)),(l.all λy=>y.2 != .cell)=true->∀(n:Nat) (cl:List (Str×ff)),cellsFrom n l cl=cl
 |[],_,_,_=>rfl
 |(x,k)::l,h,n,cl=>by
   rw[ul6,uh6] at h;rw[cellsFrom,gX (by simpa using h.1)];exact Lb l h.2 n cl
theorem Dv(tgs:List Str)(frn:List (Nat×Str))(hk:scope.kind=.function)(hcell:(scope.names.all λy=>y.2 != .cell)=true)(hloc:(scope.names.all λy=>y.2 != .local||scope.names.lookup y.1==some .local)=true)
 (hfree:(scope.names.all λy=>y.2 != .free||X.env.kindOf y.1==some .cell||X.env.kindOf y.1==some .free)=true)
 (hf:(frn.all λp=>X.N[p.1]?==some p.2&&scope.names.lookup p.2==some .free)=true):CmpOk X scope (tgs++frn.map (·.2)) (FI tgs.length (frn.map (·.1))):=
 U0 tgs frn hk ⟨none,λn cl=>Lb _ hcell n cl,λy h=>by
  rw[ui1] at hcell;have:=hcell _ (CG h);simp at this,λy h=>by cases h⟩ hloc hfree hf
end
mutual
noncomputable def Bn:D->Bool
 |.tup xs=>Ed xs
 |.lst xs=>Ed xs
 |.obj _=>false
 |.scr _=>false
 |.exc _ _=>false
 |_=>true
noncomputable def Ed:List D->Bool
 |[]=>true
 |d::r=>Bn d&&Ed r
end
def c0:Cf:=⟨[],λ_=>False⟩
theorem HA(a:ff):¬c0.A a:=λh=>h.elim (λz=>nomatch z) λz=>z
mutual
theorem D4{K:eh}{c:Cf}{H:Hp}{v:V}{d:D}(r:Rep K c H v d)(p:Bn d=true):Rep K c0 H v d:=by
 cases r with
 |non=>exact .non
 |bl b=>exact .bl b
 |int i=>exact .int i
 |str x=>exact .str x
 |ty n=>exact .ty n
 |tup h n r=>exact .tup h (HA _) (IG r (by simpa[Bn] using p))
 |lst h n r=>exact .lst h (HA _) (IG r (by simpa[Bn] using p))
 |scr h=>simp[Bn] at p
 |dic h n=>exact .dic h (HA _)
 |obj h=>simp[Bn] at p
 |exc _ _ _ _ _=>simp[Bn] at p
theorem IG{K:eh}{c:Cf}{H:Hp}{vs:List V}{ds:List D}(r:Reps K c H vs ds)(p:Ed ds=true):Reps K c0 H vs ds:=by
 cases r with
 |nil=>exact .nil
 |cons h t=>
   simp only[Ed,uh6] at p;exact .cons (D4 h p.1) (IG t p.2)
end
noncomputable def F0(S:List Ob):D->D
 |.obj k=>match S[k]? with
   |some (.lst ds)=>.lst ds
   |_=>.obj k
 |d=>d
noncomputable def Yh:D->Bool
 |.obj _=>true
 |_=>false
def eqS(g:Bool->Bool)(x y:D):M D:=λt=>
 if (Yh x||Yh y)=true then(if (Bn (F0 t.S x)&&Bn (F0 t.S y))=true then(eqN EQD (F0 t.S x) (F0 t.S y)).map λb=>(.bl (g b),t) else none)
 else(eqN EQD x y).map λb=>(.bl (g b),t)
theorem MZ{c:Cf}{S:List Ob}{v:V}{d:D}(s:SInv K c S H)(r:Rep K c H v d)(p:Bn (F0 S d)=true):Rep K c0 H v (F0 S d):=by
 cases r with
 |@obj a k hk=>
   unfold F0 at p⊢;dsimp only at p⊢
   split
   .next ds e=>
    rw[e] at p;clear 5(s.obs k a _ hk e)vs h1 h2;exact .lst h1 (HA _) (IG h2 (by simpa[Bn] using p))
   .next h=>
    split at p
    .next ds e=>exact absurd e (h ds)
    .simp[Bn] at p
 |non=>exact .non
 |bl b=>exact .bl b
 |int b=>exact .int b
 |str b=>exact .str b
 |ty b=>exact .ty b
 |tup h n q=>exact D4 (.tup h n q) p
 |lst h n q=>exact D4 (.lst h n q) p
 |scr h=>exact D4 (c:=c) (.scr h) p
 |dic h n=>exact D4 (.dic h n) p
 |exc a b n f q=>exact D4 (.exc a b n f q) p
theorem IJ{g:Bool->Bool}:A6 K (Pt K g) (eqS g):=λ{Oo c t σ H x y dx dy r t' Q} f rx ry eq k=>by
 unfold eqS at eq
 split at eq
 .split at eq
  .next hp=>
   rw[uh6] at hp;clear 5(uc2.mp eq)b e1 e2
   cases e2
   exact⟨c0,_,_,b,MZ f.s rx hp.1,MZ f.s ry hp.2,e1,k _ H c f .refl (.bl (g b))⟩
  .cases eq
 .obtain⟨b,e1,e2⟩:=uc2.mp eq
  cases e2
  exact⟨c,dx,dy,b,rx,ry,e1,k _ H c f .refl (.bl (g b))⟩
theorem QQ{a:ff}{ns:List Int}{f:Fn}{S':List Ob}(hO:OI H)(hS:SqL K H a (ns.map V.int))(e:f [.scr ns] []=some (.bl true,S')):spF K f [.ref a] H (λv _=>v=.bl true) λ_ _ _=>False:=by
 refine⟨c0,[.scr ns],[],⟨rfl,List.Pairwise.nil,λk a o h=>by simp[c0] at h,λb z=>z.elim,λb z=>z.elim⟩,.cons (.scr ?_) .nil,.bl true,S',e,λv H' c' _ _ _ rv=>by cases rv;rfl⟩;rcases hS with (h|h)|h
 .rcases hO a with z|⟨o,xs,z⟩
  .rw[z] at h;cases h
  .rw[z] at h;cases h
 .exact .inl ⟨h,HA _⟩
 .exact .inr h
end
section
variable{prog:fh}{w:fj}{A:Around}{E:fc->fg->Prop}{s:fg}
theorem JH{it l:ff}{items:Array fc}(hne:l≠it):∀(n i:Nat) (s:fg) (Q:List fc->fg->Prop),s.heap.IsListIter it l i->s.heap.IsList l items->i+n<=items.size->
 (∀h',h'.IsListIter it l (i+n)->Heap.SameBut it s.heap h'->Q ((items.toList.drop i).take n) {s with heap:=h'})->wpAny (model prog w) A (draw (.ref it) n) Q E s
 |0,i,s,Q,hit,_,_,hQ=>uo1 (by simpa using hQ s.heap hit (Heap.SameBut.refl ..))
 |n+1,i,s,Q,hit,ht,hle,hQ=>by
   have hlt:i<items.size:=by lia
   refine uo0 (wpAny_pyNext_list_item hit ht (x:=items[i]) (by simp[hlt]) λh1 hit1 hs1=>?_);refine uo0 (um0 (JH hne n (i+1) _ _ hit1 (ht.extBut hs1.extBut hne) (by lia) λh2 hit2 hs2=>uo1 ?_));have hd:items.toList.drop i=items[i]::items.toList.drop (i+1):=by simp[ub0,hlt]
   have:=hQ h2 (by rw[show i+(n+1)=i+1+n by lia];exact hit2) (hs1.trans hs2);rw[hd,ue9] at this;exact this
theorem Nj{l:ff}{items:Array fc}{targets:List (Bool×(fc->Sem Unit))}{Q:Unit->fg->Prop}(hh:A.handled=none)(ht:s.heap.IsList l items)(hn:targets.length=items.size)(hstar:targets.findIdx? (·.1)=none)
 (h:∀h',Heap.ExtBut s.heap.objs.size s.heap h'->wpAny (model prog w) A (assignInOrder (targets.map (·.2)) items.toList) Q E {s with heap:=h'}):wpAny (model prog w) A (unpack (.ref l) targets) Q E s:=by
 have hlt:l≠s.heap.objs.size:=by obtain⟨o,ho,_⟩:=ht;exact um2 (um1 ho)
 unfold unpack;rw[hn,hstar];refine uo0 (um0 ?_);unfold unpackItems;refine uo0 ?_;unfold notIterableAtAll;refine uo0 (gp ht.typeIs PySem.F.slot_list_iter.lookup ?_);refine uo1 ?_;simp only[uf6,gQ];refine uo0 (um0 (wpAny_pyIter_list ht ?_));have hp:Heap.IsList (s.heap.push {cls:=.type "list_iterator",data:=.fields #[.ref l,.int 0 0]}) l items:=by
  clear 5 ht o ho r;exact⟨o,ub9 _ ho,r⟩
 refine uo0 (um0 (JH hlt items.size 0 _ _ ⟨_,ue4 _ rfl,rfl,rfl⟩ hp (by lia) λh1 hit1 hs1=>?_));have hall:List.take items.size (List.drop 0 items.toList)=items.toList:=by
  rw[uk9];exact uc1 (by simp)
 rw[hall];rw[gX (by simp)];have ht1:Heap.IsList h1 l items:=hp.extBut hs1.extBut hlt;refine uo0 (um0 (wpAny_pyNext_list_end hh hit1 ht1 (by simp) λh2 he2=>?_));simp only[Option.isSome_none,uf6,gQ];exact uo1 (h h2 λb o hb e=>he2 b o hb (hs1.extBut b o hb (ub9 _ e)))
end
section
variable{X:Cx}{pos:Pos}
def gUn(K:eh)(n:Nat)(t:TGs):TG:=λv σ H Q=>∃a xs,v=.ref a/\(SqT K H a xs\/SqL K H a xs)/\xs.length=n/\t xs σ H Q
theorem Z4{es:List Expr}{k:Nat}{t:TGs}{n:Nat}(hc:X.calm=true)(h:PGs X es t)
 (hn:(assignEach es X.env).length=n:=by rfl) (hst:(assignEach es X.env).findIdx? (·.1)=none:=by rfl):PG X (.Tuple es k pos) (gUn X.K n t):=by
 intro fb s σ H v u Q I r hw;obtain⟨a,xs,e1,hq|hq,hl,hw⟩:=hw
 .exact YQ hc h hn hst fb s σ H v u Q I r ⟨a,xs,e1,hq,hl,hw⟩
 .subst e1
  cases r
  clear 5(I.list hq)its rv ht hz;rw[assign_Tuple];refine uo0 (gy (Nj (I.ok.hd hc) ht.isList (by simp[hn,<-hl,rv.length]) hst λh' hx=>?_));have I1:Inv X fb σ H {s with heap:=h'}:=I.kept (t':=s.toks) λb o e=>hx b o (um2 (um1 e)) e;exact h fb _ σ H xs _ Q I1 (by simpa using rv) hw
end
section
open HT
variable{prog:fh}{w:fj}{A:Around}{E:fc->fg->Prop}{s:fg}
theorem Hu{t sl:ff}{items:Array fc}{vl vu:fc}{lo hi:Option Int}{Q:fc->fg->Prop}(ht:IsTup s.heap t items)(hs:s.heap.IsSliceOf sl vl vu .none)(pl:IsPart vl lo)(pu:IsPart vu hi)
 (hw:sIx items.size 0 lo=0/\sIx items.size items.size hi=items.size) (h:Q (.ref t) s):wpAny (model prog w) A (getItem (.ref t) (.ref sl)) Q E s:=by
 clear 5(id hs)os hos hcs hds;have hTs:s.TypeIs (.ref sl) "slice":=⟨os,hos,hcs⟩;unfold getItem
 try with_reducible refine um0 ?_
 first|refine uo0 (uo1 ?_)|skip
 refine uo0 (gi ht.typeIs (by decide) ?_);refine uo0 (fS (name:=Str.ofString "__getitem__") ht.typeIs ua0
  (gl ua0 ht.typeIs entry_tuple_getitem ?_ (args_tuple_getitem _ _)))
 show wpAny _ _ (Builtin.Tuple.tupleItemsOf (.ref t) >>= _) _ _ s;refine uo0 (tupleItemsOf_ ht ?_);refine uo0 (gF hTs ?_);rw[gW (by decide)];refine uo0 (F4 hs pl pu ?_);have hyes:(((sIx items.size 0 lo:Nat):Int)==0&&(1:Int)==1&&(sIx items.size items.size hi-sIx items.size 0 lo)==items.size)=true:=by
  rw[hw.1,hw.2];simp
 show wpAny _ _ (if (((sIx items.size 0 lo:Nat):Int)==0&&(1:Int)==1&&(sIx items.size items.size hi-sIx items.size 0 lo)==items.size)=true then _ else _) _ _ s;rw[gW hyes];refine uo0 (m:=Builtin.Tuple.tupleIsExact _) ?_;unfold Builtin.Tuple.tupleIsExact;refine uo0 (gF ht.typeIs (uo1 ?_));rw[gW (by decide)]
 first
  |exact uo0 (wpAny_rule (uo1 ⟨_,rfl,uo1 h⟩))
  |exact uo0 (wpAny_rule (uo0 (uo1 (uo1 ⟨_,rfl,uo1 h⟩))))
end
section
variable{X:Cx}
def Y7(K:eh):V->Option Int->Option Int->Hp->VK->Prop:=λx lo hi H Q=>∃a xs,x=.ref a/\SqT K H a xs/\(HT.sIx xs.length 0 lo=0/\HT.sIx xs.length xs.length hi=xs.length)/\Q (.ref a) H
theorem W0:SlR X (Y7 X.K):=by
 intro fb s σ H x v vl vu lo hi sl Q I rx hs pl pu h;clear 5 h a xs rfl hx hw q
 cases rx
 clear 5(I.tuple hx)its r ht hz;have hlen:its.toArray.size=xs.length:=by rw[ug1];exact r.length.symm
 exact⟨"tuple",_,ua0.lookup,ht.typeIs,Hu ht hs pl pu (by rw[hlen];exact hw) ⟨.ref a,H,I,rfl,q⟩⟩
end
noncomputable def Its(z:Str):It:=⟨λi _=>i<z.cps.size,λi H x H'=>H'=H/\∃c,z.cps[i]?=some c/\x=.str ⟨#[c]⟩,λi _=>i=z.cps.size⟩
theorem Ni{P:fh}{w:fj}{K:eh}{tg:Expr}{T:String}{x:Str}{t:Tok}(it:ff)(hT:["enumerate", "zip", "dict_itemiterator", "dict_reverseitemiterator", "odict_iterator", "itertools.zip_longest", "itertools.pairwise"].contains T=false)
 (W:∀A:Around,A.handled=none->Walks P w A it [it] [it] x.cps.size (SignAt x) (λi h=>h.IsStrIter it T x t i))
 (self:∀(A:Around) (i:Nat) (s:fg) (Q:fc->fg->Prop) (E:fc->fg->Prop),s.heap.IsStrIter it T x t i->Q (.ref it) s->wpAny (model P w) A (pyIter (.ref it)) Q E s) :
 Turn P w K tg (Its x) [it] it (λi h=>h.IsStrIter it T x t i) where
 mem:=by simp
 obj:=λi h st b hb=>by
  have e:b=it:=by simpa using hb
  subst e;clear 5 st o e c d;exact⟨o,e,λv z=>by rw[d] at z;cases z⟩
 keep:=λi h h' st k=>by
  clear 5 st o e r;exact⟨o,k it (by simp) o e,r⟩
 item:=by
  intro X hP hw hK hc i fb s σ H E I hf st hg;subst hP hw hK;clear 5(hf it (by simp))f0 f1 f2 f3 f4 f5;refine(W X.A (I.ok.hd hc)).item i s _ _ hg st λv h' tk hv st' kk=>?_;clear 5 hv c u hcc rfl;have I1:Inv X fb σ H {s with heap:=h',toks:=tk}:=I.turned (λb o hb e=>kk b o (by simpa using hb) e) f0 f1 f3 f4 f5;clear 5(id st')o e ec ed;exact⟨_,rfl,LI (s:={s with heap:=h',toks:=tk}) e ec ed hT ⟨.str ⟨#[c]⟩,H,I1,⟨u,rfl⟩,⟨rfl,c,hcc,rfl⟩,st',λb hb=>(hf b hb).1⟩⟩
 done:=by
  intro X hP hw hK hc i fb s σ H E I hf st hg;subst hP hw hK;clear 5(hf it (by simp))f0 f1 f2 f3 f4 f5;have hg':i=x.cps.size:=hg;subst hg';exact(W X.A (I.ok.hd hc)).done s _ _ st λh' tk kk=>⟨rfl,I.turned (λb o hb e=>kk b o (by simpa using hb) e) f0 f1 f3 f4 f5⟩
 self:=λA i s Q E st h=>self A i s Q E st h
section
variable{X:Cx}{tg:Expr}{pos:Pos}
def bL(K:eh)(tl:TE):TI:=λσ H R=>tl σ H λx H1=>(∃a,x=.ref a/\(∃xs,SqL K H1 a xs)/\R (Itl K a) H1)\/(∃a,x=.ref a/\(∃xs,SqT K H1 a xs)/\R (Itt K a) H1)\/∃z,x=.str z/\R (Its z) H1
theorem YR{l:Expr}{tl:TE}(hl:PE X l tl):PI X tg l (bL X.K tl):=by
 intro fb s σ H R I h;refine thn (hl fb s σ H _ I h) λv s1 z9=>?_;clear 5 z9 x H1 I1 r1 q1;have fp:∀b∈[s1.heap.objs.size],FpOk X fb H1 b:=λb hb=>by
  have e:b=s1.heap.objs.size:=by simpa using hb
  subst e;exact I1.fpOk (un5 _) (I1.hok.fresh (un5 _))
 rcases q1 with⟨a,rfl,⟨xs,hq⟩,q⟩|⟨a,rfl,⟨xs,hq⟩,q⟩|⟨z,rfl,q⟩
 .cases r1
  clear 5(I1.list hq)its rv p hz;refine wpAny_pyIter_list p.isList ?_;exact⟨s1.heap.objs.size,[s1.heap.objs.size],_,_,H1,rfl,I1.kept (t':=s1.toks) λb o e=>ub9 _ e,R7 a _,⟨_,ue4 _ rfl,rfl,rfl⟩,fp,q⟩
 .cases r1
  clear 5(I1.tuple hq)its rv p hz;refine wpAny_pyIter_tuple (show s1.heap.IsTuple a its.toArray from p) ?_;exact⟨s1.heap.objs.size,[s1.heap.objs.size],_,_,H1,rfl,I1.kept (t':=s1.toks) λb o e=>ub9 _ e,PL a _,⟨_,ue4 _ rfl,rfl,rfl⟩,fp,q⟩
 .obtain⟨t,rfl⟩:=r1
  cases ha:z.cps.all (· < 128)
  .refine wpAny_pyIter_wide ha ?_;exact⟨s1.heap.objs.size,[s1.heap.objs.size],_,_,H1,rfl,I1.kept (t':=s1.toks) λb o e=>ub9 _ e,Ni (T:="str_iterator") (x:=z) (t:=t) _ (by decide) (λA hA=>Walks.strWide hA _ z t) (λ_ _ _ _ _ st h=>wpAny_pyIter_striter_wide st h),⟨_,ue4 _ rfl,rfl,rfl⟩,fp,q⟩
  .refine wpAny_pyIter_ascii ha ?_;exact⟨s1.heap.objs.size,[s1.heap.objs.size],_,_,H1,rfl,I1.kept (t':=s1.toks) λb o e=>ub9 _ e,Ni (T:="str_ascii_iterator") (x:=z) (t:=t) _ (by decide) (λA hA=>Walks.strAscii hA _ z t) (λ_ _ _ _ _ st h=>wpAny_pyIter_striter_ascii st h),⟨_,ue4 _ rfl,rfl,rfl⟩,fp,q⟩
def UM:R2:=λx y H Q=>∃z k,x=.str z/\y=.int k/\MulOk z k/\Q (.str (Txt.mul z k)) H
theorem V7:OpR X (binaryOp .Mult) UM:=by
 intro fb s σ H x y v u Q I rx ry h;clear 5 h z k rfl rfl hk q;clear 5 rx t rfl;clear 5 ry t' rfl;exact SB.mul hk λt2 tk=>⟨.str _,H,I.tok tk,⟨t2,rfl⟩,q⟩
def Y5:V->Option Int->Option Int->Hp->VK->Prop:=λx lo hi H Q=>∃z,x=.str z/\z.length<=sizeLine/\Q (.str (Txt.slice z lo hi)) H
theorem sl_str:SlR X Y5:=by
 intro fb s σ H x v vl vu lo hi sl Q I rx hs pl pu h;clear 5 h z rfl hz q;clear 5 rx t rfl;refine⟨"str",_,PySem.F.slot_str_getitem.lookup,typeIs_str _ _ _,?_⟩;have part:∀{v:fc}{o:Option Int},IsPart v o->∃l:Option (Int×Tok),v=partValue l/\l.map (·.1)=o:=λ{v o} p=>by
  cases p with
  |none=>exact⟨none,rfl,rfl⟩
  |int i t=>exact⟨some (i,t),rfl,rfl⟩
 clear 5(part pl)l rfl el;clear 5(part pu)u rfl eu;refine wpAny_getItem_str_slice (l:=l) (u:=u) (st:=none) (by clear 5 hs o h1 h2 h3;exact⟨o,h1,h2,h3⟩) rfl ?_;unfold sliceMade slicePicked;rw[el,eu];show(if ((1:Int)==1&&(Builtin.Str.strSliceIndices lo hi 1 z.length).length==z.length)=true then Made.val (.str z t) else Made.str ⟨((Builtin.Str.strSliceIndices lo hi 1 z.length).filterMap (z.cps[·]?)).toArray⟩).post _ s;have hle:=Txt.slice_le z lo hi;unfold Txt.slice at q hle
 by_cases hc:((1:Int)==1&&(Builtin.Str.strSliceIndices lo hi 1 z.length).length==z.length)=true
 .rw[gW hc] at q⊢;exact⟨.str z,H,I,⟨t,rfl⟩,q⟩
 .rw[gX hc] at q hle⊢;exact⟨um3 hle hz,.str _,H,I.tok _,⟨_,rfl⟩,q⟩
def Hh(g:Int->Int->Bool)(h:List Nat->List Nat->Bool):R2:=λx y H Q=>(∃i j,x=.int i/\y=.int j/\Q (.bl (g i j)) H)\/∃i j,x=.str i/\y=.str j/\Q (.bl (h i.cps.toList j.cps.toList)) H
theorem Yy:OpR X (compareOp .Lt) (Hh (λi j=>decide (i<j)) λi j=>decide (i<j)):=op_lt.or λfb s σ H x y v u Q I rx ry h=>by
 clear 5 h i j rfl rfl q;clear 5 rx t rfl;clear 5 ry t' rfl;exact P.lt_str ⟨.bl _,H,I,rfl,q⟩
theorem MP:OpR X (compareOp .LtE) (Hh (λi j=>decide (i<=j)) λi j=>!(decide (j<i))):=op_le.or λfb s σ H x y v u Q I rx ry h=>by
 clear 5 h i j rfl rfl q;clear 5 rx t rfl;clear 5 ry t' rfl;exact P.le_str ⟨.bl _,H,I,rfl,q⟩
theorem Rf:OpR X (compareOp .Gt) (Hh (λi j=>decide (j<i)) λi j=>decide (j<i)):=op_gt.or λfb s σ H x y v u Q I rx ry h=>by
 clear 5 h i j rfl rfl q;clear 5 rx t rfl;clear 5 ry t' rfl;exact P.gt_str ⟨.bl _,H,I,rfl,q⟩
theorem Re:OpR X (compareOp .GtE) (Hh (λi j=>decide (j<=i)) λi j=>!(decide (i<j))):=op_ge.or λfb s σ H x y v u Q I rx ry h=>by
 clear 5 h i j rfl rfl q;clear 5 rx t rfl;clear 5 ry t' rfl;exact P.ge_str ⟨.bl _,H,I,rfl,q⟩
end
def Eu:D->M (List D)
 |.lst ds=>ret ds
 |.scr ns=>ret (ns.map .int)
 |.tup ds=>ret ds
 |.str x=>ret (x.cps.toList.map λc=>.str ⟨#[c]⟩)
 |_=>fail
def Dj(f:M D):M (List D):=bnd f Eu
def FV:D->D->M D
 |.str x,.int k=>λt=>if B9 k=true/\x.length*k.toNat<=LIM/\k<=LIM/\x.length<=LIM then some (.str (Txt.mul x k),t) else none
 |x,y=>Tt x y
def DG:D->Option Int->Option Int->M D
 |.str x,lo,hi=>lim x.length (.str (Txt.slice x lo hi))
 |.tup ds,lo,hi=>ret (.tup (Bp ds lo hi))
 |x,lo,hi=>slD x lo hi
def Mi(g:Int->Int->Bool)(h:List Nat->List Nat->Bool):D->D->M D
 |.int i,.int j=>ret (.bl (g i j))
 |.str x,.str y=>ret (.bl (h x.cps.toList y.cps.toList))
 |_,_=>fail
def ltA:=Mi (λi j=>decide (i<j)) (λi j=>decide (i<j))
def leA:=Mi (λi j=>decide (i<=j)) (λi j=>!(decide (j<i)))
def gtA:=Mi (λi j=>decide (j<i)) (λi j=>decide (j<i))
def geA:=Mi (λi j=>decide (j<=i)) (λi j=>!(decide (i<j)))
def unS(n:Nat)(g:List D->M Unit):D->M Unit
 |.tup ds=>if ds.length=n then g ds else fail
 |.lst ds=>if ds.length=n then g ds else fail
 |_=>fail
def XJ:M D:=fC .dic
def IL(i:Nat)(g:M D)(d:D):M Unit:=λt=>match t.env[i]? with
 | some (some (.own _))=>bnd g (λj t1=>match j,t1.env[i]? with
   |.int j,some (some (.own xs))=>(ixN xs.length j).map λn=>((),{t1 with env:=t1.env.set i (some (.own (xs.set n d)))})
   |_,_=>none) t
 |_=>none
section
variable{μ:Cf->Hp->D->(V->Hp->Prop)->Prop}{tg:Expr}{K:eh}{n:Nat}{g:List D->M Unit}{es:List Expr}
section
variable{X:Cx}{e a b:Expr}{pos:Pos}{st:Stmt}
theorem NO:PS X st (RSg X.K μ fail):=λfb s σ H E I ⟨Oo,c,t,fi,o,t',eq,k⟩=>by cases eq
theorem ItOk.str{K:eh}{c:Cf}{H:Hp}{x:Str}:ItOk K (Its x) c H (x.cps.toList.map λc=>.str ⟨#[c]⟩):=by
 refine⟨λc' H' i ex hi=>?_,λc' H' i y H'' d ex hd hy=>?_,λc' H' ex=>?_⟩
 .show i<x.cps.size;simpa using hi
 .clear 5 hy rfl n hn rfl;refine⟨rfl,?_⟩;have:d=.str ⟨#[n]⟩:=by
   rw[ug2] at hd;have hn':x.cps.toList[i]?=some n:=by simpa using hn
   rw[hn'] at hd;simpa using hd.symm
  rw[this];exact .str _
 .show _=x.cps.size;simp
theorem X0{f:M D}(h:PE X e (RE X.K f)):PI X tg e (RI X.K (Dj f)):=
 Jq (YR h) λσ H R z9=>by
  clear 5 z9 Oo c t fi ds t' eq k;clear 5(Ag eq)d t1 e1 eq;refine⟨Oo,c,t,fi,d,t1,e1,λv H1 c1 f1 s1 rv=>?_⟩
  cases rv with
  |@lst p vs ds' h1 h2 h3=>
    cases eq
    exact .inl ⟨p,rfl,⟨vs,SqL.of h1⟩,k _ H1 c1 f1 s1 (ItOk.lst λc' H' ex=>⟨vs,SqL.of (ex.keep _ _ h1 h2),h3.mono ex⟩)⟩
  |@scr p ns h1=>
    cases eq
    exact .inl ⟨p,rfl,⟨_,h1.sq⟩,k _ H1 c1 f1 s1 (ItOk.lst λc' H' ex=>⟨_,(h1.mono ex).sq,Reps.ints ns⟩)⟩
  |@tup p vs ds' h1 h2 h3=>
    cases eq
    exact .inr (.inl ⟨p,rfl,⟨vs,SqT.of h1⟩,k _ H1 c1 f1 s1 (ItOk.tup λc' H' ex=>⟨vs,SqT.of (ex.keep _ _ h1 h2),h3.mono ex⟩)⟩)
  |str x=>
    cases eq
    exact .inr (.inr ⟨x,rfl,k _ H1 c1 f1 s1 ItOk.str⟩)
  |_=>cases eq
theorem RG.un{v:V}{σ:L2.St}{H:Hp}{Q:L2.St->Hp->Prop}(q:RG K (unS n g) v σ H Q):gUn K n (RGs K g) v σ H Q:=by
 clear 5 q Oo c t d fi rv t' eq k
 cases rv with
 |@tup a vs ds h1 h2 h3=>
   unfold unS at eq
   by_cases hn:ds.length=n
   .dsimp only at eq;rw[gW hn] at eq;exact⟨a,vs,rfl,.inl (SqT.of h1),by rw[h3.length];exact hn,Oo,c,t,ds,fi,h3,t',eq,k⟩
   .dsimp only at eq;rw[gX hn] at eq;cases eq
 |@lst a vs ds h1 h2 h3=>
   unfold unS at eq
   by_cases hn:ds.length=n
   .dsimp only at eq;rw[gW hn] at eq;exact⟨a,vs,rfl,.inr (SqL.of h1),by rw[h3.length];exact hn,Oo,c,t,ds,fi,h3,t',eq,k⟩
   .dsimp only at eq;rw[gX hn] at eq;cases eq
 |_=>cases eq
theorem ZN{k:Nat}(hc:X.calm=true)(h:PGs X es (RGs X.K g))(hn:(assignEach es X.env).length=n:=by rfl)(hst:(assignEach es X.env).findIdx? (·.1)=none:=by rfl):PG X (.Tuple es k pos) (RG X.K (unS n g)):=
 Gy (Z4 hc h hn hst) λ_ _ _ _ q=>RG.un q
theorem Tb{f:D->M Unit}(h1:PG X e (RG X.K f))(h2:PGs X es (RGs X.K g))(hs:(assignEach (e::es) X.env).map (·.2)=assign e X.env::(assignEach es X.env).map (·.2):=by rfl):PGs X (e::es) (RGs X.K (AO f g)):=
 Nz (TJ h1 h2 hs) λ_ _ _ _ q=>RGs.cons q
theorem Qv(i:Nat){x:Str}{ix:Expr}{g:M D}{px:Pos}(hi:PE X ix (RE X.K g))(hN:X.N[i]?=some x:=by rfl)(hv:Vis X.env.scope x:=by walk_at"h")(hd:(x==("__debug__":Str))=false:=by decide)
 (hcd:(x==("__classdict__":Str))=false:=by decide)
 (ha:∀v,assign (.Subscript (.Name x px) ix pos) X.env v=(do
   let ov <-holding [v] (eval (.Name x px) X.env)
   let iv <-holding [v,ov] (eval ix X.env)
   standAt pos
   holding [v,ov,iv] (setItem ov iv v)
   release [v,ov,iv] []):=by intro _;rfl):PG X (.Subscript (.Name x px) ix pos) (RG X.K (IL i g)):=
 Gy (MS (E4 hN hv hd hcd) hi M6 ha) λv σ H Q z9=>by
  clear 5 z9 Oo c t d fi rv t' eq k;unfold IL at eq
  split at eq
  .next xs0 e0=>
   clear 5(Ag eq)j t1 e1 eq;clear 5(fi.own i xs0 e0)a vs0 h1 h2 h3 h4 h5;refine⟨.ref a,h1,Oo,c,t,fi,j,t1,e1,λy H1 c1 f1 s1 ry=>?_⟩
   split at eq
   .next j' xs ex=>
    clear 5(uc2.mp eq)n en ez
    cases ez
    cases ry
    clear 5(f1.own i xs ex)a' vs g1 g2 g3 g4 g5;rw[h1] at g1;injection g1 with g1;injection g1 with g1;injection g1 with g1;subst g1
    refine⟨a,vs,j',n,rfl,rfl,g4,by rw[g5.length];exact en,?_⟩;clear 5(f1.wrOwn ex h1 (Reps.set (rv.mono s1.ext) n g5))f2 s2;exact k σ _ c1 f2 (s1.trans s2)
   .cases eq
  .cases eq
end
variable{x:Str}
section
variable{K:eh}
def UL(K:eh):R2:=λx y H Q=>Pu K x y H Q\/UM x y H Q
theorem V6{X:Cx}:OpR X (binaryOp .Mult) (UL X.K):=op_mul3.or V7
theorem Nu{k:Int}(h:B9 k=true/\x.length*k.toNat<=LIM/\k<=LIM/\x.length<=LIM):MulOk x k:=by
 clear 5(E6 h.1)g1 g2;have hL:LIM=100000:=rfl;refine⟨?_,λh1 _=>?_,λh1 _=>?_⟩
 .rw[Bool.or_eq_false_iff];exact⟨uk4 (by lia),uk4 (by lia)⟩
 .have h2:k<=100000:=by have:=h.2.2.1;rw[hL] at this;exact this
  have h3:x.length<=100000:=by have:=h.2.2.2;rw[hL] at this;exact this
  have h4:(92233720368547:Int)<=(2 ^ 63-1)/k:=by
   rw[fX (by lia)];lia
  lia
 .have h5:=h.2.1;rw[hL] at h5;unfold Builtin.Str.tooLong
  first|exact uk4 (by unfold sizeLine;lia)|(unfold sizeLine;exact uk4 (by lia))
theorem T9:A6 K (UL K) FV:=λ{Oo c t σ H x y dx dy r t' Q} f rx ry eq k=>by
 unfold FV at eq
 split at eq
 .next z kk=>
  split at eq
  .next h=>
   cases eq
   cases rx
   cases ry
   exact .inr ⟨z,kk,rfl,rfl,Nu h,k _ H c f .refl (.str _)⟩
  .cases eq
 .exact .inl (WQ f rx ry eq k)
def TW(K:eh):V->Option Int->Option Int->Hp->VK->Prop:=λx lo hi H Q=>TV K x lo hi H Q\/(Y5 x lo hi H Q\/Y7 K x lo hi H Q)
theorem sl3{X:Cx}:SlR X (TW X.K):=sl2.or (sl_str.or W0)
theorem OU{α:Type}{xs:List α}{lo hi:Option Int}(h:HT.sIx xs.length 0 lo=0/\HT.sIx xs.length xs.length hi=xs.length):Bp xs lo hi=xs:=by
 unfold Bp;rw[h.1,h.2];simp
theorem Ot:OK K (TW K) DG:=λ{Oo c t σ H x dx r lo hi t' Q} f rx eq k=>by
 unfold DG at eq
 split at eq
 .next z=>
  clear 5(D8 eq)h e
  cases e
  cases rx
  exact .inr (.inl ⟨z,rfl,um3 h Da,k _ H c f .refl (.str _)⟩)
 .next ds=>
  cases eq
  cases rx with
  |@tup p vs ds h1 h2 h3=>
    by_cases hw:HT.sIx ds.length 0 lo=0/\HT.sIx ds.length ds.length hi=ds.length
    .rw[OU hw] at k;exact .inr (.inr ⟨p,vs,rfl,SqT.of h1,by rw[h3.length];exact hw,k _ H c f .refl (.tup h1 h2 h3)⟩)
    .exact .inl (.inr ⟨p,vs,rfl,SqT.of h1,by rw[h3.length];exact hw,λq hq=>k _ _ c (f.laid hq) (f.stp_laid hq) (.tup AJ (f.s.free hq) ((Hi h3 lo hi).mono (Ext.laid f.s hq)))⟩)
 .exact .inl (Zd f rx eq k)
theorem II{g:Int->Int->Bool}{h:List Nat->List Nat->Bool}:A6 K (Hh g h) (Mi g h):=λ{Oo c t σ H x y dx dy r t' Q} f rx ry eq k=>by
 cases rx with
 |int i=>cases ry with
   |int j=>cases eq;exact .inl ⟨i,j,rfl,rfl,k _ H c f .refl (.bl _)⟩
   |_=>cases eq
 |str i=>cases ry with
   |str j=>cases eq;exact .inr ⟨i,j,rfl,rfl,k _ H c f .refl (.bl _)⟩
   |_=>cases eq
 |_=>cases eq
theorem WM:A6 K (Hh (λi j=>decide (i<j)) λi j=>decide (i<j)) ltA:=II
theorem KS:A6 K (Hh (λi j=>decide (i<=j)) λi j=>!(decide (j<i))) leA:=II
theorem Os:A6 K (Hh (λi j=>decide (j<i)) λi j=>decide (j<i)) gtA:=II
theorem Oq:A6 K (Hh (λi j=>decide (j<=i)) λi j=>!(decide (i<j))) geA:=II
end
variable{fa:ff}{fd:fk}
theorem X4{P:fh}{w:fj}{mg:Str->Option fc}{base:Heap}{qual:Str}{st:Stmt}{N ps:List Str}{k m:Nat}{g:M Out}(e1:ps.length=n)(e2:N.length=m)(F:Fun K x qual st fa fd)(S:FnScope N ps (AA st))
 (hb:∀(cdv:fc) (A:Around) (outer:List Env) (s:fg) (H:Hp) (E:XK),Room k (A.deeper (PyProof.Rows.envOfC qual (AA st) s.heap.objs.size fa cdv))->
   PSs (EG CX0 P w K mg base N qual (AA st) fa cdv A outer s H E).nox (CA st) (RS K g)):FnOk P w K mg base CX0 (k+1) fa fd ps (spF K (fnOf n m g)):=by
 subst e1 e2;exact ZR F S hb
theorem Y9{P:fh}{w:fj}{mg:Str->Option fc}{base:Heap}{ps:List Str}{k:Nat}{f g:Fn}(e:f=g)(h:FnOk P w K mg base CX0 k fa fd ps (spF K g)):FnOk P w K mg base CX0 k fa fd ps (spF K f):=by rw[e];exact h
theorem Qc:bootBuiltins "len" = some (.builtin "len"):=by decide +kernel
theorem Lu:bootBuiltins "isinstance" = some (.builtin "isinstance"):=by decide +kernel
theorem Xz:bootBuiltins "ord" = some (.builtin "ord"):=by decide +kernel
theorem Xy:bootBuiltins "min" = some (.builtin "min"):=by decide +kernel
theorem Xx:bootBuiltins "max" = some (.builtin "max"):=by decide +kernel
theorem Qb:bootBuiltins "int" = some (.type "int"):=by decide +kernel
theorem XA:bootBuiltins "str" = some (.type "str"):=by decide +kernel
theorem UX:bootBuiltins "bool" = some (.type "bool"):=by decide +kernel
theorem ND:bootBuiltins "list" = some (.type "list"):=by decide +kernel
theorem L1:bootBuiltins "tuple" = some (.type "tuple"):=by decide +kernel
noncomputable def A8:Expr->Bool
 |.Starred _ _=>true
 |_=>false
theorem A4{e:Expr}{env:Env}(h:A8 e=false):starEach (e::es) env=(false,eval e env)::starEach es env:=by
 cases e<;>first|rfl|cases h
def A1(es:List Expr):Bool:=es.all λe=>!A8 e
theorem AV:∀{es:List Expr}{env:Env}{p:Pos},A1 es=true->(backTo p (starEach es env)).any (·.1)=false/\(backTo p (starEach es env)).all (λx=>!x.1)=true
 |[],env,p,_=>⟨rfl,rfl⟩
 |e::es,env,p,h=>by
   have h':A8 e=false/\A1 es=true:=by
    rw[A1,ul6,uh6] at h;exact⟨by simpa using h.1,h.2⟩
   clear 5(AV (es:=es) (env:=env) (p:=p) h'.2)h1 h2;rw[A4 h'.1];refine⟨?_,?_⟩
   .show(false||(backTo p (starEach es env)).any (·.1))=false;rw[h1];rfl
   .show(!false&&(backTo p (starEach es env)).all (λx=>!x.1))=true;rw[h2];rfl
variable{f:M (List D)}{p:Pos}{id:String}{R:List V->Hp->VK->Prop}
section
variable{X:Cx}{e a b:Expr}{es:List Expr}{pos:Pos}
theorem SS{f:M D}{g:M (List D)}(ha:PE X e (RE X.K f))(hr:PA X es (RA X.K g))(hs:A8 e=false:=by rfl):PA X (e::es) (RA X.K (Aa f g)):=U3 ha hr (A4 hs)
theorem SU{k:Nat}{ps:List Str}{g:Fn}(F:FnOk X.prog X.w X.K X.mg X.base CX0 k fa fd ps (spF X.K g))(hr:Room k X.A)(hg:Gl X x)(hm:X.mg x=some (.ref fa))(hk:PySem.W.keepIn X.K (.ref fa)=true)(hb:Binds X.K fd ps [])
 (ha:PA X (e::es) (RA X.K f)) (hdb:(x==("__debug__":Str))=false:=by decide) (h1:A8 e=false:=by rfl) (h2:A1 es=true:=by rfl) :
 PE X (.Call (.Name x p) (e::es) [] pos) (RE X.K (Af g f)):=U4 F hr hg hm hk hb ha hdb (A4 h1) (AV h2).1
theorem JJ{h:List D->M D}(hc:Co X (.builtin id) R)(s:E9 X.K R h)(hg:Gl X x)(hm:X.mg x=none)(hv:bootBuiltins x=some (.builtin id))(ha:PA X (e::es) (RA X.K f))(hn:x≠"__name__":=by decide)(hdb:(x==("__debug__":Str))=false:=by decide)
 (h1:A8 e=false:=by rfl) (h2:A1 es=true:=by rfl):PE X (.Call (.Name x p) (e::es) [] pos) (RE X.K (fB f h)):=bE hc s hg hm hv ha hn hdb (A4 h1) (AV h2).1
theorem Uz{h:List D->M D}(hc:Co X (.type id) R)(s:E9 X.K R h)(hg:Gl X x)(hm:X.mg x=none)(hv:bootBuiltins x=some (.type id))(ha:PA X (e::es) (RA X.K f))(hn:x≠"__name__":=by decide)(hdb:(x==("__debug__":Str))=false:=by decide)
 (h1:A8 e=false:=by rfl) (h2:A1 es=true:=by rfl):PE X (.Call (.Name x p) (e::es) [] pos) (RE X.K (fB f h)):=bF hc s hg hm hv ha hn hdb (A4 h1) (AV h2).1
theorem ZM{h:List D->M (List D)}(hc:Co X (.type id) R)(s:LC X.K R h)(hg:Gl X x)(hm:X.mg x=none)(hv:bootBuiltins x=some (.type id))(ha:PA X (e::es) (RA X.K f))(hn:x≠"__name__":=by decide)(hdb:(x==("__debug__":Str))=false:=by decide)
 (h1:A8 e=false:=by rfl) (h2:A1 es=true:=by rfl):PE X (.Call (.Name x p) (e::es) [] pos) (RF X.K (fBF f h)):=bG hc s hg hm hv ha hn hdb (A4 h1) (AV h2).1
theorem OY(hg:Gl X "range")(hm:X.mg "range" = none)(ha:PA X [a] (RA X.K f))(h1:A8 a=false:=by rfl):PI X tg (.Call (.Name "range" p) [a] [] pos) (RI X.K (Bm f)):=Qw hg hm ha (A4 h1)
theorem OZ(hg:Gl X "range")(hm:X.mg "range" = none)(ha:PA X [a,b] (RA X.K f))(h1:A8 a=false:=by rfl)(h2:A8 b=false:=by rfl):PI X tg (.Call (.Name "range" p) [a,b] [] pos) (RI X.K (Ge f)):=
 Qx hg hm ha (by rw[A4 h1,A4 h2];rfl) (A4 h2)
theorem Qt{cpos:Pos}(h1:A8 e=false)(h2:A1 es=true)(h3:es.length<20):((backTo cpos (starEach (e::es) X.env)).all (λx=>!x.1)&&(backToKw cpos (keywordEach [] X.env)).all (λx=>x.1.isSome)&&decide ((e::es).length+([]:List Keyword).length+(if ([]:List Keyword).isEmpty then 0 else 1)<30))=true:=by
 rw[(AV (es:=e::es) (env:=X.env) (p:=cpos) (by rw[A1,ul6,h1];exact h2)).2];show(true&&true&&decide (es.length+1+0+0<30))=true;simp;lia
theorem O4(i:Nat){x:Str}{g:M (List D)}{px apos cpos:Pos}(ha:PA X (e::es) (RA X.K g))(hN:X.N[i]?=some x:=by rfl)(hv:Vis X.env.scope x:=by walk_at"h")(hd:(x==("__debug__":Str))=false:=by decide)
 (hcd:(x==("__classdict__":Str))=false:=by decide) (hline:(apos.endLine==cpos.line)=true:=by rfl) (h1:A8 e=false:=by rfl) (h2:A1 es=true:=by rfl) (h3:es.length<20:=by decide) :
 PS X (.Expr (.Call (.Attribute (.Name x px) "append" apos) (e::es) [] cpos) pos) (RSg X.K μ (ownM i Cd g)):=Qy i ha hN hv hd hcd rfl (Qt h1 h2 h3) hline (A4 h1) (AV h2).1
theorem O5(i:Nat){x:Str}{g:M (List D)}{px apos cpos:Pos}(ha:PA X (e::es) (RA X.K g))(hN:X.N[i]?=some x:=by rfl)(hv:Vis X.env.scope x:=by walk_at"h")(hd:(x==("__debug__":Str))=false:=by decide)
 (hcd:(x==("__classdict__":Str))=false:=by decide) (hline:(apos.endLine==cpos.line)=true:=by rfl) (h1:A8 e=false:=by rfl) (h2:A1 es=true:=by rfl) (h3:es.length<20:=by decide) :
 PS X (.Expr (.Call (.Attribute (.Name x px) "extend" apos) (e::es) [] cpos) pos) (RSg X.K μ (ownM i Fb g)):=Qz i ha hN hv hd hcd rfl (Qt h1 h2 h3) hline (A4 h1) (AV h2).1
end
end
end L2
namespace HT
open PySem PySem.Spec L2 PyProof.Rows
section
variable{prog:fh}{w:fj}{A:Around}{E:fc->fg->Prop}{s:fg}
end
end HT
namespace L2
open PySem PySem.Spec PyProof.Rows
section
variable{X:Cx}{e ek:Expr}{p2 pos:Pos}{te:TE}{tk:TO}
end
section
variable{X:Cx}
theorem HE:∀{ys:List Str}{us:List fc},Vals (ys.map V.str) us->CarriedAll us (ys.map PyData.str)
 |[],_,r=>by cases r;exact .nil
 |_::_,_,r=>by
   cases r with
   |cons r1 r2=>clear 5 r1 t rfl;exact .cons (.str _ _) (HE r2)
def UK(K:eh):V->List V->Hp->VK->Prop:=λx xs H Q=>∃z a ys,x=.str z/\xs=[.ref a]/\SqL K H a (ys.map V.str)/\(∀y∈ys,y.length<=8)/\z.length<=8/\ys.length<=1048576/\Q (.str (Txt.join z ys)) H
theorem VI:MtR X "str.join" (UK X.K):=by
 intro fb s σ H x xs v us Q I rx rs h;clear 5 h z a ys rfl rfl ha h1 h2 h3 q;clear 5 rx t rfl;clear 5(Gi rs)u rfl ru
 cases ru
 obtain⟨its,r,pl,_⟩:=I.list ha;refine join_madeW (l:=ys) (g:=id) 8 pl.isList (by rw[List.map_id];exact HE r) h1 h3 (by lia) λt' k=>?_;rw[List.map_id];exact⟨.str _,H,I.tok _,⟨_,rfl⟩,q⟩
end
section
variable{X:Cx}
end
section
variable{X:Cx}
end
section
variable{X:Cx}{K:eh}
noncomputable def F6:List D->Option (List Str)
 |[]=>some []
 |.str x::r=>if x.length<=8 then(F6 r).map (x :: ·) else none
 |_=>none
def joinM(f:M D)(g:M (List D)):M D:=bnd f λo=>bnd g λas=>match o,as with
 |.str z,[.lst ds]=>λt=>match F6 ds with
   |some ys=>if z.length<=8/\ys.length<=1048576 then some (.str (Txt.join z ys),t) else none
   |none=>none
 |_,_=>fail
theorem Nf{c:Cf}{H:Hp}:∀{ds:List D}{vs:List V}{ys:List Str},Reps K c H vs ds->F6 ds=some ys->vs=ys.map V.str/\∀y∈ys,y.length<=8
 |[],_,ys,r,e=>by
   cases r
   cases e
   exact⟨rfl,λ_ h=>nomatch h⟩
 |d::ds,_,ys,r,e=>by
   cases r with
   |cons r1 r2=>
     cases r1 with
     |str x=>
       unfold F6 at e
       split at e
       .next hx=>
        clear 5(uc2.mp e)zs e1 rfl;clear 5(Nf r2 e1)h1 h2;refine⟨by rw[h1];rfl,λy hy=>?_⟩;rcases ul2.mp hy with rfl|hy
        .exact hx
        .exact h2 y hy
       .cases e
     |_=>cases e
theorem RE.joinM{f:M D}{g:M (List D)}{σ:L2.St}{H:Hp}{Q:VK}(q:RE K (L2.joinM f g) σ H Q):tBM K "str" (UK K) (RE K f) (RA K g) σ H Q:=by
 clear 5 q Oo c t fi r t' eq k;clear 5(Ag eq)d t1 e1 eq;clear 5(Ag eq)as t2 e2 eq;refine⟨Oo,c,t,fi,d,t1,e1,λv H1 c1 f1 s1 rv=>?_⟩
 split at eq
 .next z ds=>
  cases rv
  refine⟨rfl,Oo,c1,t1,f1,_,t2,e2,λus H2 c2 f2 s2 rus=>?_⟩;clear 5(Fq rus)w rfl rw'
  split at eq
  .next ys ey=>
   split at eq
   .next hz=>
    cases eq
    cases rw' with
    |@lst p vs ds h1 h2 h3=>
      clear 5(Nf h3 ey)h4 h5;subst h4;exact⟨_,p,ys,rfl,rfl,SqL.of h1,h5,hz.1,hz.2,k _ _ c2 f2 (s1.trans s2) (.str _)⟩
   .cases eq
  .cases eq
 .cases eq
theorem U6{o e:Expr}{es:List Expr}{f:M D}{g:M (List D)}{apos cpos:Pos}(ho:PE X o (RE X.K f))(ha:PA X (e::es) (RA X.K g))
 (hbase:attributeBase o "join" X.env (eval o X.env)=eval o X.env:=by rfl)
 (hfew:((backTo cpos (starEach (e::es) X.env)).all (λx=>!x.1)&&(backToKw cpos (keywordEach [] X.env)).all (λx=>x.1.isSome)&&decide ((e::es).length+([]:List Keyword).length+(if ([]:List Keyword).isEmpty then 0 else 1)<30))=true:=by rfl)
 (hline:(apos.endLine==cpos.line)=true:=by rfl) (hs:starEach (e::es) X.env=(false,eval e X.env)::starEach es X.env:=by rfl) (hplain:(backTo cpos (starEach es X.env)).any (·.1)=false:=by rfl) :
 PE X (.Call (.Attribute o "join" apos) (e::es) [] cpos) (RE X.K (joinM f g)):=
 AI (JW PySem.F.plainAttrs_str PySem.F.slot_str_join PySem.F.type_str_join VI ho ha hbase hfew hline hs hplain) λ_ _ _ q=>RE.joinM q
end
def Rr:R2:=λx y H Q=>∃a kvs k v,x=.ref a/\y=.str k/\H a=some (.dK kvs)/\Fj kvs (Sum.inr k:Key)=some v/\Q v H
def YY:V->V->V->Hp->(Hp->Prop)->Prop:=λo i v H Q=>∃a kvs k,o=.ref a/\i=.str k/\H a=some (.dK kvs)/\kvs.length<sizeLine/\Q (upd H a (.dK (DZ kvs (Sum.inr k:Key) v)))
section
variable{X:Cx}
theorem Yi:IxR X Rr:=by
 intro value slice fb s σ H x y v u Q I rx ry h hs;clear 5 h a kvs k z rfl rfl e l q
 cases rx
 obtain⟨_,_,vs,rel,dd⟩:=OV I.hok e;have g:DGet H a (kV (Sum.inr k:Key)) (some z):=by rw[<-l];exact DGet.k e
 have hT:=dd.typeIs;unfold subscriptTail;refine uo0 ?_;rw[getitemInPython_of_ne hT.not_modules];refine uo0 (gp hT PySem.F.slot_dict_getitem.lookup ?_);have get:wpAny (model X.prog X.w) X.A (getItem (.ref a) u) (EP X fb σ Q) X.xe s:=by
  clear 5(RelO.some_of (v:=z) (o:=valueAt vs (Sum.inr k:Key)) (by rw[<-l];exact rel.val _))w' hw rw';exact wpAny_getItem_of (O9 (k:=(Sum.inr k:Key)) ry) dd.mapOf hw ⟨z,H,I.tok _,rw',q⟩
 have fin:wpAny (model X.prog X.w) X.A (subscripted slice false (.ref a) u) (λr s₃=>wpAny (model X.prog X.w) X.A (letTemporaryGo value (.ref a) r >>= λ_=>pure r) (EP X fb σ Q) X.xe s₃) X.xe s:=by
  rw[hs];exact wpAny_operating (uo2 get (λr s₃ h₃=>uo0 (wpAny_letTemporaryGo (uo1 h₃))) λ_ _ x=>x)
 first
  |exact uo1 (uo0 fin)
  |exact uo0 (uo1 (uo0 fin))
  |exact uo0 fin
theorem WX:Su X YY:=by
 intro fb s σ H o i v ov iv u Q I ro ri rv h;clear 5 h a kvs k rfl rfl e l q
 cases ro
 clear 5(OV I.hok e)z hd vs rel dd;have hz:vs.length<=sizeLine:=by rw[<-rel.length];exact z
 have hl:(DZ kvs (Sum.inr k:Key) v).length<=sizeLine:=by have:=IU kvs (Sum.inr k:Key) v;lia
 refine wpAny_setItem_pairs (hsz:=hz) (O9 (k:=(Sum.inr k:Key)) ri) dd λh' dd' hs=>⟨_,?_,q⟩;have he:∃q,h'.get? a=some q:=let ⟨q,_,_,hq,_⟩:=dd';⟨q,hq⟩;exact NI I (by rw[e];exact True.intro) hs he (Qj hl hd (rel.put _ rv) dd')
end
noncomputable def B5(kvs:List (Key×D))(k:Key):Option D:=(kvs.find? λkv=>decide (kv.1=k)).map (·.2)
noncomputable def BI(kvs:List (Key×D))(k:Key)(d:D):List (Key×D):=
 if (kvs.any λkv=>decide (kv.1=k))=true then kvs.map (λkv=>if kv.1=k then(kv.1,d) else kv) else kvs++[(k,d)]
def AX:D->D->M D
 |.obj n,.str x=>λt=>match t.S[n]? with
   |some (.dct kvs)=>(B5 kvs (.inr x)).map λd=>(d,t)
   |_=>none
 |_,_=>fail
def GK:D->D->D->M Unit
 |.obj n,.str x,d=>λt=>match t.S[n]? with
   |some (.dct kvs)=>if kvs.length<LIM then some ((),{t with S:=t.S.set n (.dct (BI kvs (.inr x) d))}) else none
   |_=>none
 |_,_,_=>fail
def Hn(f g:M D)(d:D):M Unit:=bnd f λo=>bnd g λi=>GK o i d
def D3:List (Str×M D)->M (List (Key×D))
 |[]=>ret []
 |(k,f)::r=>bnd f λd=>bnd (D3 r) λps=>ret ((.inr k,d)::ps)
def Ej(ps:List (Key×D)):List (Key×D):=ps.foldl (λacc kv=>BI acc kv.1 kv.2) []
def Iw(n:Nat)(ps:List (Key×D)):M D:=λt=>match t.S[n]? with
 |some (.dct [])=>if ps.length<=15 then some (.obj n,{t with S:=t.S.set n (.dct (Ej ps))}) else none
 |_=>none
def Ep(l:List (Str×M D)):M D:=λt=>bnd (D3 l) (Iw t.S.length) {t with S:=t.S++[.dct []]}
def CB(i:Nat)(g:M D):M D:=λt=>match t.env[i]? with
 | some (some (.own _))=>bnd g (λj t1=>match j,t1.env[i]? with
   |.int j,some (some (.own xs))=>(atI xs j).map λd=>(d,t1)
   |_,_=>none) t
 |_=>none
section
variable{K:eh}{c:Cf}{H:Hp}
theorem KVR.get{us:List (Key×V)}{kvs:List (Key×D)}(r:KVR K c H us kvs)(k:Key){d:D}(e:B5 kvs k=some d):∃v,Fj us k=some v/\Rep K c H v d:=by
 unfold KVR at r
 induction r with
 |nil=>simp[B5] at e
 |@cons p q ps qs h t ih=>
   by_cases hk:p.1=k
   .have hq:q.1=k:=h.1.symm.trans hk;have:B5 (q::qs) k=some q.2:=by simp[B5,uj9,hq]
    rw[this] at e;cases e
    exact⟨p.2,Nm hk,h.2⟩
   .have hq:¬q.1=k:=λz=>hk (h.1.trans z);have:B5 (q::qs) k=B5 qs k:=by simp[B5,uj9,hq]
    rw[this] at e;rw[Nl hk];exact ih e
theorem KVR.any{us:List (Key×V)}{kvs:List (Key×D)}(r:KVR K c H us kvs)(k:Key):(us.any λkv=>decide (kv.1=k))=(kvs.any λkv=>decide (kv.1=k)):=by
 unfold KVR at r
 induction r with
 |nil=>rfl
 |@cons p q ps qs h t ih=>rw[ul5,ul5,ih,h.1]
theorem KVR.put{us:List (Key×V)}{kvs:List (Key×D)}(r:KVR K c H us kvs)(k:Key){v:V}{d:D}(rv:Rep K c H v d):KVR K c H (DZ us k v) (BI kvs k d):=by
 unfold DZ BI;rw[r.any k]
 by_cases q:(kvs.any λkv=>decide (kv.1=k))=true
 .rw[gW q,gW q];clear q;unfold KVR at r⊢
  induction r with
  |nil=>exact .nil
  |@cons p q ps qs h t ih=>
    rw[ul3,ul3];refine .cons ?_ ih
    by_cases e:p.1=k
    .rw[gW e,gW (h.1.symm.trans e)];exact⟨h.1,rv⟩
    .rw[gX e,gX (λz=>e (h.1.trans z))];exact h
 .rw[gX q,gX q];exact Paired.snoc r ⟨rfl,rv⟩
theorem KVR.length{us:List (Key×V)}{kvs:List (Key×D)}(r:KVR K c H us kvs):us.length=kvs.length:=Paired.length r
theorem KVR.mono{c':Cf}{H':Hp}{us:List (Key×V)}{kvs:List (Key×D)}(e:Ext c H c' H')(r:KVR K c H us kvs):KVR K c' H' us kvs:=Paired.mapP r λ_ _ z=>⟨z.1,z.2.mono e⟩
theorem KVR.merge:∀{ps:List (Key×D)}{us:List (Key×V)}{acc:List (Key×D)}{ua:List (Key×V)},KVR K c H us ps->KVR K c H ua acc->KVR K c H (FT ua us) (ps.foldl (λacc kv=>BI acc kv.1 kv.2) acc):=by
 intro ps us acc ua r;unfold KVR at r
 induction r generalizing acc ua with
 |nil=>intro q;exact q
 |@cons p q ps qs h t ih=>
   intro r0;refine ih ?_;show KVR K c H (DZ ua p.1 p.2) (BI acc q.1 q.2);have:=KVR.put r0 p.1 h.2;rw[<-h.1];exact this
theorem RC:A6 K Rr AX:=λ{Oo c t σ H x y dx dy r t' Q} f rx ry eq k=>by
 unfold AX at eq
 split at eq
 .next n z=>
  cases ry
  cases rx with
  |@obj a kk hk=>
    split at eq
    .next kvs es=>
     clear 5(uc2.mp eq)d e1 e2
     cases e2
     clear 5(f.s.obs _ a _ hk es)us g1 g2;clear 5(g2.get _ e1)v e3 e4;exact⟨a,us,z,v,rfl,rfl,g1,e3,k _ H c f .refl e4⟩
    .cases eq
 .cases eq
end
section
variable{X:Cx}{pos:Pos}{e:Expr}
theorem Qu{o i:Expr}{f g:M D}(ho:PE X o (RE X.K f))(hi:PE X i (RE X.K g))
 (ha:∀v,assign (.Subscript o i pos) X.env v=(do
   let ov <-holding [v] (eval o X.env)
   let iv <-holding [v,ov] (eval i X.env)
   standAt pos
   holding [v,ov,iv] (setItem ov iv v)
   release [v,ov,iv] []):=by intro _;rfl):PG X (.Subscript o i pos) (RG X.K (Hn f g)):=
 Gy (MS ho hi WX ha) λv σ H Q z9=>by
  clear 5 z9 Oo c t d fi rv t' eq k;clear 5(Ag eq)d0 t1 e1 eq;clear 5(Ag eq)di t2 e2 eq;refine⟨Oo,c,t,fi,_,t1,e1,λx H1 c1 f1 s1 rx=>⟨Oo,c1,t1,f1,di,t2,e2,λy H2 c2 f2 s2 ry=>?_⟩⟩;unfold GK at eq
  split at eq
  .next n z dd=>
   cases ry
   cases rx with
   |@obj a kk hk=>
     split at eq
     .next kvs es=>
      split at eq
      .next hl=>
       cases eq
       have hk2:=s2.ext.io _ _ hk;clear 5(f2.s.obs _ a _ hk2 es)us g1 g2;refine⟨a,us,z,rfl,rfl,g1,by rw[g2.length];exact Nat.lt_trans hl P2,?_⟩;have rv2:=rv.mono (s1.trans s2).ext;obtain⟨f3,s3⟩:=f2.wrObj (o:=.dct (BI kvs (.inr z) d)) (u:=.dK (DZ us (.inr z) v)) hk2 λc' H' ext hu=>⟨_,hu,(g2.put _ rv2).mono ext⟩;exact k σ _ c2 f3 ((s1.trans s2).trans s3)
      .cases eq
     .cases eq
  .cases eq
def RP(K:eh)(f:M (List (Key×D)))(σ:St)(H:Hp)(Q:List (V×V)->Hp->Prop):Prop:=
 ∃Oo c t,FInv K Oo c t σ H/\∃ps t',f t=some (ps,t')/\∀us H' c',FInv K Oo c' t' σ H'->Stp Oo c H c' H'->KVR K c' H' us ps->Q (us.map λkv=>(kV kv.1,kv.2)) H'
def PPf(X:Cx)(pos:Pos)(keys:List (Option Expr))(values:List Expr)(f:M (List (Key×D))):Prop:=
 ∃trs,PPs X pos keys values trs/\∀σ H Q,RP X.K f σ H Q->Kc trs σ H Q
theorem Vj:PPf X pos [] [] (D3 []):=⟨[],Wp,λσ H Q z9=>by
 clear 5 z9 Oo c t fi ps t' eq k
 cases eq
 exact k [] H c fi .refl .nil⟩
theorem Tf{k:Str}{j:Nat}{kp:Pos}{v:Expr}{ks:List (Option Expr)}{vs:List Expr}{f:M D}{r:List (Str×M D)}(hv:PE X v (RE X.K f))(hr:PPf X pos ks vs (D3 r)) :
 PPf X pos (some (.Constant (.str k) j kp)::ks) (v::vs) (D3 ((k,f)::r)):=by
 clear 5 hr trs h1 h2;refine⟨_,TM Rj hv h1,λσ H Q z9=>?_⟩;clear 5 z9 Oo c t fi ps t' eq kk;clear 5(Ag eq)d t1 e1 eq;clear 5(Ag eq)qs t2 e2 eq
 cases eq
 refine⟨Oo,c,t,fi,d,t1,e1,λy H1 c1 f1 s1 ry=>?_⟩;refine h2 σ H1 _ ⟨Oo,c1,t1,f1,qs,_,e2,λus H2 c2 f2 s2 ru=>?_⟩;exact kk ((.inr k,y)::us) H2 c2 f2 (s1.trans s2) (.cons ⟨rfl,ry.mono s2.ext⟩ ru)
theorem U5{keys:List (Option Expr)}{values:List Expr}{l:List (Str×M D)}(h:PPf X pos keys values (D3 l))(hall:keys.all (·.isSome)=true:=by rfl)(hl:keys.length=values.length:=by rfl)(h0:keys≠[]:=by exact List.cons_ne_nil _ _)
 (h15:keys.length<=15:=by exact ud0 rfl):PE X (.Dict keys values pos) (RE X.K (Ep l)):=by
 clear 5 h trs h1 h2;refine AI (Wd h1 hall hl h0 h15) λσ H Q z9=>?_;clear 5 z9 Oo c t fi r t' eq k;intro p hp;obtain⟨c1,f1,s1,e1⟩:=fi.newObj (o:=.dct []) (u:=.dK []) hp λc' H' ex hu=>⟨[],hu,.nil⟩;clear 5(Ag eq)ps t2 e2 eq;refine h2 σ _ _ ⟨Oo,c1,_,f1,ps,t2,e2,λus H2 c2 f2 s2 ru=>?_⟩;unfold Iw at eq
 split at eq
 .next es=>
  split at eq
  .next hl15=>
   cases eq
   have hk2:=s2.ext.io _ _ e1;clear 5(f2.s.obs _ p _ hk2 es)u0 g1 g2
   cases g2
   refine⟨g1,us,rfl,by rw[ru.length];exact hl15,?_⟩;obtain⟨f3,s3⟩:=f2.wrObj (o:=.dct (Ej ps)) (u:=.dK (FT [] us)) hk2 λc' H' ext hu=>⟨_,hu,(KVR.merge ru .nil).mono ext⟩;exact k _ _ c2 f3 (s1.trans (s2.trans s3)) (.obj hk2)
  .cases eq
 .cases eq
theorem SY(i:Nat){x:Str}{ix:Expr}{g:M D}{px:Pos}(hi:PE X ix (RE X.K g))(hs:Kj ix)(hN:X.N[i]?=some x:=by rfl)(hv:Vis X.env.scope x:=by walk_at"h")(hd:(x==("__debug__":Str))=false:=by decide)
 (hcd:(x==("__classdict__":Str))=false:=by decide):PE X (.Subscript (.Name x px) ix pos) (RE X.K (CB i g)):=
 AI (UH ix_list (E4 hN hv hd hcd) hi hs) λσ H Q z9=>by
  clear 5 z9 Oo c t fi r t' eq k;unfold CB at eq
  split at eq
  .next xs0 e0=>
   clear 5(Ag eq)j t1 e1 eq;clear 5(fi.own i xs0 e0)a vs0 h1 h2 h3 h4 h5;refine⟨.ref a,h1,Oo,c,t,fi,j,t1,e1,λy H1 c1 f1 s1 ry=>?_⟩
   split at eq
   .next j' xs ex=>
    clear 5(uc2.mp eq)d en ez
    cases ez
    cases ry
    clear 5(f1.own i xs ex)a' vs g1 g2 g3 g4 g5;rw[h1] at g1;injection g1 with g1;injection g1 with g1;injection g1 with g1;subst g1
    clear 5(GU g5 en)v e3 e4;exact⟨a,vs,j',v,rfl,rfl,SqL.of g4,e3,k _ H1 c1 f1 s1 e4⟩
   .cases eq
  .cases eq
end
section
variable{X:Cx}
end
section
variable{X:Cx}{pos:Pos}{e:Expr}{es:List Expr}
end
section
variable{prog:fh}{w:fj}{A:Around}{I:ff}{fp wr:List ff}{G:Array GenState->Array GenState->Prop}{n:Nat}{P:Nat->fc->Prop}{St:Nat->fg->Prop}
end
section
variable{X:Cx}
end
section
variable{X:Cx}{pos:Pos}{e:Expr}
end
noncomputable def Df(f:M Bool)(b:M Out):Nat->M Out
 |0=>λ_=>none
 |n+1=>λt=>match f t with
   |none=>none
   |some (false,t1)=>some (.next,t1)
   |some (true,t1)=>match b t1 with
     |some (.next,t2)=>Df f b n t2
     |some (.cont,t2)=>Df f b n t2
     |some (.brk,t2)=>some (.next,t2)
     |some (.ret x,t2)=>some (.ret x,t2)
     |none=>none
def GQ:Nat:=1000000
def Ip(f:M Bool)(b:M Out):M Out:=Df f b GQ
theorem RS.while{μ:Cf->Hp->D->(V->Hp->Prop)->Prop}{K:eh}{f:M Bool}{b:M Out}{E:Ends}{σ:L2.St}{H:Hp}(q:RSg K μ (Ip f b) E σ H):R0 (RT K f) (RSg K μ b) E σ H:=by
 clear 5 q Oo c t fi o t' eq k;refine⟨λm σ' H'=>∃c' t2,FInv K Oo c' t2 σ' H'/\Stp Oo c H c' H'/\Df f b m t2=some (o,t'),⟨GQ,c,t,fi,.refl,eq⟩,?_⟩;rintro m σ' H' ⟨c',t2,f2,s2,e2⟩
 cases m with
 |zero=>cases e2
 |succ m=>
 rw[Df] at e2;dsimp only at e2
 cases ef:f t2 with
 |none=>rw[ef] at e2;cases e2
 |some p=>
 clear 5 p r t3;rw[ef] at e2;refine⟨Oo,c',t2,f2,r,t3,ef,λH3 c3 f3 s3=>?_⟩
 cases r with
 |false=>
   cases e2
   exact k σ' H3 c3 f3 (s2.trans s3)
 |true=>
   rw[gW rfl];dsimp only at e2;refine⟨λσ4 H4=>∃c4 t4,FInv K Oo c4 t4 σ4 H4/\Stp Oo c H c4 H4/\Df f b m t4=some (o,t'),λσ4 H4 h=>⟨m,uh3 m,h⟩,?_⟩
   cases eb:b t3 with
   |none=>rw[eb] at e2;cases e2
   |some p=>
   clear 5 p ob t4;rw[eb] at e2;refine⟨Oo,c3,t3,f3,ob,t4,eb,λσ4 H4 c4 f4 s4=>?_⟩
   cases ob with
   |next=>exact⟨c4,t4,f4,(s2.trans s3).trans s4,e2⟩
   |cont=>exact⟨c4,t4,f4,(s2.trans s3).trans s4,e2⟩
   |brk=>
     cases e2
     exact k σ4 H4 c4 f4 ((s2.trans s3).trans s4)
   |ret x=>
     cases e2
     exact k σ4 H4 c4 f4 ((s2.trans s3).trans s4)
section
variable{X:Cx}{pos:Pos}
theorem Tg{μ:Cf->Hp->D->(V->Hp->Prop)->Prop}{e:Expr}{body:List Stmt}{f:M Bool}{b:M Out}(hp:PassesOwn (model X.prog X.w) X.A X.env X.xe)(hc:PT X e (RT X.K f))(hb:PSs X body (RSg X.K μ b)):PS X (.While e body [] pos) (RSg X.K μ (Ip f b)):=
 A5 (TQ hp hc hb) λ_ _ _ q=>RS.while q
end
section
variable{X:Cx}{tg:Expr}
end
section
variable{X:Cx}{pos:Pos}{e:Expr}{es:List Expr}
end
noncomputable def ER(H:Hp)(a:ff):Hp:=λb=>if b=a then none else H b
theorem TB{H:Hp}{a:ff}{o:HO}(h:H a=some o):upd (ER H a) a o=H:=by
 funext b
 by_cases e:b=a
 .subst e;rw[AJ];exact h.symm
 .rw[Av e];unfold ER;rw[gX e]
section
variable{K:eh}{Oo:ff->Prop}{c:Cf}{t:T}{σ:L2.St}{H:Hp}
theorem FInv.out(f:FInv K Oo c t σ H){i:Nat}{ds:List D}(e:t.env[i]?=some (some (.own ds))){a:ff}(ha:σ[i]?=some (some (.ref a))) :
 FInv K Oo ⟨c.ι,λb=>c.O b/\b≠a⟩ {t with env:=t.env.set i none} σ (ER H a)/\Stp Oo c H ⟨c.ι,λb=>c.O b/\b≠a⟩ (ER H a):=by
 clear 5(f.own i ds e)a' vs g1 g2 g3 g4 g5;rw[ha] at g1;injection g1 with g1;injection g1 with g1;injection g1 with g1;subst g1
 have ni:a∉c.ι:=f.s.dis a g2;have ext:Ext c H ⟨c.ι,λb=>c.O b/\b≠a⟩ (ER H a):=by
  refine⟨λb o hb hn=>?_,λb o hb z=>?_,λk b h=>h⟩
  .unfold ER;rw[gX λz=>hn (by rw[z];exact .inr g2)];exact hb
  .rcases z with z|z
   .exact .inl z
   .exact .inr z.1
 have stp:Stp Oo c H ⟨c.ι,λb=>c.O b/\b≠a⟩ (ER H a):=⟨ext,λb hb=>by unfold ER;rw[gX λz=>g3 (by rw[<-z];exact hb)]⟩;have old:∀{j:Nat}{x:Sl},(t.env.set i none)[j]?=some (some x)->j≠i/\t.env[j]?=some (some x):=λ{j x} q=>by
  by_cases h:j=i
  .subst h;rw[ug7] at q
   split at q
   .split at q<;>simp at q
   .contradiction
  .exact⟨h,by rw[ud8 (Ne.symm h)] at q;exact q⟩
 refine⟨⟨⟨f.s.len,f.s.nd,λk b o e1 e2=>?_,λb hb=>?_,λb hb=>f.s.dis b hb.1⟩,by simpa using f.len,λb hb=>⟨f.sub b hb,λz=>g3 (by rw[<-z];exact hb)⟩,λj d q=>?_,λj es q=>?_,λj k es fs b q1 q2 q3 q4=>?_⟩,stp⟩
 .refine(f.s.obs k b o e1 e2).mono ext ?_;unfold ER;rw[gX λz=>ni (by rw[<-z];exact ud9 e1)]
 .clear 5(f.s.trk b hb.1)o ho;exact⟨o,by unfold ER;rw[gX hb.2];exact ho⟩
 .clear 5(f.val j d (old q).2)v h1 h2;exact⟨v,h1,h2.mono ext⟩
 .clear 5(old q)nj q';clear 5(f.own j es q')b us k1 k2 k3 k4 k5;have nb:b≠a:=λz=>nj (f.inj j i es ds a q' e (by rw[k1,z]) ha);exact⟨b,us,k1,⟨k2,nb⟩,k3,by unfold ER;rw[gX nb];exact k4,k5.mono ext⟩
 .exact f.inj j k es fs b (old q1).2 (old q2).2 q3 q4
end
noncomputable def GG(i:Nat):M Out:=λt=>match t.env[i]? with
 |some (some (.own xs))=>some (.ret (.lst xs),{t with env:=t.env.set i none})
 |_=>none
def Hj(f:M (List D)):M Out:=bnd f λds=>ret (.ret (.lst ds))
section
variable{g:Fn}{fa:ff}{fd:fk}
section
variable{X:Cx}{pos:Pos}{e:Expr}{es:List Expr}
theorem NT{f:M (List D)}(h:PE X e (RF X.K f)):PS X (.Return (some e) pos) (RSg X.K (μF X.K) (Hj f)):=
 A5 (Ih h) λE σ H z9=>by
  clear 5 z9 Oo c t fi o t' eq k;clear 5(Ag eq)ds t1 e1 eq
  cases eq
  exact⟨Oo,c,t,fi,ds,_,e1,λp us H1 c1 f1 s1 ru hp=>k σ H1 c1 f1 s1 p us hp ru⟩
theorem QD(i:Nat){x:Str}{px:Pos}(hN:X.N[i]?=some x:=by rfl)(hv:Vis X.env.scope x:=by walk_at"h")(hd:(x==("__debug__":Str))=false:=by decide)
 (hcd:(x==("__classdict__":Str))=false:=by decide):PS X (.Return (some (.Name x px)) pos) (RSg X.K (μF X.K) (GG i)):=
 A5 (Ih (E4 hN hv hd hcd)) λE σ H z9=>by
  clear 5 z9 Oo c t fi o t' eq k;unfold GG at eq
  split at eq
  .next xs ex=>
   cases eq
   clear 5(fi.own i xs ex)a vs h1 h2 h3 h4 h5;refine⟨.ref a,h1,?_⟩;clear 5(fi.out ex h1)f2 s2;have:=k σ (ER H a) _ f2 s2 a vs (by unfold ER;rw[gW rfl]) (h5.mono s2.ext);rw[TB h4] at this;exact this
  .cases eq
inductive spFF(K:eh)(f:Fn)(vs:List V)(H:Hp)(Q:VK)(E:XK):Prop where
 |mk (c:Cf) (ds:List D) (S:List Ob) (si:SInv K c S H) (rp:Reps K c H vs ds) (rs:List D) (S':List Ob) (e:f ds S=some (.lst rs,S')) (k:∀p us H' c',SInv K c' S' H'->Stp c.O c H c' H'->(∀b,c'.O b↔c.O b)->Reps K c' H' us rs->H' p=none->Q (.ref p) (upd H' p (.lst us))):spFF K f vs H Q E
def D2(g:Fn)(f:M (List D)):M (List D):=bnd f λds t=>match g ds t.S with
 |some (.lst rs,S')=>some (rs,{t with S:=S'})
 |_=>none
theorem OR{ds:List D}{t:T}{rs:List D}{t':T}(h:(match g ds t.S with|some (.lst rs,S')=>some (rs,{t with S:=S'})|_=>none:Option (List D×T))=some (rs,t')):∃S',g ds t.S=some (.lst rs,S')/\t' = {t with S:=S'}:=by
 split at h
 .next rs' S' e=>cases h;exact⟨S',e,rfl⟩
 .cases h
theorem SZ{k:Nat}{ps:List Str}{f:M (List D)}{x:Str}{p:Pos}(F:FnOk X.prog X.w X.K X.mg X.base CX0 k fa fd ps (spFF X.K g))(hr:Room k X.A)(hg:Gl X x)(hm:X.mg x=some (.ref fa))(hk:PySem.W.keepIn X.K (.ref fa)=true)(hb:Binds X.K fd ps [])
 (ha:PA X (e::es) (RA X.K f)) (hdb:(x==("__debug__":Str))=false:=by decide) (h1:A8 e=false:=by rfl) (h2:A1 es=true:=by rfl) :
 PE X (.Call (.Name x p) (e::es) [] pos) (RF X.K (D2 g f)):=
 AI (N9 F hr hg hm hk hb .nil LJ ha hdb (A4 h1) (AV h2).1) λσ H Q z9=>by
  clear 5 z9 Oo c t fi rs t' eq kk;clear 5(Ag eq)ds t1 e1 eq;clear 5(OR eq)S' e2 rfl;refine⟨Oo,c,t,fi,ds,t1,e1,λvs H1 c1 f1 s1 rvs=>?_⟩;show spFF X.K g (vs++[]) H1 Q E0;rw[uj3];refine⟨c1,ds,t1.S,f1.s,rvs,rs,S',e2,λp us H' c' si st ho ru hp=>?_⟩;clear 5(f1.after si st ho)f2 s2;exact kk p us H' c' f2 (s1.trans s2) ru hp
end
theorem Vf{P:fh}{w:fj}{K:eh}{mg:Str->Option fc}{base:Heap}{x qual:Str}{st:Stmt}{N ps:List Str}{k n m:Nat}{g:M Out}(e1:ps.length=n)(e2:N.length=m)(F:Fun K x qual st fa fd)(S:FnScope N ps (AA st))
 (hb:∀(cdv:fc) (A:Around) (outer:List Env) (s:fg) (H:Hp) (E:XK),Room k (A.deeper (PyProof.Rows.envOfC qual (AA st) s.heap.objs.size fa cdv))->
   PSs (EG CX0 P w K mg base N qual (AA st) fa cdv A outer s H E).nox (CA st) (RSg K (μF K) g)):FnOk P w K mg base CX0 (k+1) fa fd ps (spFF K (fnOf n m g)):=by
 subst e1 e2;have hlen:∀{ds:List D}{S:List Ob}{z:D×List Ob},fnOf ps.length N.length g ds S=some z->ds.length=ps.length:=λ{ds S z} h=>by
  unfold fnOf at h
  split at h
  .next h1=>exact h1
  .cases h
 refine F.ok S (λvs H Q E h=>?_) (λcdv A outer s H vs Q E hr h=>?_)
 .obtain⟨c,ds,S,si,rs,r,S',e,_⟩:=h;rw[rs.length];exact hlen e
 clear 5 h c ds S0 si rs r S' e kk;refine⟨RSg K (μF K) g,hb cdv A outer s H E hr,?_⟩;have hl:=hlen e;unfold fnOf at e;rw[gW hl] at e
 cases eg:g ⟨env0 N.length ds,S0⟩ with
 |none=>rw[eg] at e;cases e
 |some p=>
   clear 5 p o t;rw[eg] at e;refine⟨c.O,c,_,G9 si rs,o,t,eg,λσ' H' c' f' s'=>?_⟩;clear 5 f'.leave si' ext';have st':Stp c.O c H ⟨c'.ι,c.O⟩ H':=⟨s'.ext.trans ext',s'.oo⟩
   cases o with
   |next=>cases e
   |ret d=>
     cases e
     exact λp us hp ru=>kk p us H' _ si' st' (λ_=>gU) (ru.mono ext') hp
   |brk=>cases e
   |cont=>cases e
theorem WE{P:fh}{w:fj}{K:eh}{mg:Str->Option fc}{base:Heap}{ps:List Str}{k:Nat}{f:Fn}(e:f=g)(h:FnOk P w K mg base CX0 k fa fd ps (spFF K g)):FnOk P w K mg base CX0 k fa fd ps (spFF K f):=by rw[e];exact h
end
section
variable{X:Cx}
theorem V9{o:Expr}{to:TE}{apos cpos:Pos}(ho:PE X o to)(hbase:attributeBase o "bit_length" X.env (eval o X.env)=eval o X.env:=by rfl)(hline:(apos.endLine==cpos.line)=true:=by rfl) :
 PE X (.Call (.Attribute o "bit_length" apos) [] [] cpos) (λσ H Q=>to σ H λv H1=>∃i,v=.int i/\Q (.int (Builtin.Int.intBits i:Nat)) H1):=by
 intro fb s σ H Q I h;refine Call_method0 hbase hline (thn (ho fb s σ H _ I h) λu s1 z9=>?_);clear 5 z9 v H1 I1 rv i ex q;subst ex;clear 5 rv t rfl;exact⟨"int", "int.bit_length",PySem.F.plainAttrs_int,ua3,PySem.F.type_int_bit_length,gM _ _ _,(λ_ e=>nomatch e),
  method0_gives ua3 PySem.F.entry_int_bit_length (gM _ _ _) (PySem.F.args_int_bit_length_1 _) (PySem.AutoIntG2.int_bit_length_int_0 i t) ⟨.int (Builtin.Int.intBits i:Nat),H1,I1.tok _,⟨_,rfl⟩,q⟩⟩
end
def Jx:D->M D
 |.int i=>ret (.int (Builtin.Int.intBits i:Nat))
 |_=>fail
section
variable{X:Cx}{pos:Pos}{e:Expr}{es:List Expr}
theorem Qp{o:Expr}{f:M D}{apos cpos:Pos}(ho:PE X o (RE X.K f))(hbase:attributeBase o "bit_length" X.env (eval o X.env)=eval o X.env:=by rfl)(hline:(apos.endLine==cpos.line)=true:=by rfl) :
 PE X (.Call (.Attribute o "bit_length" apos) [] [] cpos) (RE X.K (fUn f Jx)):=
 AI (V9 ho hbase hline) λσ H Q z9=>by
  clear 5 z9 Oo c t fi r t' eq k;clear 5(Ag eq)d t1 e1 eq;refine⟨Oo,c,t,fi,d,t1,e1,λx H1 c1 f1 s1 rx=>?_⟩;unfold Jx at eq
  split at eq
  .next i=>
   cases eq
   cases rx
   exact⟨i,rfl,k _ H1 c1 f1 s1 (.int _)⟩
  .cases eq
end
section
variable{X:Cx}{b elt:Expr}{pos:Pos}
end
theorem Inv.turnedL{X:Cx}{fb:List (ff×Obj)}{σ:St}{H:Hp}{s:fg}{h':Heap}{t':Nat}(fp:List ff)(I:Inv X fb σ H s)(hf:∀b∈fp,FpOk X fb H b)(k:∀b o,b∉fp->s.heap.get? b=some o->h'.get? b=some o):Inv X fb σ H {s with heap:=h',toks:=t'}:=by
 have nit:∀b u,H b=some u->b∉fp:=λb u e z=>by rw[(hf b z).1] at e;cases e
 refine I.step (g':=s.gens) (d':=s.drawn) (ch:=fp) (λb hb=>?_) (λb o _ _ hc e _=>k b o hc e) (λb o _ _ hc e _=>⟨o.slots,k b o hc e⟩) (λ_ _ _ _ n=>n)
  (λb o hc e=>⟨o,k b o hc e⟩) (λ_ _ e=>e) (λ_ _ _ e=>e) (λb ps e=>⟨#[],by rw[e];simp⟩) (λm hm=>?_) (λb u e=>?_) I.bare
 .obtain⟨_,h1,_,h3,h4,h5⟩:=hf b hb;exact⟨h3,h1,h4,h5⟩
 .clear 5 hm o es ep ho r;exact⟨o,es,ep,k _ o (λz=>(hf _ z).2.1 rfl) ho,r⟩
 .refine(I.hok b u e).stay (λc v hc q=>k c v ?_ q) (λ_ q=>q) λ_ _ q=>q;rcases hc with z|z
  .rw[z];exact nit b u e
  .exact nit c _ z
def Ite(K:eh)(a:ff):It:=
 ⟨λi H=>∃xs x,SqL K H a xs/\xs[i]?=some x,λi H x H'=>∃p v,x=.ref p/\H p=none/\(∀xs,SqL K H a xs->xs[i]?=some v)/\H'=upd H p (.tup [.int i,v]),λi H=>∃xs,SqL K H a xs/\xs.length<=i⟩
theorem R6{P:fh}{w:fj}{K:eh}{elts:List Expr}{n:Nat}{pos:Pos}(a e it:ff)(hne:e≠it):Turn P w K (.Tuple elts n pos) (Ite K a) [e,it] e (λi h=>(∃old,IsEnum h e it i old)/\h.IsListIter it a i) where
 mem:=by simp
 obj:=λi h st b hb=>by
  obtain⟨⟨old,h1⟩,o,e1,c,d⟩:=st;simp only[ul2,ui2,gR] at hb;rcases hb with rfl|rfl
  .exact⟨_,h1,λv z=>by have z':Data.fields _=Data.cell v:=z;cases z'⟩
  .exact⟨o,e1,λv z=>by rw[d] at z;cases z⟩
 keep:=λi h h' st k=>⟨by obtain⟨⟨old,h1⟩,_⟩:=st;exact⟨old,k e (by simp) _ h1⟩,st.2.at λo e=>k it (by simp) o e⟩
 item:=by
  intro X hP hw hK hc i fb s σ H E I hf st hg;subst hP hw hK;clear 5 hg xs x hq hx;clear 5(I.list hq)its rv p hz;clear 5(rv.get hx)u hu ru;obtain⟨⟨old,st1⟩,st2⟩:=st;refine wpAny_pyNext_enum_item st1 st2 p.isList (x:=u) (by simpa using hu) hne λh' so st2' hT hsz kk=>?_;refine⟨_,rfl,?_⟩;refine wpAny_letOwnedTupleGo_enum so λh2 st1' sb=>?_;have fe:=hf e (by simp);have fi:=hf it (by simp);have le:e<s.heap.objs.size:=um1 st1;have li:it<s.heap.objs.size:=by obtain⟨o,e1,_,_⟩:=st2;exact um1 e1
  have hfr:H s.heap.objs.size=none:=I.hok.fresh (un5 _);have h2T:h2.get? s.heap.objs.size=some {cls:=.type "tuple",data:=.seq #[.int (i:Nat) s.toks,u]}:=(sb.2 _ (um5 le)).trans hT;have I1:Inv X fb σ (upd H s.heap.objs.size (.tup [.int (i:Nat),x])) {s with heap:=s.heap.push {cls:=.type "tuple",data:=.seq #[.int (i:Nat) s.toks,u]},toks:=s.toks}:=
   I.laid (t':=s.toks) (λb u e=>ub9 _ e) (un5 _) ⟨by show 2<=sizeLine;decide,[.int (i:Nat) s.toks,u],.cons ⟨_,rfl⟩ (.cons ru .nil),⟨_,ue4 _ rfl,rfl,_,rfl⟩⟩
  have hup:∀b,b≠s.heap.objs.size->upd H s.heap.objs.size (.tup [.int (i:Nat),x]) b=H b:=λb hb=>Av hb;have fp':∀b∈[e,it],FpOk X fb (upd H s.heap.objs.size (.tup [.int (i:Nat),x])) b:=λb hb=>by
   clear 5(hf b hb)g0 g1;refine⟨?_,g1⟩;rw[hup b ?_];exact g0;simp only[ul2,ui2,gR] at hb;rcases hb with rfl|rfl
   .exact um2 le
   .exact um2 li
  refine⟨.ref s.heap.objs.size,upd H s.heap.objs.size (.tup [.int (i:Nat),x]),?_,rfl,⟨_,x,rfl,hfr,λys hy=>by rw[I.list_inj hy hq];exact hx,rfl⟩,⟨⟨_,by simpa using st1'⟩,?_⟩,λb hb=>(fp' b hb).1⟩
  .have I2:=Inv.turnedL (h':=h2) (t':=s.toks + 1) [e,it] I1 fp' λb o hb eb=>(by
    simp only[ul2,ui2,gR,not_or] at hb;rcases Heap.get?_push_cases eb with⟨rfl,rfl⟩|eb'
    .exact h2T
    .exact(sb.2 b hb.1).trans (kk b o hb.1 hb.2 eb'))
   exact I2
  .exact st2'.at λo e1=>(sb.2 it (Ne.symm hne)).trans e1
 done:=by
  intro X hP hw hK hc i fb s σ H E I hf st hg;subst hP hw hK;clear 5 hg xs hq hx;clear 5(I.list hq)its rv p hz;obtain⟨⟨old,st1⟩,st2⟩:=st;have hl:=rv.length;refine wpAny_pyNext_enum_end (I.ok.hd hc) st1 st2 p.isList (by simp;lia) λh' eb=>⟨rfl,?_⟩;exact Inv.turnedL [e,it] (t':=s.toks) I hf λb o hb e1=>eb b o (λz=>hb (by simp[z])) e1
 self:=λ_ _ _ _ _ st h=>by obtain⟨⟨old,h1⟩,_⟩:=st;exact wpAny_pyIter_enum h1 h
def ZX(K:eh)(ta:TA):TI:=λσ H R=>ta σ H λvs H1=>∃a xs,vs=[.ref a]/\SqL K H1 a xs/\R (Ite K a) H1
theorem Wj{X:Cx}{e:Expr}{ta:TA}{elts:List Expr}{n:Nat}{tpos p pos:Pos}(hg:Gl X "enumerate")(hm:X.mg "enumerate" = none)(ha:PA X [e] ta)(hs:starEach [e] X.env=[(false,eval e X.env)]:=by rfl) :
 PI X (.Tuple elts n tpos) (.Call (.Name "enumerate" p) [e] [] pos) (ZX X.K ta):=by
 intro fb s σ H R I h;refine Call_ (GC I hg hm boot_enumerate (ua2 (thn (ha pos fb s σ H _ I h) λus s1 z9=>?_) hs rfl));clear 5 z9 vs H1 I1 r1 q1;clear 5 q1 a xs ev hq q;subst ev
 cases r1 with
 |cons r rr=>
   cases rr
   cases r
   clear 5(I1.list hq)its rv pl hz;refine call_enumerate_list pl.isList λh' e1 e2 e3 kk=>?_;refine wpAny_pyIter_enum e1 ?_;have hfp:∀b∈[s1.heap.objs.size+1,s1.heap.objs.size],FpOk X fb H1 b:=λb hb=>by
    have hb':s1.heap.objs.size<=b:=by
     simp only[ul2,ui2,gR] at hb;lia
    exact I1.fpOk hb' (I1.hok.fresh hb')
   exact⟨s1.heap.objs.size+1,[s1.heap.objs.size+1,s1.heap.objs.size],_,_,H1,rfl,I1.kept (t':=s1.toks) kk,R6 a (s1.heap.objs.size+1) s1.heap.objs.size (Nat.succ_ne_self _),⟨⟨_,e1⟩,e2⟩,hfp,q⟩
structure ItOk2(K:eh)(J:It)(c:Cf)(H:Hp)(ds:List D):Prop where
 go:∀c' H' (i:Nat),Ext c H c' H'->i<ds.length->J.go i H'
 yld:∀c' H' (i:Nat) x H'' d,Ext c H c' H'->ds[i]?=some d->J.yld i H' x H''->∃p vs es,x=.ref p/\H' p=none/\H''=upd H' p (.tup vs)/\d=.tup es/\Reps K c' H' vs es
 stop:∀c' H',Ext c H c' H'->J.stop ds.length H'
inductive RI2(K:eh)(f:M (List D))(σ:L2.St)(H:Hp)(R:It->Hp->Prop):Prop where
 |mk (Oo:ff->Prop) (c:Cf) (t:T) (fi:FInv K Oo c t σ H) (ds:List D) (t':T) (e:f t=some (ds,t')) (k:∀J H' c',FInv K Oo c' t' σ H'->Stp Oo c H c' H'->ItOk2 K J c' H' ds->R J H'):RI2 K f σ H R
section
variable{K:eh}{f:M (List D)}
theorem RS.for2{μ:Cf->Hp->D->(V->Hp->Prop)->Prop}{g:D->M Unit}{b:M Out}{E:Ends}{σ:L2.St}{H:Hp}(q:RSg K μ (Bj f g b) E σ H):Ug (RI2 K f) (RG K g) (RSg K μ b) E σ H:=by
 clear 5 q Oo c t fi o t' eq k;clear 5(Ag eq)ds t1 e1 eq;refine⟨Oo,c,t,fi,ds,t1,e1,λJ H1 c1 f1 s1 it=>?_⟩;refine⟨λi m σ' H'=>m=ds.length-i/\i<=ds.length/\∃c' t2,FInv K Oo c' t2 σ' H'/\Stp Oo c1 H1 c' H'/\Bv g b (ds.drop i) t2=some (o,t'),⟨_,rfl,un6 _,c1,t1,f1,.refl,by rw[uk9];exact eq⟩,?_⟩;rintro i m σ' H' ⟨rfl,hi,c',t2,f2,s2,e2⟩
 by_cases hlt:i<ds.length
 .refine .inr ⟨it.go c' H' i s2.ext hlt,λσ3 H3=>∃c3 t3,FInv K Oo c3 t3 σ3 H3/\Stp Oo c1 H1 c3 H3/\Bv g b (ds.drop (i+1)) t3=some (o,t'),λσ3 H3 h=>⟨ds.length-(i+1),by lia,rfl,hlt,h⟩,λx H'' hy=>?_⟩;clear 5(it.yld c' H' i x H'' _ s2.ext (ub2 hlt) hy)p vs es rfl hp rfl ed rx;rw[ub0 hlt,ed] at e2;unfold Bv at e2
  cases e3:g (.tup es) t2 with
  |none=>rw[e3] at e2;cases e2
  |some p3=>
    clear 5 p3 u t3;rw[e3] at e2
    try dsimp only at e2
    have s2':Stp Oo c1 H1 c' (upd H' p (.tup vs)):=s2.trans (f2.stp_laid hp);refine⟨Oo,c',t2,_,f2.laid hp,.tup AJ (f2.s.free hp) (rx.mono (Ext.laid f2.s hp)),t3,e3,λσ3 H3 c3 f3 s3=>?_⟩
    cases e4:b t3 with
    |none=>rw[e4] at e2;cases e2
    |some p4=>
      clear 5 p4 o4 t4;rw[e4] at e2
      try dsimp only at e2
      refine⟨Oo,c3,t3,f3,o4,t4,e4,λσ5 H5 c5 f5 s5=>?_⟩;have s':=(s2'.trans s3).trans s5
      cases o4 with
      |next=>exact⟨c5,t4,f5,s',e2⟩
      |cont=>exact⟨c5,t4,f5,s',e2⟩
      |brk=>cases e2;exact k σ5 H5 c5 f5 (s1.trans s')
      |ret r=>cases e2;exact k σ5 H5 c5 f5 (s1.trans s')
 .have hi':i=ds.length:=by lia
  subst hi';rw[ui0] at e2
  cases e2
  exact .inl ⟨it.stop c' H' s2.ext,k σ' H' c' f2 (s1.trans s2)⟩
noncomputable def Eo:Nat->List D->List D
 |_,[]=>[]
 |i,d::r=>.tup [.int (i:Nat),d]::Eo (i+1) r
theorem HG:∀(ds:List D) (i:Nat),(Eo i ds).length=ds.length
 |[],_=>rfl
 |d::r,i=>by rw[Eo,uh2,uh2,HG r]
theorem Lf:∀(ds:List D) (i j:Nat),(Eo i ds)[j]?=(ds[j]?).map λd=>.tup [.int ((i+j:Nat):Int),d]
 |[],_,_=>by simp[Eo]
 |d::r,i,0=>rfl
 |d::r,i,j+1=>by
   rw[Eo,ub6,ub6,Lf r (i+1) j]
   congr 1
   funext d
   rw[show i+1+j=i+(j+1) by lia]
def Uy:List D->M (List D)
 |[.lst ds]=>ret (Eo 0 ds)
 |_=>fail
def LF(f:M (List D)):M (List D):=bnd f Uy
theorem ItOk2.enum{c:Cf}{H:Hp}{p:ff}{ds:List D}(r:∀c' H',Ext c H c' H'->∃vs,SqL K H' p vs/\Reps K c' H' vs ds):ItOk2 K (Ite K p) c H (Eo 0 ds):=by
 refine⟨λc' H' i ex hi=>?_,λc' H' i x H'' d ex hd hy=>?_,λc' H' ex=>?_⟩
 .clear 5(r c' H' ex)vs h1 h2;rw[HG] at hi;obtain⟨v,e,_⟩:=h2.at (ub2 hi);exact⟨vs,v,h1,e⟩
 .clear 5(r c' H' ex)vs h1 h2;clear 5 hy q v rfl hq hs rfl;have hv:=hs vs h1;rw[Lf] at hd;clear 5(uc2.mp hd)d' e1 rfl;clear 5(h2.at e1)v' e2 rv;rw[hv] at e2
  cases e2
  rw[Nat.zero_add];exact⟨q,_,_,rfl,hq,rfl,rfl,.cons (.int _) (.cons rv .nil)⟩
 .clear 5(r c' H' ex)vs h1 h2;exact⟨vs,h1,by rw[HG,h2.length];exact un5 _⟩
section
variable{X:Cx}{pos:Pos}{e:Expr}
theorem NQ{μ:Cf->Hp->D->(V->Hp->Prop)->Prop}{tg iter:Expr}{body:List Stmt}{g:D->M Unit}{b:M Out}(hp:PassesOwn (model X.prog X.w) X.A X.env X.xe)(hc:X.calm=true)(hi:PI X tg iter (RI2 X.K f))(hg:PG X tg (RG X.K g))(hb:PSs X body (RSg X.K μ b))
 (hs:∀x,foldedSetIterable iter X.env x=pure x:=by intro _;rfl):PS X (.For tg iter body [] pos) (RSg X.K μ (Bj f g b)):=
 A5 (Ro hp hc hi hg hb hs) λ_ _ _ q=>RS.for2 q
theorem Va{elts:List Expr}{n:Nat}{tpos p:Pos}(hg:Gl X "enumerate")(hm:X.mg "enumerate" = none)(ha:PA X [e] (RA X.K f))(h1:A8 e=false:=by rfl):PI X (.Tuple elts n tpos) (.Call (.Name "enumerate" p) [e] [] pos) (RI2 X.K (LF f)):=
 Jq (Wj hg hm ha (A4 h1)) λσ H R z9=>by
  clear 5 z9 Oo c t fi ds t' eq k;clear 5(Ag eq)xs t1 e1 eq;refine⟨Oo,c,t,fi,xs,t1,e1,λvs H1 c1 f1 s1 rv=>?_⟩;unfold Uy at eq
  split at eq
  .next es=>
   cases eq
   cases rv with
   |cons r rs=>
     cases rs
     cases r with
     |@lst a ws _ g1 g2 g3=>exact⟨a,ws,rfl,SqL.of g1,k _ H1 c1 f1 s1 (ItOk2.enum λc' H' ex=>⟨ws,SqL.of (ex.keep _ _ g1 g2),g3.mono ex⟩)⟩
  .cases eq
end
def Py:D->D->M (List D)
 |.lst xs,.int k=>λt=>if B9 k=true/\xs.length*k.toNat<=LIM then some ((List.replicate k.toNat xs).flatten,t) else none
 |_,_=>fail
theorem Ub:LB K Y3 Py:=λ{Oo c t σ H x y dx dy r t' Q} f rx ry eq k=>by
 cases rx with
 |@lst a vs ds h1 h2 h3=>
   cases ry with
   |int j=>
     unfold Py at eq;dsimp only at eq
     split at eq
     .next h=>
      cases eq
      clear 5(E6 h.1)g1 g2;exact⟨a,j,vs,rfl,rfl,h1,by lia,by lia,by rw[h3.length];exact um3 h.2 Da,λp hp=>k p _ H c f .refl (h3.rep _) hp⟩
     .cases eq
   |_=>cases eq
 |_=>cases eq
end
section
variable{X:Cx}
end
section
variable{X:Cx}{pos:Pos}{e:Expr}{es:List Expr}
end
section
variable{X:Cx}{e ek:Expr}{p2 pos:Pos}{te:TE}{tk:TO}
end
section
variable{X:Cx}
end
section
variable{X:Cx}
end
section
variable{X:Cx}{pos:Pos}
end
theorem Lx{x y:Int}(h0:0<y)(h1:y<18446744073709551616):Builtin.divisionGoesByPylong x y=false:=by
 unfold Builtin.divisionGoesByPylong;have hl:y.natAbs.log2<64:=(Nat.log2_lt (by lia)).mpr (by show y.natAbs<2 ^ 64;lia);have e:(y==0)=false:=by rw[gb];lia
 simp only[e,uf6,gQ];rw[Bool.and_eq_false_iff];left;rw[decide_eq_false_iff_not];lia
def Ut(i j:Int):Prop:=0<j/\j<18446744073709551616
section
variable{X:Cx}
theorem La{i:Int}(h:i.natAbs<2 ^ 512):Builtin.Int.intBits i<=2 ^ 20:=by
 unfold Builtin.Int.intBits
 split
 .exact un6 _
 .next z=>
  have hz:i.natAbs≠0:=by
   intro e;have:i=0:=by lia
   subst this;exact z rfl
  have:=(Nat.log2_lt hz).mpr h;lia
def Uu(i j:Int):Prop:=i.natAbs<2 ^ 512/\j.natAbs<2 ^ 512
theorem V8:OpR X (binaryOp .Mult) (rI Uu λi j=>.int (i*j)):=opI λ_ _ _ _ _ _ _ hc q=>mul_int q (IntMulOk.of_bits (La hc.1) (La hc.2))
theorem Tz:OpR X (binaryOp .FloorDiv) (rI Ut λi j=>.int (i/j)):=opI λi j _ _ _ _ _ hc q=>by
 have h1:(0:Int)<j:=hc.1;exact floordiv_int (by lia) (by rw[ua4 i (by lia)];exact q) (.inl (Lx hc.1 hc.2))
end
noncomputable def Ml(i j:Int):Bool:=decide (0<j)&&decide (j<18446744073709551616)
def Iz:=i2C Ml λi j=>.int (i/j)
theorem RD{K:eh}:A6 K (rI Ut λi j=>.int (i/j)) Iz:=Fz (λi j h=>by
 unfold Ml at h;rw[uh6,ug9,ug9] at h;exact h) λ_ _ _ _=>.int _
noncomputable def MF(i j:Int):Bool:=decide (i.natAbs<2 ^ 512)&&decide (j.natAbs<2 ^ 512)
def Jd:=i2C MF λi j=>.int (i*j)
theorem Ua{K:eh}:A6 K (rI Uu λi j=>.int (i*j)) Jd:=Fz (λi j h=>by
 unfold MF at h;rw[uh6] at h;exact⟨uh0 h.1,uh0 h.2⟩) λ_ _ _ _=>.int _
section
variable{X:Cx}
end
section
variable{X:Cx}
end
section
variable{X:Cx}
end
section
variable{X:Cx}{pos:Pos}{e:Expr}{es:List Expr}
end
section
variable{X:Cx}
end
def NL:List (Int×M D)->M (List (Key×D))
 |[]=>ret []
 |(k,f)::r=>bnd f λd=>bnd (NL r) λps=>ret ((.inl k,d)::ps)
def dA(l:List (Int×M D)):M D:=λt=>bnd (NL l) (Iw t.S.length) {t with S:=t.S++[.dct []]}
noncomputable def Pa:List (Key×D)->Option (List Int)
 |[]=>some []
 |(.inl k,_)::r=>(Pa r).map (k :: ·)
 |_=>none
section
variable{K:eh}{c:Cf}{H:Hp}
end
section
variable{X:Cx}{pos:Pos}{e b:Expr}
end
noncomputable def tb(led:Bool)(pl:List Nat):SetTable:={mask:=7,place:=pl.toArray,dummies:=#[],finger:=0,led:=led,moves:=0,plain:=true}
noncomputable def pls:Nat->List (List Nat)
 |0=>[[]]
 |k+1=>(pls k).flatMap λl=>(List.range 8).filterMap λj=>if l.all (· < j) then some (l++[j]) else none
section
variable{P:fh}{w:fj}{A:Around}{E:fc->fg->Prop}{s:fg}
end
section
variable{P:fh}{w:fj}{A:Around}{I:ff}{fp wr:List ff}{G:Array GenState->Array GenState->Prop}{n:Nat}{Pr:Nat->fc->Prop}{St:Nat->fg->Prop}
end
section
variable{P:fh}{w:fj}{A:Around}{E:fc->fg->Prop}{s:fg}
end
section
variable{prog:fh}{w:fj}{A:Around}
end
section
variable{X:Cx}
end
section
variable{X:Cx}{pos:Pos}{e:Expr}
end
section
variable{P:fh}{w:fj}{A:Around}{E:fc->fg->Prop}{s:fg}
structure ZT(h:Heap)(z TI TO i1 i2 t1 t2:ff)(n:Nat):Prop where
 zz:IsZip h z TI TO .none
 ti:IsPair h TI (.ref i1) (.ref i2)
 ot:∃a b,IsPair h TO a b
 p1:h.IsTupleIter i1 t1 n
 p2:h.IsTupleIter i2 t2 n
end
section
variable{P:fh}{w:fj}{A:Around}{E:fc->fg->Prop}{s:fg}
end
def Itz(K:eh)(a b:ff):It:=
 ⟨λi H=>∃xs ys x y,SqT K H a xs/\SqT K H b ys/\xs[i]?=some x/\ys[i]?=some y,λi H v H'=>∃p x y,v=.ref p/\H p=none/\(∀xs,SqT K H a xs->xs[i]?=some x)/\(∀ys,SqT K H b ys->ys[i]?=some y)/\H'=upd H p (.tup [x,y]),λi H=>∃xs ys,SqT K H a xs/\SqT K H b ys/\(xs.length<=i\/ys.length<=i)⟩
noncomputable def dj:List D->List D->List D
 |x::xs,y::ys=>.tup [x,y]::dj xs ys
 |_,_=>[]
section
variable{X:Cx}{e a b tg iter elt:Expr}{ifs:List Expr}{pos:Pos}{scope:Scope}{N':List Str}{n:Nat}{fr:List Nat}{f:M (List D)}{st:D->M Unit}{tst:M Bool}{el:M D}
def EI(i:Nat):M D:=λt=>match t.env[i]? with
 |some (some (.own xs))=>some (.int xs.length,t)
 |_=>none
theorem Qr(i:Nat){x:Str}{p px:Pos}(hg:Gl X "len")(hm:X.mg "len" = none)(hv:bootBuiltins "len" = some (.builtin "len"))(hN:X.N[i]?=some x:=by rfl)(hvi:Vis X.env.scope x:=by walk_at"h")(hd:(x==("__debug__":Str))=false:=by decide)
 (hcd:(x==("__classdict__":Str))=false:=by decide):PE X (.Call (.Name "len" p) [.Name x px] [] pos) (RE X.K (EI i)):=
 AI (MR Mf hg hm hv (N8 (E4 hN hvi hd hcd) Ri (A4 (e:=.Name x px) rfl)) (by decide) (by decide) (A4 (e:=.Name x px) rfl) (AV (es:=[]) (by simp[A1])).1) λσ H Q z9=>by
  clear 5 z9 Oo c t fi r t' eq k;unfold EI at eq
  split at eq
  .next xs0 e0=>
   cases eq
   clear 5(fi.own i xs0 e0)a vs0 q1 q2 q3 q4 q5;refine⟨.ref a,q1,?_⟩;refine⟨a,vs0,rfl,.inl (SqL.of q4),?_⟩;have h:=k (.int xs0.length) H c fi .refl (.int _);rw[<-q5.length] at h;exact h
  .cases eq
end
def dS:List D->M D
 |[.obj k,.ty m]=>λt=>match t.S[k]? with
   |some (.lst _)=>(FL "list" m).map λb=>(.bl b,t)
   |_=>none
 |ds=>CD ds
section
variable{X:Cx}{elt:Expr}{pos:Pos}{e:Expr}{es:List Expr}
theorem Qq{o:Expr}{f:M D}{g:M (List D)}{apos cpos:Pos}(ho:PE X o (RE X.K f))(ha:PA X (e::es) (RA X.K g))
 (hbase:attributeBase o "extend" X.env (eval o X.env)=eval o X.env:=by rfl)
 (hfew:((backTo cpos (starEach (e::es) X.env)).all (λx=>!x.1)&&(backToKw cpos (keywordEach [] X.env)).all (λx=>x.1.isSome)&&decide ((e::es).length+([]:List Keyword).length+(if ([]:List Keyword).isEmpty then 0 else 1)<30))=true:=by rfl)
 (hline:(apos.endLine==cpos.line)=true:=by rfl) (hs:starEach (e::es) X.env=(false,eval e X.env)::starEach es X.env:=by rfl) (hplain:(backTo cpos (starEach es X.env)).any (·.1)=false:=by rfl) :
 PE X (.Call (.Attribute o "extend" apos) (e::es) [] cpos) (RE X.K (objM Fb f g)):=
 AI (JW ub5 fv fx N3 ho ha hbase hfew hline hs hplain) λ_ _ _ q=>RE.objM Op q
end
section
variable{X:Cx}{fb:List (ff×Obj)}{σ:St}{H:Hp}{s:fg}{a:ff}{kvs:List (Key×V)}{o:Obj}
end
section
variable{X:Cx}
end
section
variable{X:Cx}
end
open SeqAt
def P1(K:eh)(H:Hp)(v w:V):Prop:=∃c dv dw,Rep K c H v dv/\Rep K c H w dw/\eqN EQD dv dw=some true
def Xp(K:eh)(H:Hp)(v w:V):Prop:=P1 K H v w\/∃a b us ts,v=.ref a/\w=.ref b/\H a=some (.dK us)/\H b=some (.dK ts)/\us.length=ts.length/\(∀kv∈us,∃n:Int,kv.1=Sum.inl n)/\(∀kv∈ts,∃n:Int,kv.1=Sum.inl n)/\∀kv∈us,∃z,Fj ts kv.1=some z/\P1 K H kv.2 z
def dX(K:eh)(b:Bool):R2:=λx y H Q=>∃p q vs ws,x=.ref p/\y=.ref q/\H p=some (.lst vs)/\H q=some (.lst ws)/\vs.length=ws.length/\(∀(j:Nat) v w,vs[j]?=some v->ws[j]?=some w->Xp K H v w)/\Q (.bl b) H
def LZ(S:List Ob)(x y:D):Bool:=Bn (F0 S x)&&Bn (F0 S y)&&decide (eqN EQD (F0 S x) (F0 S y)=some true)
def dr(S:List Ob)(x y:D):Bool:=match x,y with
 |.obj m,.obj n=>match S[m]?,S[n]? with
   |some (.dct kvs),some (.dct lvs)=>kvs.length==lvs.length&&(Pa kvs).isSome&&(Pa lvs).isSome&&kvs.all (λkv=>match B5 lvs kv.1 with|some e=>LZ S kv.2 e|none=>false)
   |_,_=>LZ S x y
 |_,_=>LZ S x y
section
variable{X:Cx}{pos:Pos}
end
structure ZL(h:Heap)(z TI TO i1 i2 t1 t2:ff)(n:Nat):Prop where
 zz:IsZip h z TI TO .none
 ti:IsPair h TI (.ref i1) (.ref i2)
 ot:∃a b,IsPair h TO a b
 p1:h.IsListIter i1 t1 n
 p2:h.IsListIter i2 t2 n
section
variable{X:Cx}{a b:Expr}{pos:Pos}
end
open PySem.W
section
variable{prog:fh}{w:fj}{A:Around}{h:Heap}{g:Array GenState}{d:Drawn}{t:Nat}{os:OsState}{R:Result->fg->Prop}
variable{nm q:Str}{C N fI:ff}{bs bm bmB:List fc}{hdct:Bool}{sn:List Str}{sub:List fc}{ab:Bool}{col:Option Bool}{dd:Option ff}{k0 k1 k2 k3 k5:Option fc}{B newId initId:String}{mN:Str->Option fc}
abbrev Qm(C tp:ff):Obj:={cls:=.ref C,data:=.fields #[.ref tp,.none,.none,.none,.bool false,.none]}
abbrev JT(h:Heap)(C:ff)(us:List fc):Heap:=(h.push {cls:=.type "tuple",data:=.seq us.toArray}).push (Qm C h.objs.size)
end
open PySem.Builtin PySem.Builtin.ObjectAttr
section
variable{prog:fh}{w:fj}{A:Around}{s:fg}{K:eh}{x C P tp:ff}{R:Result->fg->Prop}{name:Str}{v:fc}{tk:Tok}{cd:ClassData}
end
section
variable{qx:Bool}
def XRec(qx:Bool)(h:Heap)(x C:ff)(dx:Option ff)(tb:fc):Prop:=∃(o:Obj) (vs:Array fc),h.get? x=some o/\o.cls=.ref C/\o.dict=dx/\o.data=.fields vs/\vs[1]?=some tb/\(qx=true->vs[2]?=some .none/\4<vs.size)
theorem XF{qx:Bool}{vs:Array fc}{v:fc}(h:qx=true->vs[2]?=some .none/\4<vs.size):qx=true->(vs.setIfInBounds 1 v)[2]?=some .none/\4<(vs.setIfInBounds 1 v).size:=λz=>by
 rw[Array.getElem?_setIfInBounds_ne (by decide),Array.size_setIfInBounds];exact h z
theorem XRec.to{qx:Bool}{h:Heap}{x C:ff}{dx:Option ff}{tb:fc}(r:XRec true h x C dx tb):XRec qx h x C dx tb:=by
 clear 5 r o vs h1 h2 h3 h4 h5 h6;exact⟨o,vs,h1,h2,h3,h4,h5,λ_=>h6 rfl⟩
def XTb(h:Heap)(T:ff):Prop:=∃(o:Obj) (ts:Array fc),h.get? T=some o/\o.data=.fields ts/\ts[3]?=some .none
structure XKeep(fs ch:List ff)(h h':Heap):Prop where
 keep:∀b o,b∉ch->b∉fs->h.get? b=some o->h'.get? b=some o
 slot:∀b o,b∉ch->h.get? b=some o->∃sl,h'.get? b=some {o with slots:=sl}
section
variable{M:Model}{A:Around}{E:fc->fg->Prop}{s:fg}{env:Env}{outer:List Env}{base:Heap}{L x C:ff}{dx:Option ff}{tb:fc}{Q:Unit->fg->Prop}
theorem MC{o:Obj}{vs:Array fc}(hd:o.data=.fields vs)(f:Array fc->Array fc):(o.mapFields f).data=.fields (f vs)/\(o.mapFields f).cls=o.cls/\(o.mapFields f).dict=o.dict:=by
 clear 5 o c d dt sl
 cases hd
 exact⟨rfl,rfl,rfl⟩
end
end
section
variable{qx:Bool}
abbrev VE:List fc:=[.type "ValueError",.type "Exception",.type "BaseException",.type "object"]
structure XCl(K:eh)(C:ff)(bm:List fc):Prop where
 ex:∃cd dd k0 k1 k2 k3 k5,K.lookup C=some {cls:=.type "type",dict:=dd,data:=.cls cd,slots:=#[k0,k1,k2,k3,some (.builtin "ValueError.__new__"),k5]}/\cd.mro=.ref C::bm/\cd.hasDel=false/\cd.hasDict=true/\nsOkIn K cd.ns=true
 tl:tailIn K VE bm=true
noncomputable def LP(K:eh)(C:ff)(bm:List fc):Bool:=tailIn K VE bm&&match K.lookup C with
 | some ⟨.type "type",_,.cls cd,sl⟩=>(match sl.toList with
   |[_,_,_,_,some (.builtin n),_]=>n == "ValueError.__new__" && cd.mro==.ref C::bm && !cd.hasDel&&cd.hasDict&&nsOkIn K cd.ns
   |_=>false)
 |_=>false
variable{K:eh}{C:ff}{bm:List fc}
theorem XCl.of_in(q:LP K C bm=true):XCl K C bm:=by
 unfold LP at q;rw[uh6] at q;refine⟨?_,q.1⟩;have q:=q.2
 split at q
 .rename_i dd cd sl ho
  split at q
  .rename_i k0 k1 k2 k3 n k5 hs;simp only[uh6,gK,Bool.not_eq_true'] at q;obtain⟨⟨⟨⟨rfl,h1⟩,h2⟩,h3⟩,h4⟩:=q;have hsl:sl=#[k0,k1,k2,k3,some (.builtin "ValueError.__new__"),k5]:=by
    cases sl
    exact gP Array.mk hs
   exact⟨cd,dd,k0,k1,k2,k3,k5,by rw[ho,hsl],h1,h2,h3,h4⟩
  .cases q
 .cases q
theorem XCl.obj{K:eh}{C:ff}{bm:List fc}{h:Heap}(c:XCl K C bm)(X:K.In h):∃nm q N bs sn sub ab col dd k0 k1 k2 k3 k5,h.get? C=some (excClassObj nm q C N bs bm true sn sub ab col dd k0 k1 k2 k3 k5 "ValueError.__new__")/\h.Ns N (h.nsMap N):=by
 obtain⟨⟨nm,bs,mro,ns,qn,hd,sn,sub,ab,col,del⟩,dd,k0,k1,k2,k3,k5,h1,h2,h3,h4,h5⟩:=c.ex;dsimp only at h2 h3 h4 h5;subst h2 h3 h4;exact⟨nm,qn,ns,bs,sn,sub,ab,col,dd,k0,k1,k2,k3,k5,X _ _ h1,.of_isNs (isNs_of_in X h5)⟩
variable{h:Heap}
theorem XCl.tail(c:XCl K C bm)(X:K.In h):OwnTail h VE bm:=tail_of_in X c.tl
theorem XCl.has(c:XCl K C bm)(X:K.In h):(Value.ref C::bm).contains (.type "BaseException")=true:=by
 rw[List.contains_cons,(c.tail X).hasType (b:=true) (by decide +kernel),Bool.or_true]
section
variable{M:Model}{A:Around}{E:fc->fg->Prop}{env:Env}{K:eh}{C:ff}{bm:List fc}{s:fg}
theorem TX{t:Sem fc}{Q:Flow->fg->Prop}(c:XCl K C bm)(hh:A.handled=none)
 (h:wpAny M A t (λv s1=>∃x dx,v=.ref x/\K.In s1.heap/\XRec qx s1.heap x C dx .none/\E v s1) E s):wpAny M A (raiseStmt env (some t) none) Q E s:=by
 unfold raiseStmt;refine uo0 (uo2 h (λv s1 q=>?_) λ_ _ z=>z);obtain⟨x,dx,rfl,X,⟨o,vs,hx,hc,hd,hdt,h1,_⟩,hE⟩:=q;obtain⟨nm,q,N,bs,sn,sub,ab,col,dd,k0,k1,k2,k3,k5,hC,_⟩:=c.obj X;have hb:=c.has X;clear 5 s1 hp g d tk os
 repeat (first
  |(with_reducible refine gk hx ?_;rw[hc])
  |with_reducible refine gk hC ?_
  |(with_reducible refine gf hC ?_;rw[hb])
  |with_reducible refine un9 hx hdt h1 ?_
  |wp_step)
 exact wpAny_raiseNew_none hh hE
end
def CX1(qx:Bool)(P:fh)(w:fj):CXT:=λouter H s E e s'=>∃(x C:ff) (dx:Option ff) (T:ff) (H':Hp),e=.ref x/\s'.os=s.os/\AllBare s'.gens/\Un (frs outer) [] H H' s.heap s'.heap/\HOk P w H' s'.heap/\
 H' x=some (.ext (L2.XIs qx x C dx))/\s.heap.objs.size<=x/\s.heap.objs.size<=T/\T≠x/\H' T=none/\XRec qx s'.heap x C dx (.ref T)/\XTb s'.heap T/\E (.ref x) dx H'
variable{x:ff}{dx:Option ff}
theorem XRec.is{tb:fc}(r:XRec qx h x C dx tb):L2.XIs qx x C dx h:=by
 obtain⟨o,vs,h1,h2,h3,h4,_,h5⟩:=r;exact⟨o,vs,h1,h2,h3,h4,h5⟩
theorem XIs.stay{h1 h2:Heap}(r:L2.XIs qx x C dx h1)(k:∀o,h1.get? x=some o->h2.get? x=some o):L2.XIs qx x C dx h2:=by
 clear 5 r o vs e q;exact⟨o,vs,k o e,q⟩
theorem Qn{P:fh}{w:fj}{H:Hp}(r:L2.XIs qx x C dx h):ObjOk P w H h x (.ext (L2.XIs qx x C dx)):=
 ⟨r,let ⟨o,_,e,_⟩:=r;⟨o,e⟩,λ_ _ q k=>XIs.stay q k⟩
section
variable{X:Cx}{fb:List (ff×Obj)}{σ:St}{H H':Hp}{s s':fg}{h':Heap}{x C T:ff}{dx:Option ff}{ch:List ff}
theorem Uj(k:XKeep (frs X.stack) ch s.heap h')(hT:∀b∈ch,b=x\/b=T):Un (frs X.stack) (x::T::[]) H H s.heap h':=by
 have nch:∀b:ff,b∉(x::T::[])->b∉ch:=λb hb z=>hb (by rcases hT b z with rfl|rfl<;>simp);refine⟨λb o e n hb hx=>k.keep b o (nch b hx) hb e,λb o e n hb hx=>k.slot b o (nch b hx) e,λb o e n _=>n,λb o e hx=>?_,λ_ _ e=>e,λ_ _ _ e=>e,λb ps e=>⟨#[],by rw[e];simp⟩⟩;clear 5(k.slot b o (nch b hx) e)sl q;exact⟨_,q⟩
theorem Inv.left(I:Inv X fb σ H s)(hx:H x=some (.ext (L2.XIs qx x C dx)))(hT:H T=none)(nx:X.s₀.heap.objs.size<=x)(nT:X.s₀.heap.objs.size<=T)(k:XKeep (frs X.stack) ch s.heap h')(hc:∀b∈ch,b=x\/b=T)(r:L2.XIs qx x C dx h')
 (oT:∀y c,X.env.cells.lookup y=some c->c≠T) (lT:T≠X.env.locals) (pT:∀p∈X.pn++fb,p.1≠T):Inv X fb σ H {s with heap:=h'}:=by
 have nfr:∀b u,H b=some u->b∉frs X.stack:=λb u e z=>by rw[I.stkFree b z] at e;cases e
 refine I.call (g':=s.gens) (t':=s.toks) (d':=s.drawn) (ch:=[x,T]) (Uj k hc) (λb u e=>?_) I.bare λb hb=>?_
 .by_cases hb:b=x
  .subst hb;rw[hx] at e;cases e;exact Qn r
  .refine(I.hok b u e).stay (λc v hcc q=>k.keep c v ?_ ?_ q) (λ_ q=>q) λ_ _ q=>q
   .intro z;rcases hcc with rfl|hcc
    .rcases hc c z with q|q
     .exact hb q
     .rw[q,hT] at e;cases e
    .rcases hc c z with q|q
     .rw[q,hx] at hcc;cases hcc
     .rw[q,hT] at hcc;cases hcc
   .rcases hcc with rfl|hcc
    .exact nfr _ _ e
    .exact nfr _ _ hcc
 .have q:b=x\/b=T:=by simpa using hb
  rcases q with rfl|rfl
  .exact⟨.inr nx,(λz=>by rw[z,I.free] at hx;cases hx),(λy c e z=>by subst z;rw[I.freeC y c e] at hx;cases hx),λp hp z=>by rw[<-z,(I.pin p hp).2.1] at hx;cases hx⟩
  .exact⟨.inr nT,lT,oT,pT⟩
theorem Inv.raised(I:Inv X fb σ H s){E:XK}{e:fc}(q:CX1 qx X.prog X.w X.stack H s E e s'):∃(x C:ff) (dx:Option ff) (T:ff) (H':Hp),e=.ref x/\Inv X fb σ H' s'/\H' x=some (.ext (L2.XIs qx x C dx))/\s.heap.objs.size<=x/\s.heap.objs.size<=T/\T≠x/\H' T=none/\XRec qx s'.heap x C dx (.ref T)/\XTb s'.heap T/\E (.ref x) dx H':=by
 clear 5 q x C dx T H' he os bare un hok hx nx nT ne hT r tb q;clear 5 s' hh g d t os';obtain rfl:os'=s.os:=os;exact⟨x,C,dx,T,H',he,I.call (h':=hh) (g':=g) (d':=d) (t':=t) (ch:=[]) un hok bare (λb z=>absurd z (by simp)),hx,nx,nT,ne,hT,r,tb,q⟩
theorem Inv.newT(I:Inv X fb σ H s)(h:s.heap.objs.size<=T):T≠X.env.locals/\(∀y c,X.env.cells.lookup y=some c->c≠T)/\∀p∈X.pn++fb,p.1≠T:=by
 have far:∀b o,s.heap.get? b=some o->b≠T:=λb o e z=>absurd (uf0 (um1 e) h) (by rw[z];exact ul1 _);refine⟨λz=>absurd I.lt (by rw[<-z];exact Nat.not_lt.mpr h),λy c e=>?_,λp hp=>far _ _ (I.pin p hp).1⟩;obtain⟨v,o,ho,_⟩:=I.cell y c e;exact far c o ho
end
section
variable{P:fh}{w:fj}{K:eh}{mg:Str->Option fc}{base:Heap}{N:List Str}{qual:Str}{scope:Scope}{f:ff}{cd:fc}{A:Around}{outer:List Env}{s₀:fg}{H₀:Hp}{E:XK}
end
end
structure XAt(K:eh)(C P:ff)(f:Str):Prop where
 cl:XCl K C (.ref P::VE)
 set:findIn K (.ref C) "__setattr__" = some (some (.builtin "object.__setattr__"))
 no:findIn K (.ref C) f=some none
section
variable{qx:Bool}
structure XMk(K:eh)(C P f:ff):Prop where
 cl:XCl K C (.ref P::VE)
 init:∃cd,clsIn K C=some cd/\nsIn K cd.ns "__init__" = some (some (.ref f))
 fn:isFn K (.ref f)=true
 kp:keepIn K (.ref C)=true
section
variable{X:Cx}{k:Nat}{f C P:ff}{fd:fk}{fb:List (ff×Obj)}{σ:St}{H:Hp}{s:fg}{Q:fc->fg->Prop}{us:List fc}{vs:List V}{a:Str}{ps:List Str}{v:V}{u:fc}
end
end
section
variable{qx:Bool}
section
variable{M:Model}{A:Around}{E:fc->fg->Prop}{K:eh}{s:fg}{x C C':ff}{bm bm':List fc}{dx:Option ff}{tb:fc}
theorem MD{Q:Bool->fg->Prop}(c:XCl K C bm)(c':XCl K C' bm')(X:K.In s.heap)(hx:XRec qx s.heap x C dx tb)(h:Q ((Value.ref C::bm).contains (.ref C')) s):wpAny M A (excMatches (.ref x) (.ref C')) Q E s:=by
 obtain⟨nm,q,N,bs,sn,sub,ab,col,dd,k0,k1,k2,k3,k5,hC,_⟩:=c.obj X;obtain⟨nm',q',N',bs',sn',sub',ab',col',dd',k0',k1',k2',k3',k5',hC',_⟩:=c'.obj X;have hb:=c'.has X;clear 5 hx o vs ho hc hd hdt h1;clear 5 s hp g d tk os;have ty:(⟨hp,g,d,tk,os⟩:fg).TypeIs (.ref C') "type":=⟨_,hC',rfl⟩;have nt:=tc_notTuple
 cases hbb:(Value.ref C::bm).contains (.ref C')<;>(
  rw[hbb] at h;unfold excMatches
  repeat (first
   |(with_reducible refine gk ho ?_;rw[hc])
   |with_reducible refine gk hC' ?_
   |(with_reducible refine gf hC' ?_;rw[hb])
   |(with_reducible refine gf hC ?_;rw[hbb])
   |wp_step)
  exact h)
end
end
section
variable{qx:Bool}
def Sz(h:Heap)(T:ff)(fl:fc):Prop:=∃(o:Obj) (ts:Array fc),h.get? T=some o/\o.data=.fields ts/\ts[3]?=some fl
section
variable{M:Model}{A:Around}{E:fc->fg->Prop}{s:fg}{env:Env}{outer:List Env}{base:Heap}{L x C:ff}{dx:Option ff}{tb:fc}{Q:Unit->fg->Prop}
theorem Le{hadNext:Bool}{hd:fc}(hfr:A.frames=some (env::outer))(hl:s.heap.FunFrames base (env::outer))(hf:env.frame=some L)(hx:XRec qx s.heap x C dx tb)
 (h:∀h' T,s.heap.objs.size<=T->T≠x->XRec qx h' x C dx (.ref T)->Sz h' T (rawInt L)->XKeep (frs (env::outer)) [x] s.heap h'->Q () {s with heap:=h'}) :
 wpAny M A (do let fo <-frameOf env;let at' <-entryPlaceOf L hadNext;let en <-EntryCells.newEntry hd fo .none (rawInt L) .none at';setField (.ref x) 1 en) Q E s:=by
 clear 5 hx ox vs gx cx dxe dtx tbx xc;have v1:1<vs.size:=(ua6.mp tbx).1;have nfr:x∉frs (env::outer):=λz=>by
  obtain⟨_,o2,g2,n2⟩:=hl.mem z;rw[gx] at g2;cases g2
  exact n2 vs dtx
 refine uo0 (wpAny_frameOf_fun hfr hl hf λh1 so=>?_);refine uo0 (wpAny_entryPlaceOf λat' ip=>?_);unfold EntryCells.newEntry newFields;refine uo0 (gj ?_ (ip.sizeOk5 _ _ _ _ _));generalize hne:(Obj.mk (Value.type "traceback") none (Data.fields ([hd,Value.ref L,Value.none,rawInt L,Value.none]++if at'.isEmpty=true then List.replicate 6 Value.none else at').toArray) #[])=nob;have dn:nob.data=.fields ([hd,Value.ref L,Value.none,rawInt L,Value.none]++if at'.isEmpty=true then List.replicate 6 Value.none else at').toArray:=by rw[<-hne]
 have gx1:h1.get? x=some ox:=(so.2.1 x nfr).trans gx;have gx2:(h1.push nob).get? x=some ox:=ub9 _ gx1;have nex:h1.objs.size≠x:=um5 (um1 gx1);refine gw gx2 dtx v1 ?_;clear 5(MC dtx (·.setIfInBounds 1 (Value.ref h1.objs.size)))m1 m2 m3;have gx3:=uc8 (Obj.mapFields (·.setIfInBounds 1 (Value.ref h1.objs.size))) gx2 (fZ m1);have gT2:(h1.push nob).get? h1.objs.size=some nob:=ue4 h1 (fZ dn);have gT3:=(uc0 (h1.push nob) (Obj.mapFields (·.setIfInBounds 1 (Value.ref h1.objs.size))) (Ne.symm nex)).trans gT2;have vx:(vs.setIfInBounds 1 (Value.ref h1.objs.size))[1]?=some (.ref h1.objs.size):=by simp[v1]
 have old:∀b o,b≠x->h1.get? b=some o->((h1.push nob).update x (Obj.mapFields (·.setIfInBounds 1 (Value.ref h1.objs.size)))).get? b=some o:=λb o hb e=>by
  rw[uc0 _ _ (Ne.symm hb)];exact ub9 _ e
 refine h _ h1.objs.size (gD so.1.symm) nex ⟨_,_,gx3,m2.trans cx,m3.trans dxe,m1,vx,XF xc⟩ ⟨_,_,gT3,dn,?_⟩ ⟨λb o hb hbf e=>old b o (λz=>hb (by simp[z])) ((so.2.1 b hbf).trans e),λb o hb e=>?_⟩
 .rw[List.getElem?_toArray];rfl
 .clear 5(so.2.2 b o e)sl e1;exact⟨sl,old b _ (λz=>hb (by simp[z])) e1⟩
end
structure XOn(qx:Bool)(X:Cx)(fb:List (ff×Obj))(H:Hp)(s:fg)(x C:ff)(dx:Option ff)(T:Option ff)(fl:fc):Prop where
 hx:H x=some (.ext (L2.XIs qx x C dx))
 nx:X.s₀.heap.objs.size<=x
 rc:XRec qx s.heap x C dx (match T with|some a=>.ref a|none=>.none)
 tb:∀a,T=some a->a≠x/\H a=none/\X.s₀.heap.objs.size<=a/\(a≠X.env.locals/\(∀y c,X.env.cells.lookup y=some c->c≠a)/\∀p∈X.pn++fb,p.1≠a)/\Sz s.heap a fl
 fo:fl=.none\/fl=rawInt X.env.locals
section
variable{M:Model}{A:Around}{Er:fc->fg->Prop}{X:Cx}{fb:List (ff×Obj)}{σ:St}{H:Hp}{s:fg}{x C:ff}{dx T:Option ff}{fl:fc}{Q:Unit->fg->Prop}
theorem GI(fr:Option ff)(I:Inv X fb σ H s){a:ff}(o:XOn qx X fb H s x C dx (some a) fl)(hfr:fr=none\/fr=some X.env.locals)
 (k:∀h',Inv X fb σ H {s with heap:=h'}->XOn qx X fb H {s with heap:=h'} x C dx (some a) (fr.elim Value.none λf=>rawInt f)->Q () {s with heap:=h'}):wpAny M A (setFlight (.ref x) fr) Q Er s:=by
 clear 5(id o.rc)ox vs gx cx dxe dtx tbx xc;clear 5(o.tb a rfl)ne hT nT oT ot ts gT dT t3;unfold setFlight;refine uo0 (un9 gx dtx tbx ?_);rw[gW (show(Value.ref a != Value.none)=true from rfl)];refine gw gT dT (ua6.mp t3).1 ?_;clear 5(MC dT (·.setIfInBounds 3 (fr.elim Value.none λf=>rawInt f)))m1 m2 m3;have gT2:=uc8 (Obj.mapFields (·.setIfInBounds 3 (fr.elim Value.none λf=>rawInt f))) gT (fZ m1);have oth:∀b,b≠a->(s.heap.update a (Obj.mapFields (·.setIfInBounds 3 (fr.elim Value.none λf=>rawInt f)))).get? b=s.heap.get? b:=λb z=>uc0 _ _ (Ne.symm z);have rc':XRec qx (s.heap.update a (Obj.mapFields (·.setIfInBounds 3 (fr.elim Value.none λf=>rawInt f)))) x C dx (.ref a):=⟨ox,vs,(oth x (Ne.symm ne)).trans gx,cx,dxe,dtx,tbx,xc⟩;refine k _ (I.left o.hx hT o.nx nT (ch:=[a]) ⟨λb u hb _ e=>(oth b (by simpa using hb)).trans e,λb u hb e=>⟨u.slots,(oth b (by simpa using hb)).trans e⟩⟩ (λb hb=>.inr (by simpa using hb)) rc'.is oT.2.1 oT.1 oT.2.2) ⟨o.hx,o.nx,rc',λa' e=>?_,?_⟩
 .cases e
  exact⟨ne,hT,nT,oT,_,_,gT2,m1,by rw[Array.getElem?_setIfInBounds_self,gW (ua6.mp t3).1]⟩
 .rcases hfr with rfl|rfl
  .exact .inl rfl
  .exact .inr rfl
theorem Jf(hA:A.frames=some X.stack)(I:Inv X fb σ H s)(hs:X.stack=X.env::X.outer)(hf:X.env.frame=some X.env.locals)(o:XOn qx X fb H s x C dx T fl)
 (k:∀h' a,Inv X fb σ H {s with heap:=h'}->XOn qx X fb H {s with heap:=h'} x C dx (some a) (rawInt X.env.locals)->Q () {s with heap:=h'}):wpAny M A (noteFrame (.ref x) X.env) Q Er s:=by
 clear 5(id o.rc)ox vs gx cx dxe dtx tbx xc;have fin:∀(s1:fg) (hh:∃h1,s1 = {s with heap:=h1}) (ch:List ff) (h':Heap) (a:ff),Inv X fb σ H s1->s1.heap.objs.size<=a->a≠x->XRec qx h' x C dx (.ref a)->Sz h' a (rawInt X.env.locals)->XKeep (frs (X.env::X.outer)) [x] s1.heap h'->Q () {s1 with heap:=h'}:=by
  rintro s1 ⟨h1,rfl⟩ ch h' a I1 l1 l2 l3 l4 l5;clear 5(I1.newT l1)o1 o2 o3;have J:=I1.left o.hx (I1.hok.fresh l1) o.nx (um3 I1.sz l1) (ch:=[x]) (hs ▸ l5) (λb hb=>.inl (by simpa using hb)) l3.is o2 o1 o3;exact k h' a J ⟨o.hx,o.nx,l3,λa' e=>by cases e;exact⟨l2,I1.hok.fresh l1,um3 I1.sz l1,⟨o1,o2,o3⟩,l4⟩,.inr rfl⟩
 unfold noteFrame;simp only[hf];refine uo0 (un9 gx dtx tbx ?_)
 cases T with
 |none=>
   rw[gX (by decide)];exact Le (hA.trans (gP some hs)) (hs ▸ I.stack) hf o.rc λh' a l1 l2 l3 l4 l5=>fin s ⟨s.heap,rfl⟩ [] h' a I l1 l2 l3 l4 l5
 |some T₀=>
   clear 5(o.tb T₀ rfl)ne hT nT oT ot ts gT dT t3;rw[gW (show(Value.ref T₀ != Value.none)=true from rfl)];refine uo0 (un9 gT dT t3 ?_);rcases o.fo with rfl|rfl
   .rw[gX (show ¬((Value.none==rawInt X.env.locals)=true) from by simp[rawInt])];refine uo0 (gw gT dT (ua6.mp t3).1 ?_);have oth:∀b,b≠T₀->(s.heap.update T₀ (Obj.mapFields (·.setIfInBounds 3 Value.none))).get? b=s.heap.get? b:=λb z=>uc0 _ _ (Ne.symm z);have rc':XRec qx (s.heap.update T₀ (Obj.mapFields (·.setIfInBounds 3 Value.none))) x C dx (.ref T₀):=⟨ox,vs,(oth x (Ne.symm ne)).trans gx,cx,dxe,dtx,tbx,xc⟩;have J:=I.left o.hx hT o.nx nT (ch:=[T₀]) ⟨λb u hb _ e=>(oth b (by simpa using hb)).trans e,λb u hb e=>⟨u.slots,(oth b (by simpa using hb)).trans e⟩⟩ (λb hb=>.inr (by simpa using hb)) rc'.is oT.2.1 oT.1 oT.2.2;exact Le (s:={s with heap:=s.heap.update T₀ (Obj.mapFields (·.setIfInBounds 3 Value.none))}) (hA.trans (gP some hs)) (hs ▸ J.stack) hf rc' λh' a l1 l2 l3 l4 l5=>fin _ ⟨_,rfl⟩ [] h' a J l1 l2 l3 l4 l5
   .rw[gW (show(rawInt X.env.locals==rawInt X.env.locals)=true from by first|(simp;done)|exact ui7 _)];exact uo1 (k s.heap T₀ I ⟨o.hx,o.nx,o.rc,o.tb,.inr rfl⟩)
end
def XE(qx:Bool)(X:Cx)(E:St->XK):fc->fg->Prop:=λe s=>∃fb σ H x C dx T fl,e=.ref x/\Inv X fb σ H s/\XOn qx X fb H s x C dx T fl/\E σ (.ref x) dx H
def Ft(CX:CXT)(X:Cx)(E:St->XK):Prop:=∀(fb:List (ff×Obj)) (σ:St) (H:Hp) (s:fg) (e:fc) (s':fg),Inv X fb σ H s->CX X.stack H s (E σ) e s'->X.xe e s'
section
variable{M:Model}{X:Cx}{E:St->XK}
theorem XE.own(hs:X.stack=X.env::X.outer)(hf:X.env.frame=some X.env.locals):PassesOwn M X.A X.env (XE qx X E):=by
 rintro e s ⟨fb,σ,H,x,C,dx,T,fl,rfl,I,o,q⟩;refine Jf I.ok.frames I hs hf o λh' a I' o'=>?_;clear 5(id o'.rc)ox vs gx cx dxe dtx tbx xc;unfold cameBackBy;refine uo0 (un9 gx dtx tbx ?_);rw[gX (show ¬((Value.ref a==Value.none)=true) from by intro z;cases z)]
 rw[hf];exact GI _ I' o' (.inr rfl) λh'' I'' o''=>⟨fb,σ,H,x,C,dx,some a,_,rfl,I'',o'',q⟩
theorem XE.pass:Ft (CX1 qx X.prog X.w) (X.wish (XE qx X E)) E:=by
 intro fb σ H s e s' I q;clear 5(I.unwish.raised q)x C dx T H' rfl J hx nx nT ne hT r tb q;exact⟨fb,σ,H',x,C,dx,some T,.none,rfl,J,⟨hx,um3 I.sz nx,r,λa e=>by cases e;exact⟨ne,hT,um3 I.sz nT,I.unwish.newT nT,tb⟩,.inl rfl⟩,q⟩
end
section
variable{P:fh}{w:fj}{K:eh}{mg:Str->Option fc}{base:Heap}
abbrev cxX(qx:Bool)(P:fh)(w:fj)(K:eh)(mg:Str->Option fc)(base:Heap)(N:List Str)(qual:Str)(scope:Scope)(f:ff)(cd:fc)(A:Around)(outer:List Env)(s:fg)(H:Hp)(E:XK):Cx:=
 (EG (CX1 qx P w) P w K mg base N qual scope f cd A outer s H E).wish (XE qx (EG (CX1 qx P w) P w K mg base N qual scope f cd A outer s H E) λ_=>E)
theorem XE.leaves{N:List Str}{qual:Str}{scope:Scope}{f:ff}{cd:fc}{A:Around}{outer:List Env}{s₀:fg}{H₀:Hp}{E:XK}{e:fc}{s:fg}
 (h:XE qx (EG (CX1 qx P w) P w K mg base N qual scope f cd A outer s₀ H₀ E) (λ_=>E) e s):(EG (CX1 qx P w) P w K mg base N qual scope f cd A outer s₀ H₀ E).xe e s:=by
 clear 5 h fb σ H x C dx T fl rfl I o q;refine uo0 (Jf I.ok.frames I rfl rfl o λh' a I' o'=>?_);refine GI none I' o' (.inl rfl) λh'' I'' o''=>?_;clear 5(o''.tb a rfl)ne hT nT oT tb;exact⟨x,C,dx,a,H,rfl,I''.os,I''.bare,I''.base,I''.hok,o''.hx,o''.nx,nT,ne,hT,o''.rc,tb,q⟩
theorem Fun.okX{x qual:Str}{st:Stmt}{f:ff}{fd:fk}{N ps:List Str}{k:Nat}{sp:Sp}(F:Fun K x qual st f fd)(S:FnScope N ps (AA st))(len:∀vs H Q E,sp vs H Q E->vs.length=ps.length)
 (hbody:∀(cdv:fc) (A:Around) (outer:List Env) (s:fg) (H:Hp) (vs:List V) (Q:VK) (E:XK),Room k (A.deeper (envOfC qual (AA st) s.heap.objs.size f cdv))->sp vs H Q E->
   ∃t,PSs (cxX qx P w K mg base N qual (AA st) f cdv A outer s H E) (CA st) t/\t {nx:=λ_ H'=>Q .non H',rt:=Q} (start N vs) H):FnOk P w K mg base (CX1 qx P w) (k+1) f fd ps sp:=by
 clear 5 F.ex oc od kV doc pm an cdv ct osl rfl lk hcd;refine UE lk hcd S len λA outer s H vs Q E hr hsp=>?_;clear 5(hbody cdv A outer s H vs Q E hr hsp)t h q;exact⟨t,λfb s1 σ H1 D I hw=>uo2 (h fb s1 σ H1 D (I.wish _) hw) (λ_ _ q=>q.unwish) λ_ _ z=>z.leaves,q⟩
end
section
variable{X:Cx}{CX:CXT}{k:Nat}{f:ff}{fd:fk}{ps:List Str}{sp:Sp}{E:St->XK}{x:Str}{p pos:Pos}{e:Expr}{es:List Expr}{t:TA}
def Zl(sp:Sp)(E:St->XK)(t:TA):TE:=λσ H Q=>t σ H λvs H1=>sp vs H1 Q (E σ)
theorem TC(F:FnOk X.prog X.w X.K X.mg X.base CX k f fd ps sp)(hr:Room k X.A)(hg:Gl X x)(hm:X.mg x=some (.ref f))(hk:PySem.W.keepIn X.K (.ref f)=true)(hb:Binds X.K fd ps [])(hx:Ft CX X E)
 (ha:PA X (e::es) t) (hdb:(x==("__debug__":Str))=false:=by decide) (he:starEach (e::es) X.env=(false,eval e X.env)::starEach es X.env:=by rfl) (hpl:(backTo pos (starEach es X.env)).any (·.1)=false:=by rfl) :
 PE X (.Call (.Name x p) (e::es) [] pos) (Zl sp E t):=by
 intro fb s σ H Q I h;refine gg (EM I hg hm ?_ hdb);refine uf3 (h₀:=X.base) I.ok.mod.kin hk (thn (ha pos fb s σ H _ I h) λus s1 z9=>?_) he hpl;clear 5 z9 vs H1 I1 r q;refine⟨I1.kIn,?_⟩;have hl:(us++[]).length=ps.length:=by rw[uj3,<-r.length];exact F.len _ _ _ _ q
 refine gL (gE (F.run X.A X.stack s1 H1 ⟨us,[]⟩ us vs Q (E σ) hr I1.env0 (by have:=hb s1 us I1.kIn hl;rwa [uj3] at this) r q) λr s' hq=>?_)
 cases r with
 |error e=>exact hx fb σ H1 s1 e s' I1 hq
 |ok fl=>
   cases fl with
   |ret u=>exact I1.after hq
   |next=>exact False.elim hq
   |brk=>exact False.elim hq
   |cont=>exact False.elim hq
end
end
section
variable{qx:Bool}
def PM(qx:Bool)(X:Cx)(e:Expr)(C:ff)(t:St->Hp->(ff->Option ff->Hp->Prop)->Prop):Prop:=
 ∀(fb:List (ff×Obj)) (s:fg) (σ:St) (H:Hp) (Q:ff->Option ff->Hp->Prop),Inv X fb σ H s->t σ H Q->
  wpAny (model X.prog X.w) X.A (eval e X.env) (λv s1=>∃x dx H1,v=.ref x/\Inv X fb σ H1 s1/\H1 x=some (.ext (L2.XIs qx x C dx))/\X.s₀.heap.objs.size<=x/\XRec true s1.heap x C dx .none/\Q x dx H1) X.xe s
def Jr(qx:Bool)(X:Cx)(E:St->XK):Prop:=∀(fb:List (ff×Obj)) (σ:St) (H:Hp) (s:fg) (x C:ff) (dx:Option ff),Inv X fb σ H s->XOn qx X fb H s x C dx none .none->E σ (.ref x) dx H->X.xe (.ref x) s
theorem XE.raises{X:Cx}{E:St->XK}:Jr qx (X.wish (XE qx X E)) E:=λfb σ H s x C dx I o q=>⟨fb,σ,H,x,C,dx,none,.none,rfl,I.unwish,⟨o.hx,o.nx,o.rc,o.tb,o.fo⟩,q⟩
theorem TN{X:Cx}{e:Expr}{C:ff}{bm:List fc}{t:St->Hp->(ff->Option ff->Hp->Prop)->Prop}{E:St->XK}{pos:Pos}(hc:X.calm=true)(c:XCl X.K C bm)(hx:Jr qx X E)(h:PM qx X e C t)
 (ho:evalOpt (some e) X.env=some (eval e X.env):=by rfl):PS X (.Raise (some e) none pos) (λ_ σ H=>t σ H λx dx H1=>E σ (.ref x) dx H1):=by
 intro fb s σ H D I q;rw[arm_exec_Raise,ho];refine uo0 (gy ?_);refine TX (qx:=true) c (I.ok.hd hc) ?_;refine uo0 (uo2 (h fb s σ H _ I q) (λv s1 z9=>?_) λ_ _ z=>z);clear 5 z9 x dx H1 e1 I1 hx1 nx r q1;subst e1;refine uo0 (gy (uo1 ⟨x,dx,rfl,I1.kIn,r,hx fb σ H1 s1 x C dx I1 ⟨hx1,nx,r.to,(λa e=>by cases e),.inl rfl⟩ q1⟩))
theorem Pj{K:eh}{h:Heap}{N:ff}{m:Str->Option fc}{n:Str}(X:K.In h)(G:h.Ns N m)(e:nsIn K N n=some none):m n=none:=by
 obtain⟨o,es,ep,ho,hd,_,hf⟩:=G;unfold nsIn at e
 split at e
 .next c d es' n' sl q=>
  have z:=X _ _ q;rw[ho] at z
  cases z
  cases hd
  split at e
  .cases e
  .next he=>rw[<-hf];unfold nsFind findBy;rw[<-Array.find?_toList,he];rfl
 .cases e
section
variable{prog:fh}{w:fj}{A:Around}{E:fc->fg->Prop}{h:Heap}{g:Array GenState}{d:Drawn}{t:Nat}{os:OsState}{Q:fc->fg->Prop}
variable{nm q:Str}{C N:ff}{bs bm bmB:List fc}{hdct:Bool}{sn:List Str}{sub:List fc}{ab:Bool}{col:Option Bool}{dd:Option ff}{k0 k1 k2 k3 k5:Option fc}{B newId initId:String}{mN:Str->Option fc}
theorem QW(F:ExcBaseFacts B newId initId bmB)(T:OwnTail h bmB bm){us:List fc}(hC:h.get? C=some (excClassObj nm q C N bs bm hdct sn sub ab col dd k0 k1 k2 k3 k5 newId))(hn:h.Ns N mN)(hni:mN "__init__" = none)(hus:us.length<=sizeLine)
 (hq:∀h' tp,(∀b o,h.get? b=some o->h'.get? b=some o)->h'.get? (h.objs.size+1)=some (Qm C tp)->Q (.ref (h.objs.size+1)) ⟨h',g,d,t,os⟩) :
 wpAny (model prog w) A (call (.ref C) us) Q E ⟨h,g,d,t,os⟩:=by
 have c1:=tc_lookup;have c2:=tc_bind (.ref C);have ty:(⟨h,g,d,t,os⟩:fg).TypeIs (.ref C) "type":=⟨_,hC,rfl⟩;refine gL (codeAny_of_tree ?_);show wpAny _ _ (callAny (.ref C) _) _ _ _
 repeat (any_goals (first
  |assumption
  |with_reducible refine gk hC ?_
  |wp_step))
 refine⟨rfl,codeAny_call_builtin_at (Code.quiet_builtin _ (by decide +kernel)) entry_typeCall (wpAny_check_type_call_sub hC ?_)⟩
 repeat (first
  |with_reducible refine gk hC ?_
  |with_reducible refine wpAny_madeBy_exc hC ?_
  |wp_step)
 refine codeAny_call_builtin_code (Code.quiet_builtin _ F.quiet) (wpAny_check_new_subT F T hC (codeAny_exc_new_subT F T hC ?_ hus))
 change wpAny _ _ _ _ _ (Shared.mk (JT h C us) g d t os)
 have kp:∀b o,h.get? b=some o->(JT h C us).get? b=some o:=λb o e=>ub9 _ (ub9 _ e);have he:(JT h C us).get? (h.objs.size+1)=some {cls:=.ref C,data:=.fields #[.ref h.objs.size,.none,.none,.none,.bool false,.none]}:=by heap_get
 have n1:(JT h C us).Ns N mN:=hn.keeps kp;have cC:(Value.ref C::bm).contains (.ref C)=true:=by simp
 unfold isInstance
 repeat (first
  |with_reducible refine gk he ?_
  |(with_reducible refine gf (kp _ _ hC) ?_;rw[cC])
  |wp_step)
 show wpAny _ _ (typeLookup (.ref C) _) _ _ _;refine wpAny_typeLookup_tail (kp _ _ hC) n1 (T.keeps kp) F.mroIs F.init.lookup ?_;rw[hni];refine um0 (uo0 (wpAny_of_eq (F.init.bind _) (uo0 (gL (codeAny_call_builtin F.init.plain F.initEntry (wpAny_check_init_subT F (T.keeps kp) (kp _ _ hC) he rfl ?_))))))
 wp_walk
 refine hq _ ((JT h C us).objs.size) (λb o hb=>?_) ?_
 .rw[uc0 _ _ (um5 (Nat.lt_succ_of_lt (um1 hb)))];exact ub9 _ (kp b o hb)
 .rw[uc8 _ (ub9 _ he) rfl];rfl
end
section
variable{X:Cx}{k:Nat}{f C P:ff}{fd:fk}{a:Str}{ps:List Str}{n:Str}{p pos:Pos}{e:Expr}{es:List Expr}
theorem Wm{t:TA}{bm:List fc}{cd:ClassData}(c:XCl X.K C bm)(hk:keepIn X.K (.ref C)=true)(hcd:clsIn X.K C=some cd)(hni:nsIn X.K cd.ns "__init__" = some none)(hg:Gl X n)(hm:X.mg n=some (.ref C))(ha:PA X (e::es) t)
 (hdb:(n==("__debug__":Str))=false:=by decide) (h1:starEach (e::es) X.env=(false,eval e X.env)::starEach es X.env:=by rfl) (hpl:(backTo pos (starEach es X.env)).any (·.1)=false:=by rfl) :
 PM qx X (.Call (.Name n p) (e::es) [] pos) C (λσ H Q=>t σ H λvs H1=>vs.length<=1000/\∀x,H1 x=none->Q x none (upd H1 x (.ext (L2.XIs qx x C none)))):=by
 intro fb s σ H Q I h;refine gg (EM I hg hm ?_ hdb);refine uf3 (h₀:=X.base) I.ok.mod.kin hk (thn (ha pos fb s σ H _ I h) λus s1 z9=>?_) h1 hpl;clear 5 z9 vs H1 I1 r hl q;refine⟨I1.kIn,?_⟩;clear 5(c.obj I1.kIn)nm q' N bs sn sub ab col dd k0 k1 k2 k3 k5 hC hN;have hni':s1.heap.nsMap N "__init__" = none:=by
  unfold clsIn at hcd
  split at hcd
  .next l=>
   cases hcd
   have z:=I1.kIn _ _ l;rw[hC] at z
   cases z
   exact Pj I1.kIn hN hni
  .cases hcd
 clear 5 s1 hh g d tk os;refine QW PySem.F.excBase_ValueError (c.tail I1.kIn) hC hN hni' (by show us.length<=sizeLine;rw[<-r.length];exact um3 hl (by decide)) λh' tp kp ht=>?_;have xr:XRec true h' (hh.objs.size+1) C none .none:=⟨_,_,ht,rfl,rfl,rfl,rfl,λ_=>⟨rfl,by show 4<6;decide⟩⟩;exact⟨_,none,_,rfl,I1.laid (h':=h') (t':=tk) kp (un7 _) (Qn xr.to.is),AJ,um3 I1.sz (un7 _),xr,q _ (I1.hok.fresh (un7 _))⟩
end
end
section
variable{qx:Bool}
abbrev Cx.mark(X:Cx)(x:ff):Cx:={X with A:=X.A.mark (some (.ref x)),calm:=false,xe:=λ_ _=>False}
section
variable{X:Cx}{fb:List (ff×Obj)}{σ:St}{H:Hp}{s:fg}{D:Ends}
theorem Inv.mark(I:Inv X fb σ H s)(x:ff):Inv (X.mark x) fb σ H s:=
 ⟨⟨I.ok.mod,I.ok.kind,I.ok.glob,I.ok.blt,I.ok.above,I.ok.inj,I.ok.has,I.ok.cab,(λz=>by cases z),I.ok.frames,I.ok.stk,I.ok.exf,I.ok.bs,I.ok.bsz,I.ok.noex,I.ok.exfs,I.ok.funs,I.ok.frf⟩,I.os,I.bare,I.base,I.loc,I.cell,I.free,I.freeC,I.pin,I.hok,I.len⟩
theorem Inv.unmark{x:ff}(J:X.Ok)(I:Inv (X.mark x) fb σ H s):Inv X fb σ H s:=⟨J,I.os,I.bare,I.base,I.loc,I.cell,I.free,I.freeC,I.pin,I.hok,I.len⟩
theorem Inv.repin{pn' pins':List (ff×Obj)}{xe:fc->fg->Prop}(I:Inv X fb σ H s)(h:∀p∈pn'++pins',p∈X.pn++fb):Inv {X with pn:=pn',xe:=xe} pins' σ H s:=
 ⟨⟨I.ok.mod,I.ok.kind,I.ok.glob,I.ok.blt,I.ok.above,I.ok.inj,I.ok.has,I.ok.cab,I.ok.hd,I.ok.frames,I.ok.stk,I.ok.exf,I.ok.bs,I.ok.bsz,I.ok.noex,I.ok.exfs,I.ok.funs,I.ok.frf⟩,I.os,I.bare,I.base,I.loc,I.cell,I.free,I.freeC,λp hp=>I.pin p (h p hp),I.hok,I.len⟩
theorem SP.unmark{x:ff}(J:X.Ok){f:Flow}(h:SP (X.mark x) fb D f s):SP X fb D f s:=by
 cases f with
 |next=>clear 5 h σ' H' I q;exact⟨σ',H',I.unmark J,q⟩
 |brk=>clear 5 h σ' H' I q;exact⟨σ',H',I.unmark J,q⟩
 |cont=>clear 5 h σ' H' I q;exact⟨σ',H',I.unmark J,q⟩
 |ret u=>clear 5 h v σ' H' I r q;exact⟨v,σ',H',I.unmark J,r,q⟩
theorem Hq{M:Model}{A:Around}{E:fc->fg->Prop}{i:Nat}{n:Str}{pos:Pos}{Q:Unit->fg->Prop}(I:Inv X fb σ H s)(hN:X.N.Nodup)(hi:X.N[i]?=some n)(hk:X.env.scope.names.lookup n=some .local)
 (h:∀s',Inv X fb (σ.set i none) H s'->Q () s'):wpAny M A (do bindName X.env n .none;unbindBehindTheSuite X.env n pos) Q E s:=by
 refine uo0 (wpAny_bindName (Ho (v:=.non) I hN hi (.inl hk) rfl (λs1 I1=>?_) (.inr hk)));unfold unbindBehindTheSuite;have hiσ:i < σ.length:=by rw[I.len];exact(ua8.mp hi).1
 clear 5(id I1.loc)m hn hl;have hcls:(X.env.scope.kind==.class||(X.env.scope.kind==.module&&X.env.locals != X.env.globals))=false:=by rw[I.ok.kind];rfl
 obtain⟨u0,_,lk⟩:=hl i n .non hi (by rw[ub8 hiσ]) (.inl hk);have hv:m n=some u0:=by
  rcases lk with⟨_,e⟩|⟨k,_⟩
  .exact e
  .have k:X.env.scope.names.lookup n=some .cell\/X.env.scope.names.lookup n=some .free:=k;rw[hk] at k;rcases k with k|k<;>cases k
 refine wpAny_onRaise (wpAny_unbindName_local hk hn hv hcls λh' u hn' hs=>?_);have cne:=I1.cne;have tracked:HOk X.prog X.w H h':=λb ob e=>by
  refine(I1.hok b ob e).stay (λc w' hc q=>(hs.2 c ?_).trans q) (λ_ q=>q) λ_ _ q=>q;rintro rfl;rcases hc with rfl|hc
  .rw[I1.free] at e;cases e
  .rw[I1.free] at hc;cases hc
 have far:∀b o,X.s₀.heap.get? b=some o->b≠X.env.locals:=λb o e=>um2 (uf0 (um1 e) I1.ok.above);refine h _ ⟨I1.ok,I1.os,I1.bare,⟨λb o e n hb hx=>?_,λb o e n hb hx=>?_,I1.base.free,λb o e hx=>?_,I1.base.tups,I1.base.frzs,I1.base.tbls⟩,⟨_,hn',λj y v' e1 e2 e3=>?_⟩,λy c e=>?_,I1.free,I1.freeC,λp hp=>?_,tracked,by simpa using I.len⟩
 .exact(hs.2 b (far b o e)).trans (I1.base.keep b o e n hb hx)
 .clear 5(I1.base.slot b o e n hb hx)sl e1;exact⟨sl,(hs.2 b (far b o e)).trans e1⟩
 .clear 5(I1.base.there b o e hx)o' e1;exact⟨o',(hs.2 b (far b o e)).trans e1⟩
 .by_cases hj:j=i
  .subst hj;rw[ub8 hiσ] at e2
   cases e2
  .rw[ud8 (Ne.symm hj)] at e2;clear 5(hl j y v' e1 (by rw[ud8 (Ne.symm hj)];exact e2) e3)u' r' q;refine⟨u',r',?_⟩;rcases q with⟨k,e⟩|⟨k,c,e,z⟩
   .refine .inl ⟨k,?_⟩;have:y≠n:=λe=>hj (Je hN e1 (e ▸ hi));simp[this,e]
   .exact .inr ⟨k,c,e,z.sameBut hs (cne y c e)⟩
 .clear 5(I1.cell y c e)w' z;exact⟨w',z.sameBut hs (cne y c e)⟩
 .clear 5(I1.pin p hp)e n ne nf d;exact⟨(hs.2 p.1 ne).trans e,n,ne,nf,d⟩
end
def PH(qx:Bool)(X:Cx)(hs:List ExceptHandler)(th:ff->ff->Option ff->TS):Prop:=∀(fb:List (ff×Obj)) (s:fg) (σ:St) (H:Hp) (x C:ff) (dx:Option ff) (T:ff) (D:Ends),Inv X fb σ H s->XOn qx X fb H s x C dx (some T) .none->th x C dx D σ H->
 wpAny (model X.prog X.w) X.A (handleBy (.ref x) X.env hs) (SP X fb D) X.xe s
noncomputable def Ends.unset(D:Ends)(i:Nat):Ends:={nx:=λσ H=>D.nx (σ.set i none) H,rt:=D.rt,bk:=λσ H=>D.bk (σ.set i none) H,ct:=λσ H=>D.ct (σ.set i none) H}
section
variable{X:Cx}{n v:Str}{C':ff}{bm':List fc}{p pos:Pos}{b₀:Stmt}{suite:List Stmt}{rest:List ExceptHandler}{ts:ff->TS}{tr:ff->ff->Option ff->TS}{i:Nat}
def bS(K:eh)(C':ff)(i:Nat)(ts:ff->TS)(tr:ff->ff->Option ff->TS):ff->ff->Option ff->TS:=λx C dx D σ H=>∃bm,XCl K C bm/\
 if (Value.ref C::bm).contains (.ref C')=true then ts x (D.unset i) (σ.set i (some (.ref x))) H else tr x C dx D σ H
theorem Z5(hg:Gl X n)(hm:X.mg n=some (.ref C'))(c':XCl X.K C' bm')(hN:X.N.Nodup)(hi:X.N[i]?=some v)(hl:X.env.scope.names.lookup v=some .local)(hb:∀x,PSs (X.mark x) (b₀::suite) (ts x))(hr:PH qx X rest tr)
 (hdb:(n==("__debug__":Str))=false:=by decide):PH qx X (.ExceptHandler (some (.Name n p)) (some v) (b₀::suite) pos::rest) (bS X.K C' i ts tr):=by
 intro fb s σ H x C dx T D I o ⟨bm,c,q⟩;have Im:=I.mark x;refine wpAny_handleBy_cons (codeAny_handlers_test (EM Im hg hm ?_ hdb)) (by intro z;cases z)
 refine MD c c' I.kIn o.rc ?_
 cases hc:(Value.ref C::bm).contains (.ref C') with
 |false=>
   rw[hc,gX (by decide)] at q;exact hr fb s σ H x C dx T D I o q
 |true=>
   rw[hc,gW rfl] at q;refine codeAny_handlers_suite_as ?_;refine GI none I o (.inl rfl) λh1 I1 o1=>?_;refine Ho (v:=.ref x) I1 hN hi (.inl hl) rfl (λs2 I2=>?_) (.inr hl);refine uo2 (hb x fb s2 _ H _ (I2.mark x) q) (λf s3 z=>?_) λ_ _ z=>z.elim;show wpAny _ _ _ _ _ _;have J:=I.ok
   cases f with
   |next=>clear 5 z σ' H' I' q';exact Hq (I'.unmark J) hN hi hl λs4 I4=>⟨_,H',I4,q'⟩
   |brk=>clear 5 z σ' H' I' q';exact Hq (I'.unmark J) hN hi hl λs4 I4=>⟨_,H',I4,q'⟩
   |cont=>clear 5 z σ' H' I' q';exact Hq (I'.unmark J) hN hi hl λs4 I4=>⟨_,H',I4,q'⟩
   |ret u=>clear 5 z w σ' H' I' r q';exact Hq (I'.unmark J) hN hi hl λs4 I4=>⟨w,_,H',I4,r,q'⟩
def bT(K:eh)(C':ff)(ts:TS)(tr:ff->ff->Option ff->TS):ff->ff->Option ff->TS:=λx C dx D σ H=>∃bm,XCl K C bm/\
 if (Value.ref C::bm).contains (.ref C')=true then ts D σ H else tr x C dx D σ H
theorem Z6{ts:TS}(hg:Gl X n)(hm:X.mg n=some (.ref C'))(c':XCl X.K C' bm')(hb:∀x,PSs (X.mark x) (b₀::suite) ts)(hr:PH qx X rest tr)
 (hdb:(n==("__debug__":Str))=false:=by decide):PH qx X (.ExceptHandler (some (.Name n p)) none (b₀::suite) pos::rest) (bT X.K C' ts tr):=by
 intro fb s σ H x C dx T D I o ⟨bm,c,q⟩;have Im:=I.mark x;refine wpAny_handleBy_cons (codeAny_handlers_test (EM Im hg hm ?_ hdb)) (by intro z;cases z)
 refine MD c c' I.kIn o.rc ?_
 cases hc:(Value.ref C::bm).contains (.ref C') with
 |false=>
   rw[hc,gX (by decide)] at q;exact hr fb s σ H x C dx T D I o q
 |true=>
   rw[hc,gW rfl] at q;refine codeAny_handlers_suite ?_;refine GI none I o (.inl rfl) λh1 I1 o1=>?_;exact uo2 (hb x fb _ _ H _ (I1.mark x) q) (λf s3 z=>z.unmark I.ok) λ_ _ z=>z.elim
theorem YT{body:List Stmt}{h₀:ExceptHandler}{hs:List ExceptHandler}{tb:(St->XK)->TS}{th:ff->ff->Option ff->TS}(h1:X.stack=X.env::X.outer)(h2:X.env.frame=some X.env.locals)
 (hb:∀(pn:List (ff×Obj)) (E:St->XK),PSs {X with pn:=pn,xe:=XE qx {X with pn:=pn} E} body (tb E)) (hh:PH qx X (h₀::hs) th) :
 PS X (.Try body (h₀::hs) [] [] pos) (λD σ H=>tb (λσ' v dx H'=>∀x C,v=.ref x->H' x=some (.ext (L2.XIs qx x C dx))->(∃h,L2.XIs qx x C dx h)->th x C dx D σ' H') D σ H):=by
 intro fb s σ H D I q;refine wpAny_Try_except ?_;refine uo2 (hb (X.pn++fb) _ [] s σ H D (I.repin λp hp=>by simpa using hp) q) (λf s1 z=>?_) λe s1 z=>?_
 .have back:∀{σ':St}{H':Hp},Inv {X with pn:=X.pn++fb,xe:=XE qx {X with pn:=X.pn++fb} (λσ' v dx H'=>∀x C,v=.ref x->H' x=some (.ext (L2.XIs qx x C dx))->(∃h,L2.XIs qx x C dx h)->th x C dx D σ' H')} [] σ' H' s1->Inv X fb σ' H' s1:=λJ=>J.repin (X:={X with pn:=X.pn++fb,xe:=_}) (pn':=X.pn) (pins':=fb) (xe:=X.xe) λp hp=>by simpa using hp
  cases f with
  |next=>clear 5 z σ' H' J q';exact gm ⟨σ',H',back J,q'⟩
  |brk=>clear 5 z σ' H' J q';exact⟨σ',H',back J,q'⟩
  |cont=>clear 5 z σ' H' J q';exact⟨σ',H',back J,q'⟩
  |ret u=>clear 5 z w σ' H' J r q';exact⟨w,σ',H',back J,r,q'⟩
 .clear 5 z pins' σ' H' x C dx T fl rfl J o q';have J1:Inv X fb σ' H' s1:=J.repin (X:={X with pn:=X.pn++fb}) (pn':=X.pn) (pins':=fb) (xe:=X.xe) λp hp=>by
   simp only[ui9] at hp⊢;exact .inl hp
  have o1:XOn qx X fb H' s1 x C dx T fl:=⟨o.hx,o.nx,o.rc,λa e=>by
   obtain⟨z1,z2,z3,⟨y1,y2,y3⟩,z5⟩:=o.tb a e;exact⟨z1,z2,z3,⟨y1,y2,λp hp=>y3 p (by simp only[ui9] at hp⊢;exact .inl hp)⟩,z5⟩,o.fo⟩
  refine Jf J1.ok.frames J1 h1 h2 o1 λh' a I' o'=>GI none I' o' (.inl rfl) λh'' I'' o''=>?_;exact hh fb _ σ' H' x C dx a D I'' o'' (q' x C rfl o.hx ⟨_,o.rc.is⟩)
end
end
section
variable{qx:Bool}
noncomputable def Bg:D->Bool
 |.exc _ _=>true
 |_=>false
def exE(E:XK)(v:V)(H:Hp):Prop:=∀x dx,v=.ref x->E (.ref x) dx H
section
variable(K:eh)
inductive RX(E:L2.St->XK)(f:M D)(σ:L2.St)(H:Hp)(Q:VK):Prop where
 |mk (Oo:ff->Prop) (c:Cf) (t:T) (fi:FInv K Oo c t σ H) (r:D) (t':T) (e:f t=some (r,t')) (k:∀v H' c',FInv K Oo c' t' σ H'->Stp Oo c H c' H'->Rep K c' H' v r->if Bg r=true then exE (E σ) v H' else Q v H'):RX E f σ H Q
def μX(E:XK):Cf->Hp->D->(V->Hp->Prop)->Prop:=λc H r rt=>∀v,Rep K c H v r->if Bg r=true then exE E v H else rt v H
inductive RSX(E:L2.St->XK)(f:M Out)(D:Ends)(σ:L2.St)(H:Hp):Prop where
 |mk (Oo:ff->Prop) (c:Cf) (t:T) (fi:FInv K Oo c t σ H) (o:Out) (t':T) (e:f t=some (o,t')) (k:∀σ' H' c',FInv K Oo c' t' σ' H'->Stp Oo c H c' H'->
 match (generalizing:=false) o with
 |.next=>D.nx σ' H'
 |.brk=>D.bk σ' H'
 |.cont=>D.ct σ' H'
 |.ret r=>∀v,Rep K c' H' v r->if Bg r=true then exE (E σ') v H' else D.rt v H'):RSX E f D σ H
inductive spX(f:Fn)(vs:List V)(H:Hp)(Q:VK)(E:XK):Prop where
 |mk (c:Cf) (ds:List D) (S:List Ob) (si:SInv K c S H) (rs:Reps K c H vs ds) (r:D) (S':List Ob) (e:f ds S=some (r,S')) (k:∀v H' c',SInv K c' S' H'->Stp c.O c H c' H'->(∀b,c'.O b↔c.O b)->Rep K c' H' v r->if Bg r=true then exE E v H' else Q v H'):spX f vs H Q E
end
def dW(g:Fn):Fn:=λds S=>match g ds S with
 |some (r,S')=>if Bg r=true then none else some (r,S')
 |none=>none
variable{x:Str}{fa:ff}{fd:fk}
section
variable{P:fh}{w:fj}{K:eh}{mg:Str->Option fc}{base:Heap}
theorem Vg{qual:Str}{st:Stmt}{N ps:List Str}{k n m:Nat}{g:M Out}(e1:ps.length=n)(e2:N.length=m)(F:Fun K x qual st fa fd)(S:FnScope N ps (AA st))
 (hb:∀(cdv:fc) (A:Around) (outer:List Env) (s:fg) (H:Hp) (E:XK),Room k (A.deeper (PyProof.Rows.envOfC qual (AA st) s.heap.objs.size fa cdv))->
   Ft (CX1 qx P w) (cxX qx P w K mg base N qual (AA st) fa cdv A outer s H E) (λ_=>E)->Jr qx (cxX qx P w K mg base N qual (AA st) fa cdv A outer s H E) (λ_=>E)->
   PassesOwn (model P w) (cxX qx P w K mg base N qual (AA st) fa cdv A outer s H E).A (cxX qx P w K mg base N qual (AA st) fa cdv A outer s H E).env (cxX qx P w K mg base N qual (AA st) fa cdv A outer s H E).xe->
   PSs (cxX qx P w K mg base N qual (AA st) fa cdv A outer s H E) (CA st) (RSg K (μX K E) g)):FnOk P w K mg base (CX1 qx P w) (k+1) fa fd ps (spX K (fnOf n m g)):=by
 subst e1 e2;have hlen:∀{ds:List D}{S:List Ob}{z:D×List Ob},fnOf ps.length N.length g ds S=some z->ds.length=ps.length:=λ{ds S z} h=>by
  unfold fnOf at h
  split at h
  .next h1=>exact h1
  .cases h
 refine F.okX S (λvs H Q E h=>?_) (λcdv A outer s H vs Q E hr h=>?_)
 .obtain⟨c,ds,S,si,rs,r,S',e,_⟩:=h;rw[rs.length];exact hlen e
 clear 5 h c ds S0 si rs r S' e kk;refine⟨RSg K (μX K E) g,hb cdv A outer s H E hr XE.pass XE.raises (XE.own rfl rfl),?_⟩;have hl:=hlen e;unfold fnOf at e;rw[gW hl] at e
 cases eg:g ⟨env0 N.length ds,S0⟩ with
 |none=>rw[eg] at e;cases e
 |some p=>
   clear 5 p o t;rw[eg] at e;refine⟨c.O,c,_,G9 si rs,o,t,eg,λσ' H' c' f' s'=>?_⟩;clear 5 f'.leave si' ext';have st':Stp c.O c H ⟨c'.ι,c.O⟩ H':=⟨s'.ext.trans ext',s'.oo⟩
   cases o with
   |next=>cases e;exact kk .non H' _ si' st' (λ_=>gU) .non
   |ret d=>cases e;exact λv rv=>kk v H' _ si' st' (λ_=>gU) (rv.mono ext')
   |brk=>cases e
   |cont=>cases e
theorem WF{ps:List Str}{k:Nat}{f g:Fn}(e:f=g)(h:FnOk P w K mg base (CX1 qx P w) k fa fd ps (spX K g)):FnOk P w K mg base (CX1 qx P w) k fa fd ps (spX K f):=by rw[e];exact h
end
variable{f g:M D}{r:D}
section
variable{X:Cx}{e a b:Expr}{es:List Expr}{pos:Pos}{E:L2.St->XK}{st:Stmt}
theorem LL{E:XK}{f:M Out}(h:PS X st (RSX X.K (λ_=>E) f)):PS X st (RSg X.K (μX X.K E) f):=A5 h λD σ H z9=>by
 clear 5 z9 Oo c t fi o t' eq k;refine⟨Oo,c,t,fi,o,t',eq,λσ' H' c' f' s'=>?_⟩;have q:=k σ' H' c' f' s'
 cases o<;>exact q
theorem Vo{k:Nat}{ps:List Str}{g:Fn}{f:M (List D)}{p:Pos}(F:FnOk X.prog X.w X.K X.mg X.base (CX1 qx X.prog X.w) k fa fd ps (spX X.K g))(hr:Room k X.A)(hg:Gl X x)(hm:X.mg x=some (.ref fa))(hk:PySem.W.keepIn X.K (.ref fa)=true)(hb:Binds X.K fd ps [])
 (hx:Ft (CX1 qx X.prog X.w) X E) (ha:PA X (e::es) (RA X.K f)) (hdb:(x==("__debug__":Str))=false:=by decide) (h1:A8 e=false:=by rfl) (h2:A1 es=true:=by rfl) :
 PE X (.Call (.Name x p) (e::es) [] pos) (RX X.K E (Af g f)):=
 AI (TC F hr hg hm hk hb hx ha hdb (A4 h1) (AV h2).1) λσ H Q z9=>by
  clear 5 z9 Oo c t fi r t' eq kk;clear 5(Ag eq)ds t1 e1 eq;clear 5(HD eq)S' e2 rfl;refine⟨Oo,c,t,fi,ds,t1,e1,λvs H1 c1 f1 s1 rvs=>?_⟩;refine⟨c1,ds,t1.S,f1.s,rvs,r,S',e2,λv H' c' si st ho rv=>?_⟩;clear 5(f1.after si st ho)f2 s2;exact kk v H' c' f2 (s1.trans s2) rv
def nxD(f:M D):M D:=bnd f λd=>if Bg d=true then fail else ret d
theorem MM{t t':T}(h:nxD f t=some (r,t')):f t=some (r,t')/\Bg r=false:=by
 clear 5(Ag h)d t1 e1 h
 by_cases hx:Bg d=true
 .rw[gW hx] at h;cases h
 .rw[gX hx] at h;cases h;exact⟨e1,by simpa using hx⟩
theorem QJ{A B:Prop}(h:Bg r=false)(q:if Bg r=true then A else B):B:=by rw[gX (by rw[h];decide)] at q;exact q
def Km(g:M D)(h:D->M D):M D:=bnd g λy=>if Bg y=true then ret y else nxD (h y)
theorem RX.bind{K:eh}{h:D->M D}{σ:L2.St}{H:Hp}{Q:VK}{Oo:ff->Prop}{c:Cf}{t t':T}(fi:FInv K Oo c t σ H)(eq:Km g h t=some (r,t'))
 (k:∀v H' c',FInv K Oo c' t' σ H'->Stp Oo c H c' H'->Rep K c' H' v r->if Bg r=true then exE (E σ) v H' else Q v H'){R:V->Hp->Prop}
 (s:∀y dy t1 H1 c1,FInv K Oo c1 t1 σ H1->Stp Oo c H c1 H1->Rep K c1 H1 y dy->h dy t1=some (r,t')->(∀v H' c',FInv K Oo c' t' σ H'->Stp Oo c1 H1 c' H'->Rep K c' H' v r->Q v H')->R y H1):RX K E g σ H R:=by
 clear 5(Ag eq)dy t1 e1 eq;refine⟨Oo,c,t,fi,dy,t1,e1,λy H1 c1 f1 s1 ry=>?_⟩
 by_cases hx:Bg dy=true
 .rw[gW hx] at eq⊢
  cases eq
  have:=k y H1 c1 f1 s1 ry;rw[gW hx] at this;exact this
 .rw[gX hx] at eq⊢;clear 5(MM eq)e2 e3;exact s y dy t1 H1 c1 f1 s1 ry e2 λv H' c' f' s' rv=>QJ e3 (k v H' c' f' (s1.trans s') rv)
def Iy(f g:M D)(h:D->D->M D):M D:=bnd f λx=>Km g λy=>h x y
theorem RX.two{K:eh}{h:D->D->M D}{R:R2}(s:A6 K R h){σ:L2.St}{H:Hp}{Q:VK}(q:RX K E (Iy f g h) σ H Q):tOp R (RE K f) (RX K E g) σ H Q:=by
 clear 5 q Oo c t fi r t' eq k;clear 5(Ag eq)dx t1 e1 eq;refine⟨Oo,c,t,fi,dx,t1,e1,λx H1 c1 f1 s1 rx=>?_⟩;exact RX.bind f1 eq (λv H' c' f' s' rv=>k v H' c' f' (s1.trans s') rv) λy dy t2 H2 c2 f2 s2 ry e2 kk=>s f2 (rx.mono s2.ext) ry e2 kk
theorem ZW{op:Operator}{R:R2}{h:D->D->M D}(ho:OpR X (binaryOp op) R)(s:A6 X.K R h)(ha:PE X a (RE X.K f))(hb:PE X b (RX X.K E g)):PE X (.BinOp a op b pos) (RX X.K E (Iy f g h)):=
 AI (Pn ho ha hb) λ_ _ _ q=>RX.two s q
def dI(f g:M D)(h:D->D->M D):M D:=Km f λx=>bnd g λy=>h x y
def du(g:Fn)(f:M D):M D:=Km f λd t=>match g [d] t.S with
 |some (r,S')=>some (r,{t with S:=S'})
 |none=>none
theorem NV(h:PE X e (RX X.K E f)):PS X (.Return (some e) pos) (RSX X.K E (Al f)):=
 A5 (Ih h) λD σ H z9=>by
  clear 5 z9 Oo c t fi o t' eq k;clear 5(Ag eq)d t1 e1 eq
  cases eq
  exact⟨Oo,c,t,fi,d,_,e1,λv H1 c1 f1 s1 rv=>k σ H1 c1 f1 s1 v rv⟩
def D0(i:Nat)(f:M D):M Out:=bnd f λd=>if Bg d=true then ret (.ret d) else bnd (As i d) λ_=>ret .next
theorem NY{i:Nat}{pos':Pos}(hN:X.N.Nodup)(hi:X.N[i]?=some x)(hx:Loc X.env.scope x)(he:PE X e (RX X.K E f))(hs:swapsWith e (some (.Name x pos')) pos.line X.env=pure false:=by rfl)(hf:X.fn x=true\/X.env.scope.names.lookup x=some .local:=by walk_at"h") :
 PS X (.Assign [.Name x pos'] e pos) (RSX X.K E (D0 i f)):=A5 (MU hN hi hx he hs hf) λD σ H z9=>by
 clear 5 z9 Oo c t fi o t' eq k;clear 5(Ag eq)d t1 e1 eq;refine⟨Oo,c,t,fi,d,t1,e1,λv H1 c1 f1 s1 rv=>?_⟩
 by_cases hx:Bg d=true
 .rw[gW hx] at eq⊢
  cases eq
  have:=k σ H1 c1 f1 s1 v rv;rw[gW hx] at this;exact this
 .rw[gX hx] at eq⊢
  cases eq
  exact k _ H1 c1 (f1.set rv) s1
def dH(f:M D):M Out:=bnd f λd=>if Bg d=true then ret (.ret d) else ret .next
def dO(f:M D)(g:D->M Unit):M Out:=bnd f λd=>if Bg d=true then ret (.ret d) else bnd (g d) λ_=>ret .next
theorem Ti{f:M Out}(h:PS X st (RSX X.K E f)):PSs X [st] (RSX X.K E f):=Od h
end
end
structure XGet(K:eh)(C:ff):Prop where
 ga:findIn K (.ref C) "__getattribute__" = some (some (.builtin "BaseException.__getattribute__"))
 gt:findIn K (.ref C) "__getattr__" = some none
 mb:mroIn K C (.type "BaseException")=some true
 mo:mroIn K C (.type "object")=some true
 hd:hasDictIn K C=true
section
variable{prog:fh}{w:fj}{A:Around}{E:fc->fg->Prop}{s:fg}{K:eh}{x C:ff}{ox:Obj}{od:Option Obj}{name:Str}{tk:Tok}{Q:fc->fg->Prop}{R:Result->fg->Prop}
end
section
variable{qx:Bool}
abbrev BH:List Str:=["Short", "Broken"]
structure XM(K:eh)(mg:Str->Option fc)(P:ff)(ca:Str->ff):Prop where
 pm:mg "ParleyError" = some (.ref P)
 pc:XCl K P VE
 ns:∀n∈BH,nsIn K mainGlobals n=some (some (.ref (ca n)))
 ms:∀n∈BH,mg n=some (.ref (ca n))
 cl:∀n∈BH,XCl K (ca n) (.ref P::VE)
 inj:∀n∈BH,∀m∈BH,ca n=ca m->n=m
 np:∀n∈BH,ca n≠P
 kp:∀n∈BH,keepIn K (.ref (ca n))=true
 gt:∀n∈BH,XGet K (ca n)
 gc:∀n∈BH,findIn K (.ref (ca n)) "__class__" = some (some (.builtin "object.__class__"))
 na:∀n∈BH,findIn K (.ref (ca n)) "at" = some none
 nd:∀n∈BH,findIn K (.ref (ca n)) "side" = some none
noncomputable def Gu(n m:Str):Bool:=m == "ParleyError" || m == "ValueError" || n==m
theorem HF{a b:ff}{r:List fc}:(Value.ref a::r).contains (.ref b)=(a==b||r.contains (.ref b)):=by
 rw[List.contains_cons]
 congr 1
 by_cases h:a=b
 .subst h;simp
 .rw[gb.mpr h,gb.mpr (λz:Value.ref b=Value.ref a=>h (Value.ref.inj z).symm)]
theorem Xt{b:ff}:VE.contains (.ref b)=false:=rfl
section
variable{K:eh}{mg:Str->Option fc}{P:ff}{ca:Str->ff}
theorem XM.subE(x:XM K mg P ca){n m:Str}(hn:n∈BH)(hm:m∈BH):(Value.ref (ca n)::.ref P::VE).contains (.ref (ca m))=Gu n m:=by
 rw[HF,HF,Xt,gb.mpr (Ne.symm (x.np m hm)),ul4,ul4];have h1:(m==("ParleyError":Str))=false/\(m==("ValueError":Str))=false:=by
  simp only[BH,ul2,ui2,gR] at hm;rcases hm with rfl|rfl<;>exact⟨by decide,by decide⟩
 unfold Gu;rw[h1.1,h1.2,gz,gz]
 by_cases h:n=m
 .subst h;rw[ui7,ui7]
 .rw[gb.mpr h,gb.mpr λz=>h (x.inj n hn m hm z)]
theorem XM.of(x:XM K mg P ca){n:Str}{C:ff}(hn:n∈BH)(h:nsIn K mainGlobals n=some (some (.ref C))):C=ca n:=by
 rw[x.ns n hn] at h;injection h with h;injection h with h;injection h with h
 exact h.symm
end
theorem Xo{q1 q2:Bool}{x C C':ff}{dx dx':Option ff}(h:XIs q1 x C dx=XIs q2 x C' dx')(e:∃h,XIs q1 x C dx h):C=C'/\dx=dx':=by
 clear 5 e hh o vs e1 e2 e3 e4;have q:XIs q2 x C' dx' hh:=by rw[<-h];exact⟨o,vs,e1,e2,e3,e4⟩
 clear 5 q o' vs' q1 q2 q3 q4;rw[e1] at q1;cases q1
 rw[e2] at q2;cases q2
 exact⟨rfl,e3.symm.trans q3⟩
section
variable{X:Cx}{e:Expr}{es:List Expr}{pos p pos2:Pos}{E:L2.St->XK}{P:ff}{ca:Str->ff}
def dC(n:Str)(f:M (List D)):M Out:=bnd f λds=>match ds with
 |[d]=>ret (.ret (.exc n [d]))
 |_=>fail
def XN0(K:eh)(C:ff):Prop:=∃cd,clsIn K C=some cd/\nsIn K cd.ns "__init__" = some none
def Ii(n:Str)(f:M (List D)):M Out:=bnd f λds=>if ds.length<=1000 then ret (.ret (.exc n [])) else fail
theorem QB{n:Str}{f:M (List D)}(x:XM X.K X.mg P ca)(hn:n∈BH)(hf:Te n=[])(xn:XN0 X.K (ca n))(hc:X.calm=true)(hx:Jr qx X E)(hg:Gl X n)(ha:PA X (e::es) (RA X.K f))
 (hdb:(n==("__debug__":Str))=false:=by decide) (h1:A8 e=false:=by rfl) (h2:A1 es=true:=by rfl):PS X (.Raise (some (.Call (.Name n p) (e::es) [] pos)) none pos2) (RSX X.K E (Ii n f)):=by
 clear 5 xn cd hcd hni;refine A5 (TN hc (x.cl n hn) hx (Wm (x.cl n hn) (x.kp n hn) hcd hni hg (x.ms _ hn) ha hdb (A4 h1) (AV h2).1)) λD σ H z9=>?_;clear 5 z9 Oo c t fi o t' eq k;clear 5(Ag eq)ds t1 e1 eq;refine⟨Oo,c,t,fi,ds,t1,e1,λvs H1 c1 f1 s1 rvs=>?_⟩
 split at eq
 .next hl=>
  cases eq
  refine⟨by rw[rvs.length];exact hl,λy hy=>?_⟩;have f3:=f1.laid (o:=.ext (XIs qx y (ca n) none)) hy;exact k σ _ c1 f3 (s1.trans (f1.stp_laid hy)) (.ref y) (.exc (x.ns _ hn) AJ (f1.s.free hy) (vs:=[]) rfl .nil) y none rfl
 .cases eq
end
section
variable{X:Cx}{pos p:Pos}{P:ff}{ca:Str->ff}{μ:Cf->Hp->D->(V->Hp->Prop)->Prop}
inductive RH(K:eh)(ca:Str->ff)(μ:Cf->Hp->D->(V->Hp->Prop)->Prop)(h:D->M Out)(x C:ff)(dx:Option ff)(E:Ends)(σ:L2.St)(H:Hp):Prop where
 | mk (Oo:ff->Prop) (c:Cf) (t:T) (n:Str) (ds:List D) (fi:FInv K Oo c t σ H) (hn:n∈BH) (hC:C=ca n) (rp:Rep K c H (.ref x) (.exc n ds)) (o:Out) (t':T) (e:h (.exc n ds) t=some (o,t')) (k:∀σ' H' c',FInv K Oo c' t' σ' H'->Stp Oo c H c' H'->
   match (generalizing:=false) o with
   |.next=>E.nx σ' H'
   |.brk=>E.bk σ' H'
   |.cont=>E.ct σ' H'
   |.ret r=>μ c' H' r E.rt):RH K ca μ h x C dx E σ H
noncomputable def unE(i:Nat)(t:T):T:={t with env:=t.env.set i none}
theorem FInv.unset{K:eh}{Oo:ff->Prop}{c:Cf}{t:T}{σ:L2.St}{H:Hp}(f:FInv K Oo c t σ H)(i:Nat):FInv K Oo c (unE i t) (σ.set i none) H:=by
 have neq:∀{j:Nat}{x:Sl},(t.env.set i none)[j]?=some (some x)->j≠i/\t.env[j]?=some (some x):=λ{j x} q=>by
  by_cases h:j=i
  .subst h;rw[ug7] at q
   split at q
   .split at q
    .injection q with q;cases q
    .cases q
   .next h1=>exact absurd rfl h1
  .rw[ud8 (Ne.symm h)] at q;exact⟨h,q⟩
 refine⟨f.s,by simp[unE,f.len],f.sub,λj e q=>?_,λj ds q=>?_,λj k ds es a q1 q2 q3 q4=>?_⟩
 .clear 5(neq q)h q;clear 5(f.val j e q)u h1 h2;exact⟨u,by rw[ud8 (Ne.symm h)];exact h1,h2⟩
 .clear 5(neq q)h q;clear 5(f.own j ds q)a vs h1 h2;exact⟨a,vs,by rw[ud8 (Ne.symm h)];exact h1,h2⟩
 .clear 5(neq q1)h q1;clear 5(neq q2)h' q2;rw[ud8 (Ne.symm h)] at q3;rw[ud8 (Ne.symm h')] at q4;exact f.inj j k ds es a q1 q2 q3 q4
def hAs(n':Str)(i:Nat)(s:M Out)(r:D->M Out):D->M Out:=λe t=>match e with
 | .exc n ds=>if Gu n n'=true then (match s { t with env:=t.env.set i (some (.val (.exc n ds))) } with
   |some (o,t2)=>some (o,unE i t2)
   |none=>none) else r (.exc n ds) t
 |_=>none
def hNo(n':Str)(s:M Out)(r:D->M Out):D->M Out:=λe t=>match e with
 |.exc n ds=>if Gu n n'=true then s t else r (.exc n ds) t
 |_=>none
noncomputable def Ye:D->M Out:=λ_ _=>none
theorem XZ:PH qx X [] (RH X.K ca μ Ye):=by
 rintro _ _ _ _ _ _ _ _ _ _ _ ⟨_,_,_,_,_,_,_,_,_,_,_,e,_⟩
 cases e
theorem ZO{n' v:Str}{C':ff}{bm':List fc}{i:Nat}{b₀:Stmt}{suite:List Stmt}{rest:List ExceptHandler}{s:M Out}{r:D->M Out}(x:XM X.K X.mg P ca)(hg:Gl X n')(hm:X.mg n'=some (.ref C'))(c':XCl X.K C' bm')(hs:∀n∈BH,(Value.ref (ca n)::.ref P::VE).contains (.ref C')=Gu n n')
 (hN:X.N.Nodup) (hi:X.N[i]?=some v) (hl:X.env.scope.names.lookup v=some .local) (hb:∀x,PSs (X.mark x) (b₀::suite) (RSg X.K μ s)) (hr:PH qx X rest (RH X.K ca μ r)) (hdb:(n'==("__debug__":Str))=false:=by decide) :
 PH qx X (.ExceptHandler (some (.Name n' p)) (some v) (b₀::suite) pos::rest) (RH X.K ca μ (hAs n' i s r)):=by
 intro fb s0 σ H y C dx T D I o q;refine Z5 hg hm c' hN hi hl hb hr hdb fb s0 σ H y C dx T D I o ?_;clear 5 q Oo c t n ds fi hn rfl rv o1 t' eq k;refine⟨_,x.cl n hn,?_⟩;rw[hs n hn];unfold hAs at eq;dsimp only at eq
 by_cases hb':Gu n n'=true
 .rw[gW hb'] at eq⊢
  cases e1:s {t with env:=t.env.set i (some (.val (.exc n ds)))} with
  |none=>rw[e1] at eq;cases eq
  |some z=>
    clear 5 z o2 t2;rw[e1] at eq
    cases eq
    refine⟨Oo,c,_,fi.set rv,o1,t2,e1,λσ' H' c2 f2 s2=>?_⟩;have:=k _ H' c2 (f2.unset i) s2
    cases o1<;>exact this
 .rw[gX hb'] at eq⊢;exact⟨Oo,c,t,n,ds,fi,hn,rfl,rv,o1,t',eq,k⟩
theorem ZP{n':Str}{C':ff}{bm':List fc}{b₀:Stmt}{suite:List Stmt}{rest:List ExceptHandler}{s:M Out}{r:D->M Out}(x:XM X.K X.mg P ca)(hg:Gl X n')(hm:X.mg n'=some (.ref C'))(c':XCl X.K C' bm')(hs:∀n∈BH,(Value.ref (ca n)::.ref P::VE).contains (.ref C')=Gu n n')
 (hb:∀x,PSs (X.mark x) (b₀::suite) (RSg X.K μ s)) (hr:PH qx X rest (RH X.K ca μ r)) (hdb:(n'==("__debug__":Str))=false:=by decide) :
 PH qx X (.ExceptHandler (some (.Name n' p)) none (b₀::suite) pos::rest) (RH X.K ca μ (hNo n' s r)):=by
 intro fb s0 σ H y C dx T D I o q;refine Z6 hg hm c' hb hr hdb fb s0 σ H y C dx T D I o ?_;clear 5 q Oo c t n ds fi hn rfl rv o1 t' eq k;refine⟨_,x.cl n hn,?_⟩;rw[hs n hn];unfold hNo at eq;dsimp only at eq
 by_cases hb':Gu n n'=true
 .rw [gW hb'] at eq ⊢;exact ⟨Oo,c,t,fi,o1,t',eq,λσ' H' c2 f2 s2=>by
   have:=k _ H' c2 f2 s2
   cases o1<;>exact this⟩
 .rw[gX hb'] at eq⊢;exact⟨Oo,c,t,n,ds,fi,hn,rfl,rv,o1,t',eq,k⟩
noncomputable def F7(b:M Out)(h:D->M Out):M Out:=λt=>match b t with
 |some (.ret (.exc n ds),t1)=>if n∈BH then h (.exc n ds) t1 else none
 |z=>z
theorem X8{body:List Stmt}{h₀:ExceptHandler}{hs:List ExceptHandler}{b:M Out}{h:D->M Out}(x:XM X.K X.mg P ca)(hμ:∀c H r rt,Bg r=false->(∀v,Rep X.K c H v r->rt v H)=μ c H r rt)(h1:X.stack=X.env::X.outer)(h2:X.env.frame=some X.env.locals)
 (hb:∀(pn:List (ff×Obj)) (E:L2.St->XK),Ft (CX1 qx X.prog X.w) {X with pn:=pn,xe:=XE qx {X with pn:=pn} E} E->PSs {X with pn:=pn,xe:=XE qx {X with pn:=pn} E} body (RSX X.K E b)) (hh:PH qx X (h₀::hs) (RH X.K ca μ h)):PS X (.Try body (h₀::hs) [] [] pos) (RSg X.K μ (F7 b h)):=
 A5 (YT h1 h2 (λpn E=>hb pn E (XE.pass (X:={X with pn:=pn}))) hh) λD σ H z9=>by
  clear 5 z9 Oo c t fi o t' eq k;unfold F7 at eq
  cases e1:b t with
  |none=>rw[e1] at eq;cases eq
  |some z=>
    clear 5 z o1 t1;rw[e1] at eq;refine⟨Oo,c,t,fi,o1,t1,e1,λσ1 H1 c1 f1 s1=>?_⟩
    cases o1 with
    |next=>cases eq;exact k σ1 H1 c1 f1 s1
    |brk=>cases eq;exact k σ1 H1 c1 f1 s1
    |cont=>cases eq;exact k σ1 H1 c1 f1 s1
    |ret r=>
      intro v rv
      cases hx:Bg r with
      |false=>
        rw[gX (by decide)];have eq':some (Out.ret r,t1)=some (o,t'):=by cases r<;>first|exact eq|cases hx
        cases eq'
        have q:=k σ1 H1 c1 f1 s1;have q:μ c1 H1 r D.rt:=q;rw[<-hμ _ _ _ _ hx] at q;exact q v rv
      |true=>
        rw[gW rfl];intro y dx hv y' C hy' hC hex
        cases rv with
        |@exc q0 x0 C0 dx0 n vs ds g hx0 hA fl rs=>
          cases hv
          cases hy'
          dsimp only at eq
          split at eq
          .next hn=>
           rw[hx0] at hC;injection hC with hC;injection hC with hC
           clear 5(Xo hC.symm hex)e2 e3;have:=x.of hn g;exact⟨Oo,c1,t1,n,ds,f1,hn,e2.trans this,.exc g hx0 hA fl rs,o,t',eq,λσ' H' c' f' s'=>k σ' H' c' f' (s1.trans s')⟩
          .cases eq
        |_=>cases hx
end
end
section
variable{qx:Bool}
def dU(n:Str):D->M D
 |.exc m _=>if m∈BH then ret (.bl (Gu m n)) else fail
 |.non=>ret (.bl false)
 |.bl _=>ret (.bl false)
 |.int _=>ret (.bl false)
 |.str _=>ret (.bl false)
 |.lst _=>ret (.bl false)
 |.tup _=>ret (.bl false)
 |.dic=>ret (.bl false)
 |_=>fail
section
variable{X:Cx}{P:ff}{ca:Str->ff}{a:Expr}{f:M D}{p pos q:Pos}
def dQ(nm:Str):D->M D
 | .exc n ds=>if n∈BH then (match ((Te n).zip ds).lookup nm with
   |some d=>ret d
   |none=>fail) else fail
 |_=>fail
end
end
section
variable{qx:Bool}
def P0(K:eh)(P c:ff):Bool:=LP K c (.ref P::VE)&&keepIn K (.ref c)&&findIn K (.ref c) "__getattribute__" == some (some (.builtin "BaseException.__getattribute__"))&&findIn K (.ref c) "__getattr__" == some none&&mroIn K c (.type "BaseException")==some true
 && mroIn K c (.type "object")==some true&&hasDictIn K c&&findIn K (.ref c) "__class__" == some (some (.builtin "object.__class__"))&&findIn K (.ref c) "at" == some none&&findIn K (.ref c) "side" == some none
structure XOne(K:eh)(P c:ff):Prop where
 cl:XCl K c (.ref P::VE)
 kp:keepIn K (.ref c)=true
 gt:XGet K c
 gc:findIn K (.ref c) "__class__" = some (some (.builtin "object.__class__"))
 na:findIn K (.ref c) "at" = some none
 nd:findIn K (.ref c) "side" = some none
variable{K:eh}
theorem OC{P c:ff}(h:P0 K P c=true):XOne K P c:=by
 unfold P0 at h;simp only[uh6,gK] at h;obtain⟨⟨⟨⟨⟨⟨⟨⟨⟨h1,h2⟩,h3⟩,h4⟩,h5⟩,h6⟩,h7⟩,h8⟩,h9⟩,h10⟩:=h;exact⟨.of_in h1,h2,⟨h3,h4,h5,h6,h7⟩,h8,h9,h10⟩
noncomputable def Me(c1 c2:ff):Str->ff:=λn=>if n = "Short" then c1 else c2
theorem Cz{Q:Str->Prop}(h1:Q "Short")(h2:Q "Broken"):∀n∈BH,Q n:=by
 intro n hn;simp only[BH,ul2,ui2,gR] at hn;rcases hn with rfl|rfl<;>assumption
def PZ(K:eh)(P:ff)(cs:List ff):Bool:=LP K P VE&&cs.all (P0 K P)
theorem bi{h:Heap}{mg:Str->Option fc}{P c1 c2:ff}(X:K.In h)(G:h.Ns mainGlobals mg)(p:nsIn K mainGlobals "ParleyError" = some (some (.ref P)))(a1:nsIn K mainGlobals "Short" = some (some (.ref c1)))(a2:nsIn K mainGlobals "Broken" = some (some (.ref c2)))(q:PZ K P [c1,c2]=true)(nd:[P,c1,c2].Nodup):XM K mg P (Me c1 c2):=by
 unfold PZ at q;simp only[ul6,List.all_nil,Bool.and_true,uh6] at q;clear 5 q q0 q1 q2;have o1:=OC q1;have o2:=OC q2;have inj:∀n∈BH,∀m∈BH,Me c1 c2 n=Me c1 c2 m->n=m:=by
  simp only[uj4,ul2,ui2,gR,not_or,List.nodup_nil,and_true] at nd;obtain⟨⟨n1,n2⟩,m12,_⟩:=nd;have h1:Me c1 c2 "Short" = c1:=rfl;have h2:Me c1 c2 "Broken" = c2:=rfl;refine Cz ?_ ?_<;>refine Cz ?_ ?_<;>intro e<;>first|rfl|(exfalso;rw[h1] at e)|(exfalso;rw[h2] at e)
  all_goals (first|rw[h1] at e|rw[h2] at e)
  all_goals (first|contradiction|(have e:=e.symm;contradiction))
 refine⟨mg_of X G p,.of_in q0,Cz a1 a2,Cz (mg_of X G a1) (mg_of X G a2),Cz o1.cl o2.cl,inj,?_,
  Cz o1.kp o2.kp,Cz o1.gt o2.gt,Cz o1.gc o2.gc,Cz o1.na o2.na,Cz o1.nd o2.nd⟩
 simp only[uj4,ul2,ui2,gR,not_or] at nd;obtain⟨⟨n1,n2⟩,_⟩:=nd;exact Cz (Ne.symm n1) (Ne.symm n2)
noncomputable def JF(s:Stmt)(k:Nat):Stmt:=match s with
 |.ClassDef _ _ _ body _ _ _ _ _ _ _=>body.getD k (.Pass ⟨0,0,0,0⟩)
 |_=>.Pass ⟨0,0,0,0⟩
noncomputable def MI(K:eh)(C:ff):Bool:=match clsIn K C with
 |some cd=>nsIn K cd.ns "__init__" == some none
 |none=>false
theorem ZD{C:ff}(h:MI K C=true):XN0 K C:=by
 unfold MI at h
 split at h
 .next cd e=>exact⟨cd,e,gK.mp h⟩
 .cases h
end
inductive Kd where
 |pl|fr|ex|er
abbrev okK(k:Kd)(P:fh)(w:fj)(K:eh)(mg:Str->Option fc)(base:Heap)(n:Nat)(fa:ff)(fd:fk)(ps:List Str)(f:Fn):Prop:=match k with
 |.pl=>FnOk P w K mg base CX0 n fa fd ps (spF K f)
 |.fr=>FnOk P w K mg base CX0 n fa fd ps (spFF K f)
 |.ex=>FnOk P w K mg base (CX1 true P w) n fa fd ps (spX K f)
 |.er=>FnOk P w K mg base (CX1 false P w) n fa fd ps (spX K f)
section
variable{X:Cx}{e a b:Expr}{pos:Pos}{f g:M D}
theorem NU{E:XK}(h:PE X e (RE X.K f)):PS X (.Return (some e) pos) (RSg X.K (μX X.K E) (Al (nxD f))):=
 A5 (Ih h) λD σ H z9=>by
  clear 5 z9 Oo c t fi o t' eq k;clear 5(Ag eq)d t1 e1 eq
  cases eq
  clear 5(MM e1)e2 e3;exact⟨Oo,c,t,fi,d,_,e2,λv H1 c1 f1 s1 rv=>QJ e3 (k σ H1 c1 f1 s1 v rv)⟩
end
theorem Yt{K:eh}:∀(c:Cf) (H:Hp) (r:D) (rt:V->Hp->Prop),Bg r=false->(∀v,Rep K c H v r->rt v H)=μR K c H r rt:=λ_ _ _ _ _=>rfl
section
variable{qx:Bool}
section
variable{X:Cx}{P:ff}{ca:Str->ff}{a:Expr}{es:List Expr}{f:M D}{p pos q:Pos}{i:Nat}{ns:List Str}
end
end
section
variable{qx:Bool}
section
variable{prog:fh}{w:fj}{A:Around}{s:fg}{K:eh}{x C P dx:ff}{ox:Obj}{od:Option Obj}{R:Result->fg->Prop}{name:Str}{v:fc}{tk:Tok}{cd:ClassData}
end
section
variable{X:Cx}{k:Nat}{f C P:ff}{fd:fk}{fb:List (ff×Obj)}{σ:St}{H:Hp}{s:fg}{Q:fc->fg->Prop}{us:List fc}{vs:List V}{a b:Str}{ps:List Str}{v v2:V}{u u2:fc}
end
section
variable{X:Cx}{k:Nat}{f C P:ff}{fd:fk}{a b:Str}{ps:List Str}{n:Str}{p pos:Pos}{e e':Expr}
end
end
section
variable{qx:Bool}
section
variable{X:Cx}{e e':Expr}{pos p pos2:Pos}{E:L2.St->XK}{P:ff}{ca:Str->ff}
def dD(n:Str)(f:M (List D)):M Out:=bnd f λds=>match ds with
 |[d,d']=>ret (.ret (.exc n [d,d']))
 |_=>fail
end
end
section
variable{X:Cx}{a b:Expr}{pos:Pos}
end
section
variable{prog:fh}{w:fj}{A:Around}{E:fc->fg->Prop}{env:Env}{K:eh}{C:ff}{bm:List fc}{s:fg}
end
section
variable{X:Cx}{fb:List (ff×Obj)}{σ:St}{H:Hp}{s s':fg}{qx:Bool}{x C:ff}{dx T:Option ff}{fl:fc}
end
section
variable{X:Cx}{n v:Str}{C' C2:ff}{bm' bm2:List fc}{p pos p2:Pos}{e cN:Expr}{rest:List ExceptHandler}{t:St->Hp->(ff->Option ff->Hp->Prop)->Prop}{tr:ff->ff->Option ff->TS}{i:Nat}{E:St->XK}
end
structure FnOkH(P:fh)(w:fj)(K:eh)(mg:Str->Option fc)(base:Heap)(CX:CXT)(k:Nat)(f:ff)(fd:fk)(ps:List Str)(sp:Sp):Prop where
 len:∀vs H Q E,sp vs H Q E->vs.length=ps.length
 run:∀(z:ff) (A:Around) (outer:List Env) (s:fg) (H:Hp) (args:Args) (us:List fc) (vs:List V) (Q:VK) (E:XK),Room k A->Env0 P w K mg base A outer s H->BindsTo s fd args (ps.zip us)->Vals vs us->sp vs H Q E->
  codeAny (model P w) (A.mark (some (.ref z))) (.call (.ref f) args) (CR CX outer P w H s Q E) s
section
variable{qx:Bool}{X:Cx}{k:Nat}{f C P:ff}{fd:fk}{fb:List (ff×Obj)}{σ:St}{H:Hp}{s:fg}{Q:fc->fg->Prop}{us:List fc}{vs:List V}{a b:Str}{ps:List Str}{v v2:V}{u u2:fc}{n:Str}{p pos:Pos}{e e':Expr}
end
section
variable{X:Cx}{pos p p2 p3 p4:Pos}{P:ff}{ca:Str->ff}{E:XK}{e e' cN:Expr}
end
section
variable{prog:fh}{w:fj}{A:Around}{E:fc->fg->Prop}{s:fg}
variable{I:ff}{fp wr:List ff}{G:Array GenState->Array GenState->Prop}{n:Nat}{P:Nat->fc->Prop}{St:Nat->fg->Prop}
def dm(prog:fh)(w:fj)(h:Heap)(no:List ff)(k:Key)(x v:fc):Prop:=∃(p:ff) (o:Obj) (kv:fc) (q:Nat),v=.ref p/\p∉no/\h.get? p=some o/\o.cls=.type "tuple"/\o.data=.seq #[kv,x] q/\(CH prog w).is k kv=true
end
section
variable{X:Cx}
end
section
variable{X:Cx}{pos:Pos}{e:Expr}
end
section
variable{X:Cx}
end
section
variable{K:eh}
end
section
variable{X:Cx}{pos:Pos}{e:Expr}
end
section
variable{X:Cx}
end
def CM(K:eh):Prop:=∀n∈Kv,∀C,nsIn K mainGlobals n=some (some (.ref C))->Cls K C/\∀f∈atN,NoAttr K C f
noncomputable def FZ(f:Str)(v:D):List (Str×D)->List (Str×D)
 |[]=>[(f,v)]
 |(g,x)::r=>if g=f then(g,v)::r else(g,x)::FZ f v r
section
variable{K:eh}{c:Cf}{H:Hp}
theorem FldR.len:∀{us:List (Str×V)}{fs:List (Str×D)},FldR K c H us fs->us.length=fs.length
 |_,_,.nil=>rfl
 |_,_,.cons _ t=>by rw[uh2,uh2,FldR.len t]
theorem FldR.look{f:Str}{d:D}:∀{us:List (Str×V)}{fs:List (Str×D)},FldR K c H us fs->fs.lookup f=some d->∃v,us.lookup f=some v/\Rep K c H v d
 |_,_,.nil,e=>by cases e
 |(g,x)::us,(g',y)::fs,.cons ⟨h1,h2⟩ t,e=>by
   have h1:g=g':=h1;subst h1
   by_cases q:(f==g)=true
   .simp only[List.lookup,q] at e⊢
    cases e
    exact⟨_,rfl,h2⟩
   .have q:(f==g)=false:=by simpa using q
    simp only[List.lookup,q] at e⊢;exact FldR.look t e
theorem FldR.none{f:Str}:∀{us:List (Str×V)}{fs:List (Str×D)},FldR K c H us fs->(∀p∈fs,p.1≠f)->us.lookup f=none
 |_,_,.nil,_=>rfl
 |(g,x)::us,(g',y)::fs,.cons ⟨h1,h2⟩ t,e=>by
   have h1:g=g':=h1;subst h1;have q:(f==g)=false:=by
    have:=e (g,y) (.head _);simpa using λz:f=g=>this z.symm
   simp only[List.lookup,q];exact FldR.none t λp hp=>e p (.tail _ hp)
theorem FldR.put{f:Str}{v:V}{d:D}(r:Rep K c H v d):∀{us:List (Str×V)}{fs:List (Str×D)},FldR K c H us fs->FldR K c H (C5 f v us) (FZ f d fs)
 |_,_,.nil=>.cons ⟨rfl,r⟩ .nil
 |(g,x)::us,(g',y)::fs,.cons ⟨h1,h2⟩ t=>by
   have h1:g=g':=h1;subst h1;show FldR K c H (if g=f then(g,v)::us else(g,x)::C5 f v us) (if g=f then(g,d)::fs else(g,y)::FZ f d fs)
   by_cases q:g=f
   .rw[gW q,gW q];exact .cons ⟨rfl,r⟩ t
   .rw[gX q,gX q];exact .cons ⟨rfl,h2⟩ (FldR.put r t)
theorem FldR.mono{c':Cf}{H':Hp}(e:Ext c H c' H'){us:List (Str×V)}{fs:List (Str×D)}(h:FldR K c H us fs):FldR K c' H' us fs:=Paired.mapP h λ_ _ z=>⟨z.1,z.2.mono e⟩
theorem Of{f:Str}{v:D}(hf:f∈atN):∀{fs:List (Str×D)},(∀p∈fs,p.1∈atN)->∀p∈FZ f v fs,p.1∈atN
 |[],_=>λp hp=>by rw[show FZ f v []=[(f,v)] from rfl,uf7] at hp;subst hp;exact hf
 |(g,x)::r,h=>λp hp=>by
   rw[show FZ f v ((g,x)::r)=(if g=f then(g,v)::r else(g,x)::FZ f v r) from rfl] at hp
   split at hp
   .rcases ul2.mp hp with e|e
    .subst e;exact h (g,x) (.head _)
    .exact h p (.tail _ e)
   .rcases ul2.mp hp with e|e
    .subst e;exact h (g,x) (.head _)
    .exact Of hf (λp hp=>h p (.tail _ hp)) p e
end
noncomputable def FK{α:Type}(d:D)(h:Nat->Str->List (Str×D)->M α):M α:=λt=>match d with
 |.obj k=>match t.S[k]? with
   |some (.ins n fs)=>h k n fs t
   |_=>none
 |_=>none
theorem HN{α:Type}{d:D}{h:Nat->Str->List (Str×D)->M α}{t:T}{z:α×T}(e:FK d h t=some z):∃k n fs,d=.obj k/\t.S[k]?=some (.ins n fs)/\h k n fs t=some z:=by
 cases d with
 |obj k=>
   rw[show FK (.obj k) h t=(match t.S[k]? with|some (.ins n fs)=>h k n fs t|_=>none) from rfl] at e
   cases es:t.S[k]? with
   |none=>rw[es] at e;cases e
   |some o=>
     rw[es] at e
     cases o with
     |ins n fs=>exact⟨k,n,fs,rfl,es,e⟩
     |_=>cases e
 |_=>cases e
def Dz(f:Str)(a:M D):M D:=bnd a λd=>FK d λ_ _ fs t=>(fs.lookup f).map λv=>(v,t)
def E5(f:Str)(gv ga:M D):M Out:=bnd gv λv=>bnd ga λd=>FK d λk n fs t=>if fs.length<1000 then some (.next,{t with S:=t.S.set k (.ins n (FZ f v fs))}) else none
def LG(n:Str)(g:Fn)(f:M (List D)):M D:=bnd f λds t=>match g (.obj t.S.length::ds) (t.S++[.ins n []]) with
 |some (.non,S')=>some (.obj t.S.length,{t with S:=S'})
 |_=>none
def D6(n:Str)(g:Fn)(o:M D)(f:M (List D)):M D:=bnd o λd=>FK d λ_ n' _=>if n'=n then bnd f λds t=>match g (d::ds) t.S with
 |some (r,S')=>some (r,{t with S:=S'})
 |none=>none else fail
theorem KP{K:eh}{c:Cf}{H:Hp}{v:V}{k:Nat}(h:Rep K c H v (.obj k)):∃a,v=.ref a/\c.ι[k]?=some a:=by
 cases h with
 |obj e=>exact⟨_,rfl,e⟩
section
variable{X:Cx}{CX:CXT}{k:Nat}{f C:ff}{fd:fk}{ps:List Str}{sp:Sp}{E:St->XK}{x m:Str}{p pos apos:Pos}{e o:Expr}{es:List Expr}{ta:TE}{t:TA}
abbrev Sq(X:Cx)(o:Expr)(m:Str)(es:List Expr)(apos pos:Pos)(pl:Sem Bool):Prop:=eval (.Call (.Attribute o m apos) es [] pos) X.env=(do
 let ov <-eval o X.env
 standAt apos.atName
 let (f,first) <-holding [ov] (getMethod ov m pl)
 callWith pos f first (backTo pos (starEach es X.env)) (backToKw pos (keywordEach [] X.env)))
structure ByCls(K:eh)(C:ff)(m:Str)(f:ff):Prop where
 ga:specialIn K (.ref C) "__getattribute__" = some (some (.builtin "type.__getattribute__"))
 rd:readsIn K C (.type "type")=true
 at_:(match findCls K (.ref C) (.type "type") m with|some (.val (.ref g))=>g==f|_=>false)=true
 kp:keepIn K (.ref f)=true
end
section
variable{n:Str}{h:Fn}
section
variable{X:Cx}{e o a value:Expr}{es:List Expr}{pos pos' apos p:Pos}{f:Str}{g gv ga:M D}{fl:M (List D)}{C:ff}
theorem XO(cm:CM X.K)(hf:f∈atN)(he:PE X e (RE X.K g))(hb:attributeBase e f X.env (eval e X.env)=eval e X.env):PE X (.Attribute e f pos) (RE X.K (Dz f g)):=
 AI (YH he hb) λσ H Q z9=>by
  clear 5 z9 Oo c t fi r t' eq kk;clear 5(Ag eq)d t1 e1 eq;clear 5(HN eq)k n fs rfl es eq;clear 5(uc2.mp eq)y e2 e3
  cases e3
  refine⟨Oo,c,t,fi,.obj k,_,e1,λv H1 c1 f1 s1 rv=>?_⟩;clear 5(KP rv)b rfl hk;obtain⟨⟨hn,hat⟩,C,dx,us,g1,g2,g3⟩:=f1.s.obs k b _ hk es;clear 5(g3.look e2)w l1 l2;exact⟨b,C,dx,us,w,rfl,g2,(cm n hn C g1).1,(cm n hn C g1).2 f hf,l1,kk w H1 c1 f1 s1 l2⟩
theorem X6{μ:Cf->Hp->D->(V->Hp->Prop)->Prop}(cm:CM X.K)(hf:f∈atN)(ha:PE X o (RE X.K ga))(hv:PE X value (RE X.K gv))(hs:swapsWith value (some (.Attribute o f pos')) pos.line X.env=pure false:=by rfl) :
 PS X (.Assign [.Attribute o f pos'] value pos) (RSg X.K μ (E5 f gv ga)):=
 A5 (YS ha hv hs) λD σ H z9=>by
  clear 5 z9 Oo c t fi r t' eq kk;clear 5(Ag eq)d t1 e1 eq;clear 5(Ag eq)d2 t2 e2 eq;clear 5(HN eq)k n fs rfl es eq
  split at eq
  .next hl=>
   cases eq
   refine⟨Oo,c,t,fi,d,t1,e1,λv H1 c1 f1 s1 rv=>⟨Oo,c1,t1,f1,.obj k,t2,e2,λx H2 c2 f2 s2 rx=>?_⟩⟩;clear 5(KP rx)b rfl hk;obtain⟨⟨hn,hat⟩,C,dx,us,g1,g2,g3⟩:=f2.s.obs k b _ hk es;refine⟨b,C,dx,us,rfl,g2,(cm n hn C g1).1,(cm n hn C g1).2 f hf,by rw[g3.len];exact hl,?_⟩;obtain⟨f3,s3⟩:=f2.wrObj (o:=.ins n (FZ f d fs)) (u:=.ins C dx (C5 f v us)) hk λc' H' ext hu=>⟨⟨hn,Of hf hat⟩,C,dx,_,g1,hu,(FldR.put (rv.mono s2.ext) g3).mono ext⟩;exact kk σ _ c2 f3 ((s1.trans s2).trans s3)
  .cases eq
theorem QX{ds:List D}{t:T}{r:D}{t':T}(e:(match h (.obj t.S.length::ds) (t.S++[.ins n []]) with|some (.non,S')=>some (.obj t.S.length,{t with S:=S'})|_=>none:Option (D×T))=some (r,t')) :
 ∃S',h (.obj t.S.length::ds) (t.S++[.ins n []])=some (.non,S')/\r=.obj t.S.length/\t' = {t with S:=S'}:=by
 split at e
 .next S' q=>cases e;exact⟨S',q,rfl,rfl⟩
 .cases e
theorem U7{k:Nat}{fa:ff}{fd:fk}{ps:List Str}(hn:n∈Kv)(hC:nsIn X.K mainGlobals n=some (some (.ref C)))(M:Mk X.K C fa)(F:FnOk X.prog X.w X.K X.mg X.base CX0 k fa fd ps (spF X.K h))(hr:Room (k+1) X.A)(hg:Gl X n)(hm:X.mg n=some (.ref C))(hb:Binds X.K fd ps [])
 (ha:PA X (e::es) (RA X.K fl)) (hdb:(n==("__debug__":Str))=false:=by decide) (h1:A8 e=false:=by rfl) (h2:A1 es=true:=by rfl):PE X (.Call (.Name n p) (e::es) [] pos) (RE X.K (LG n h fl)):=
 AI (We M F hr hg hm hb .nil LJ ha hdb (A4 h1) (AV h2).1) λσ H Q z9=>by
  clear 5 z9 Oo c t fi r t' eq kk;clear 5(Ag eq)ds t1 e1 eq;clear 5(QX eq)S' e2 rfl rfl;refine⟨Oo,c,t,fi,ds,t1,e1,λvs H1 c1 f1 s1 rvs x dx hx hdx ne=>?_⟩;rw[uj3];have f2:=f1.laid (p:=dx) (o:=.own x) hdx;have s2:=f1.stp_laid (p:=dx) (o:=.own x) hdx;have hx2:upd H1 dx (.own x) x=none:=by rw[Av (Ne.symm ne)];exact hx
  obtain⟨c3,f3,s3,e3⟩:=f2.newObj (o:=.ins n []) (u:=.ins C dx []) hx2 λc' H' ext hu=>⟨⟨hn,λp hp=>by cases hp⟩,C,dx,[],hC,hu,.nil⟩;refine⟨c3,.obj t1.S.length::ds,_,f3.s,.cons (.obj e3) ((rvs.mono s2.ext).mono s3.ext),.non,S',e2,λv H' c' si st ho rv=>?_⟩;clear 5(f3.after si st ho)f4 s4
  cases rv
  exact⟨rfl,kk _ H' c' f4 ((s1.trans s2).trans (s3.trans s4)) (.obj (st.ext.io _ _ e3))⟩
structure MAt(K:eh)(n m:Str)(C fa:ff):Prop where
 cl:n∈Kv
 at_:nsIn K mainGlobals n=some (some (.ref C))
 me:Meth K C m fa
 na:m∉atN
theorem QY{d:D}{t:T}{r:D}{t':T}(e:FK d (λ_ n' _=>if n'=n then bnd fl λds t=>match h (d::ds) t.S with|some (r,S')=>some (r,{t with S:=S'})|none=>none else fail) t=some (r,t')) :
 ∃k fs ds t1 S',d=.obj k/\t.S[k]?=some (.ins n fs)/\fl t=some (ds,t1)/\h (d::ds) t1.S=some (r,S')/\t' = {t1 with S:=S'}:=by
 clear 5(HN e)k n' fs rfl es q
 by_cases hn:n'=n
 .subst hn;rw[gW rfl] at q;clear 5(Ag q)ds t1 e1 q;clear 5(HD q)S' e2 rfl;exact⟨k,fs,ds,t1,S',rfl,es,e1,e2,rfl⟩
 .rw[gX hn] at q;cases q
section
variable{k:Nat}{fa:ff}{fd:fk}{ps:List Str}{h:Fn}{n m:Str}{qx:Bool}{E:L2.St->XK}
theorem Kz{pl:Sem Bool}(cm:CM X.K)(ma:MAt X.K n m C fa)(F:FnOk X.prog X.w X.K X.mg X.base CX0 k fa fd ps (spF X.K h))(hr:Room k X.A)(hb:Binds X.K fd ps [])(he:PE X o (RE X.K g))(ha:PA X (e::es) (RA X.K fl))
 (h1:A8 e=false:=by rfl) (h2:A1 es=true:=by rfl) (ht:Sq X o m (e::es) apos pos pl:=by rfl):PE X (.Call (.Attribute o m apos) (e::es) [] pos) (RE X.K (D6 n h g fl)):=
 AI (Wg (pl:=pl) he (cm n ma.cl C ma.at_).1 ma.me F hr hb .nil LJ ha (A4 h1) (AV h2).1 ht) λσ H Q z9=>by
  clear 5 z9 Oo c t fi r t' eq kk;clear 5(Ag eq)d t1 e1 eq;clear 5(QY eq)j fs ds t2 S' rfl es e2 e3 rfl;refine⟨Oo,c,t,fi,.obj j,t1,e1,λv H1 c1 f1 s1 rv=>?_⟩;clear 5(KP rv)b rfl hk;obtain⟨⟨_,hat⟩,C',dx,us,g1,g2,g3⟩:=f1.s.obs j b _ hk es;rw[ma.at_] at g1
  cases g1
  refine⟨b,dx,us,rfl,g2,g3.none λp hp z=>ma.na (z ▸ hat p hp),Oo,c1,t1,f1,ds,t2,e2,λvs H2 c2 f2 s2 rvs=>?_⟩;show spF X.K h (V.ref b::(vs++[])) H2 Q E0;rw[uj3];refine⟨c2,.obj j::ds,t2.S,f2.s,.cons (.obj (s2.ext.io _ _ hk)) rvs,r,S',e3,λv H' c' si st ho rv=>?_⟩;clear 5(f2.after si st ho)f3 s3;exact kk v H' c' f3 ((s1.trans s2).trans s3) rv
end
end
variable{K:eh}
theorem Yw{k:Kd}{P:fh}{w:fj}{mg:Str->Option fc}{base:Heap}{n:Nat}{fa:ff}{fd:fk}{ps:List Str}{f:Fn}(h:okK k P w K mg base n fa fd ps f):okK k P w K mg base (n+1) fa fd ps f:=by
 cases k<;>exact FnOk.mono h (un7 _)
def OT(K:eh)(C:ff):Bool:=plainGet K C Str.empty&&hasDictIn K C&&plainOver K C&&findIn K (.ref C) "__setattr__" == some (some (.builtin "object.__setattr__"))&&atN.all λf=>findIn K (.ref C) f==some none
theorem UZ{C:ff}(h:OT K C=true):Cls K C/\∀f∈atN,NoAttr K C f:=by
 unfold OT at h;simp only[uh6,gK,ui1] at h;obtain⟨⟨⟨⟨a,b⟩,c⟩,d⟩,e⟩:=h;exact⟨⟨a,b,c,d⟩,λf hf=>e f hf⟩
theorem ZG(h:∀n∈Kv,nsIn K mainGlobals n=some none\/∃C,nsIn K mainGlobals n=some (some (.ref C))/\OT K C=true):CM K:=λn hn C e=>by
 rcases h n hn with q|⟨C',q,b⟩
 .rw[e] at q;cases q
 .rw[e] at q;cases q;exact UZ b
noncomputable def Pe(K:eh)(C:ff):Bool:=makesIn K C&&keepIn K (.ref C)
theorem Z0{C f:ff}(h:Pe K C=true)(i:findIn K (.ref C) "__init__" = some (some (.ref f)))(hf:isFn K (.ref f)=true):Mk K C f:=by
 unfold Pe at h;simp only[uh6] at h;exact⟨h.1,i,hf,h.2⟩
end
section
variable{K:eh}
def Jl:D->Option Int->Option Int->M D
 |.obj k,lo,hi=>λt=>match t.S[k]? with
   |some (.lst ds)=>some (.lst (Bp ds lo hi),t)
   |_=>none
 |x,lo,hi=>DG x lo hi
theorem Uc:OK K (TW K) Jl:=λ{Oo c t σ H x dx r lo hi t' Q} f rx eq k=>by
 unfold Jl at eq
 split at eq
 .next kk=>
  cases rx with
  |@obj a kk h1=>
    split at eq
    .next ds es=>
     cases eq
     clear 5(f.s.obs kk a _ h1 es)vs g1 g2;exact .inl (.inl ⟨a,vs,rfl,SqL.of g1,λq hq=>k _ _ c (f.laid hq) (f.stp_laid hq) (.lst AJ (f.s.free hq) ((Hi g2 lo hi).mono (Ext.laid f.s hq)))⟩)
    .cases eq
 .exact Ot f rx eq k
end
abbrev Gd:=Option (Nat×List D)
def Gon(g:Gd)(S:List Ob):Prop:=∀k xs,g=some (k,xs)->S[k]?=some (.lst xs)
structure ItOk3(K:eh)(J:It)(g:Gd)(c:Cf)(H:Hp)(ds:List D):Prop where
 go:∀c' H' S' (i:Nat),Ext c H c' H'->SInv K c' S' H'->Gon g S'->i<ds.length->J.go i H'
 yld:∀c' H' S' (i:Nat) x H'' d,Ext c H c' H'->SInv K c' S' H'->Gon g S'->ds[i]?=some d->J.yld i H' x H''->∃p vs es,x=.ref p/\H' p=none/\H''=upd H' p (.tup vs)/\d=.tup es/\Reps K c' H' vs es
 stop:∀c' H' S',Ext c H c' H'->SInv K c' S' H'->Gon g S'->J.stop ds.length H'
inductive RI3(K:eh)(f:M (Gd×List D))(σ:L2.St)(H:Hp)(R:It->Hp->Prop):Prop where
 |mk (Oo:ff->Prop) (c:Cf) (t:T) (fi:FInv K Oo c t σ H) (p:Gd×List D) (t':T) (e:f t=some (p,t')) (k:∀J H' c',FInv K Oo c' t' σ H'->Stp Oo c H c' H'->ItOk3 K J p.1 c' H' p.2->R J H'):RI3 K f σ H R
section
variable{X:Cx}{e a b tg iter elt:Expr}{ifs:List Expr}{pos:Pos}{scope:Scope}{N':List Str}{n:Nat}{fr:List Nat}{st:D->M Unit}{tst:M Bool}{el:M D}
end
structure ItOkG(K:eh)(J:It)(g:Gd)(c:Cf)(H:Hp)(ds:List D):Prop where
 go:∀c' H' S' (i:Nat),Ext c H c' H'->SInv K c' S' H'->Gon g S'->i<ds.length->J.go i H'
 yld:∀c' H' S' (i:Nat) x H'' d,Ext c H c' H'->SInv K c' S' H'->Gon g S'->ds[i]?=some d->J.yld i H' x H''->H''=H'/\Rep K c' H' x d
 stop:∀c' H' S',Ext c H c' H'->SInv K c' S' H'->Gon g S'->J.stop ds.length H'
section
variable{X:Cx}{e a b tg iter elt:Expr}{ifs:List Expr}{pos:Pos}{scope:Scope}{N':List Str}{n:Nat}{fr:List Nat}{st:D->M Unit}{tst:M Bool}{el:M D}
end
noncomputable def AF(S:List Ob):Nat->D->D
 |0,d=>d
 |n+1,.obj k=>match S[k]? with
   |some (.lst ds)=>.lst (ds.map (AF S n))
   |_=>.obj k
 |n+1,.tup ds=>.tup (ds.map (AF S n))
 |n+1,.lst ds=>.lst (ds.map (AF S n))
 |_+1,d=>d
def eqO(g:Bool->Bool)(x y:D):M D:=λt=>if (Bn (AF t.S 16 x)&&Bn (AF t.S 16 y))=true then(eqN EQD (AF t.S 16 x) (AF t.S 16 y)).map λb=>(.bl (g b),t) else none
theorem Ji{K:eh}{c:Cf}{S:List Ob}{H:Hp}(s:SInv K c S H):∀(n:Nat){v:V}{d:D},Rep K c H v d->Bn (AF S n d)=true->Rep K c0 H v (AF S n d)
 |0,v,d,r,p=>D4 r (by simpa only[AF] using p)
 |n+1,v,d,r,p=>by
   have row:∀{vs:List V}{ds:List D},Reps K c H vs ds->Ed (ds.map (AF S n))=true->Reps K c0 H vs (ds.map (AF S n)):=by
    intro vs ds q
    induction ds generalizing vs with
    |nil=>intro _;cases q;exact .nil
    |cons d ds ih=>
      intro p
      cases q with
      |cons a b=>
        rw[ul3,Ed,uh6] at p;exact .cons (Ji s n a p.1) (ih b p.2)
   cases r with
   |@obj a k hk=>
     unfold AF at p⊢
     split
     .next ds e=>
      rw[e] at p;clear 5(s.obs k a _ hk e)vs h1 h2;exact .lst h1 (HA _) (row h2 (by simpa[Bn] using p))
     .next h=>
      split at p
      .next ds e=>exact absurd e (h ds)
      .simp[Bn] at p
   |tup h m q=>rw[AF] at p⊢;exact .tup h (HA _) (row q (by simpa only[Bn] using p))
   |lst h m q=>rw[AF] at p⊢;exact .lst h (HA _) (row q (by simpa only[Bn] using p))
   |non=>exact .non
   |bl b=>exact .bl b
   |int b=>exact .int b
   |str b=>exact .str b
   |ty b=>exact .ty b
   |scr h=>exact D4 (c:=c) (.scr h) p
   |dic h n=>exact D4 (.dic h n) p
   |exc a b n f q=>exact D4 (.exc a b n f q) p
theorem WH{K:eh}{g:Bool->Bool}:A6 K (Pt K g) (eqO g):=λ{Oo c t σ H x y dx dy r t' Q} f rx ry eq k=>by
 unfold eqO at eq
 split at eq
 .next hp=>
  rw[uh6] at hp;clear 5(uc2.mp eq)b e1 e2
  cases e2
  exact⟨c0,_,_,b,Ji f.s 16 rx hp.1,Ji f.s 16 ry hp.2,e1,k _ H c f .refl (.bl (g b))⟩
 .cases eq
def dR:List D->M D
 |[d,.tup [.ty m1,.ty m2]]=>λt=>match d with
   |.obj k=>match t.S[k]? with
     |some (.lst _)=>match FL "list" m1,FL "list" m2 with
       |some b1,some b2=>some (.bl (b1||b2),t)
       |_,_=>none
     |_=>none
   |d=>match tyD d with
     |some n=>match FL n m1,FL n m2 with
       |some b1,some b2=>some (.bl (b1||b2),t)
       |_,_=>none
     |none=>none
 |_=>fail
section
variable{X:Cx}{k:Nat}{f l I S:ff}{fd:fk}{ps:List Str}{sp:Sp}{fb:List (ff×Obj)}{σ:St}{H:Hp}{s:fg}{Q:VK}{oS oI oS' oI':Obj}{h':Heap}{t':Nat}
end
section
variable{K:eh}{g:Fn}
end
section
variable{X:Cx}{e:Expr}{pos:Pos}
end
section
variable{X:Cx}{e elt tg iter:Expr}{pos:Pos}{scope:Scope}{N':List Str}{ifs:List Expr}{n:Nat}{fr:List Nat}{f:M (List D)}{st:D->M Unit}{tst:M Bool}{el:M D}
theorem RF.ofObj{K:eh}{f:M (List D)}{σ:L2.St}{H:Hp}{Q:VK}(q:RE K (Dk f) σ H Q):RF K f σ H Q:=by
 clear 5 q Oo c t fi r t' eq k;clear 5(Ag eq)ds t1 e1 eq
 cases eq
 refine⟨Oo,c,t,fi,ds,_,e1,λp xs H1 c1 f1 s1 rxs hp=>?_⟩;obtain⟨c2,f2,s2,e2⟩:=f1.newObj (o:=.lst ds) (u:=.lst xs) hp λc' H' ex hu=>⟨xs,hu,rxs.mono ex⟩;exact k _ _ c2 f2 (s1.trans s2) (.obj e2)
end
section
variable{X:Cx}{e:Expr}
end
section
variable{X:Cx}{e el eu ek:Expr}{p2 pos:Pos}{te:TE}{tl tu tk:TO}
end
section
variable{X:Cx}{elt tg iter:Expr}{pos:Pos}{scope:Scope}{N':List Str}{ifs:List Expr}{n:Nat}{fr:List Nat}{st:D->M Unit}{tst:M Bool}{el:M D}
end
def bI(to:TE)(tl th:TO):TG:=λv σ H Q=>to σ H λo H1=>tl σ H1 λl H2=>th σ H2 λu H3=>∃p b xs ys a c,o=.ref p/\l=some a/\u=some c/\v=.ref b/\H3 p=some (.lst xs)/\H3 b=some (.lst ys)/\p≠b/\0<=a/\a<=c/\c<=(xs.length:Int)/\xs.length+ys.length<=sizeLine/\Q σ (upd H3 p (.lst (xs.take a.toNat++ys++xs.drop c.toNat)))
theorem YO{X:Cx}{o lo hi:Expr}{to:TE}{tl th:TO}{p2 pos:Pos}(ho:PE X o to)(hl:PO X (some lo) tl)(hu:PO X (some hi) th)
 (ha:∀v,assign (.Subscript o (.Slice (some lo) (some hi) none p2) pos) X.env v=(do
   let ov <-holding [v] (eval o X.env)
   let iv <-holding [v,ov] (eval (.Slice (some lo) (some hi) none p2) X.env)
   standAt pos
   holding [v,ov,iv] (setItem ov iv v)
   release [iv,v,ov] []):=by intro _;rfl):PG X (.Subscript o (.Slice (some lo) (some hi) none p2) pos) (bI to tl th):=by
 intro fb s σ H v u Q I r h;rw[ha];refine uo0 (um0 (thn (ho fb s σ H _ I h) λov s1 z9=>?_));clear 5 z9 x H1 I1 r1 q1;refine uo0 (um0 (wpAny_Slice (thn (hl fb s1 σ H1 _ I1 q1) λvl s2 ⟨l,H2,I2,pl,q2⟩=>thn (hu fb s2 σ H2 _ I2 q2) λvu s3 z9=>?_)));clear 5 z9 w H3 I3 pu q3;rw[evalPart_none];refine uo1 ?_;clear 5 q3 p b xs ys a c rfl rfl rfl rfl hp hb hne h0 h1 h2 h3 q;have I4:Inv X fb σ H3 {s3 with heap:=s3.heap.push {cls:=.type "slice",data:=.fields #[vl,vu,.none]} }:=I3.kept (t':=s3.toks) λb ob q=>ub9 _ q
 cases r1
 cases r
 cases pl with
 |int _ ta=>
 cases pu with
 |int _ tc=>
 refine uo0 (gy (uo0 (um0 (RL I4 hp hb hne (Heap.IsSliceOf.new ..) ⟨ta,rfl⟩ ⟨tc,rfl⟩ h0 h1 h2 h3 λs' I5=>?_))));exact wpAny_release ⟨σ,_,I5,q⟩
def IK(i:Nat)(l u:M (Option Int))(d:D):M Unit:=λt=>match t.env[i]? with
 | some (some (.own _))=>bnd l (λa=>bnd u λc t1=>match a,c,d,t1.env[i]? with
   |some a,some c,.lst ys,some (some (.own xs))=>if 0<=a/\a<=c/\c<=(xs.length:Int)/\xs.length+ys.length<=LIM then some ((),{t1 with env:=t1.env.set i (some (.own (xs.take a.toNat++ys++xs.drop c.toNat)))}) else none
   |_,_,_,_=>none) t
 |_=>none
section
variable{X:Cx}{pos:Pos}
theorem Ta(i:Nat){x:Str}{lo hi:Expr}{l u:M (Option Int)}{px p2:Pos}(hl:PO X (some lo) (RO X.K l))(hu:PO X (some hi) (RO X.K u))(hN:X.N[i]?=some x:=by rfl)(hv:Vis X.env.scope x:=by walk_at"h")(hd:(x==("__debug__":Str))=false:=by decide)
 (hcd:(x==("__classdict__":Str))=false:=by decide)
 (ha:∀v,assign (.Subscript (.Name x px) (.Slice (some lo) (some hi) none p2) pos) X.env v=(do
   let ov <-holding [v] (eval (.Name x px) X.env)
   let iv <-holding [v,ov] (eval (.Slice (some lo) (some hi) none p2) X.env)
   standAt pos
   holding [v,ov,iv] (setItem ov iv v)
   release [iv,v,ov] []):=by intro _;rfl):PG X (.Subscript (.Name x px) (.Slice (some lo) (some hi) none p2) pos) (RG X.K (IK i l u)):=
 Gy (YO (E4 hN hv hd hcd) hl hu ha) λv σ H Q z9=>by
  clear 5 z9 Oo c t d fi rv t' eq k;unfold IK at eq
  split at eq
  .next xs0 e0=>
   clear 5(Ag eq)a1 t1 e1 eq;clear 5(Ag eq)a2 t2 e2 eq;clear 5(fi.own i xs0 e0)a vs0 h1 h2 h3 h4 h5;refine⟨.ref a,h1,Oo,c,t,fi,a1,t1,e1,λH1 c1 f1 s1=>⟨Oo,c1,t1,f1,a2,t2,e2,λH2 c2 f2 s2=>?_⟩⟩
   split at eq
   .next a' c' ys xs ex _ _=>
    split at eq
    .next hq=>
     cases eq
     clear 5 hq g0 g6 g7 g8;clear 5(f2.own i xs ex)a3 vs g1 g2 g3 g4 g5;rw[h1] at g1;injection g1 with g1;injection g1 with g1;injection g1 with g1;subst g1
     have rv2:=rv.mono (s1.trans s2).ext
     cases rv2 with
     |@lst b ws es b1 b2 b3=>
     refine⟨a,b,vs,ws,a',c',rfl,rfl,rfl,rfl,g4,b1,λz=>b2 (z ▸ ?_),g0,g6,by rw[g5.length];exact g7,by rw[g5.length,b3.length];exact um3 g8 (um4 P2),?_⟩
     .first|exact .inr g3|exact .inr g2|exact g2|exact g3
     .clear 5(f2.wrOwn ex h1 (Reps.append (Reps.append (g5.take _) b3) (g5.drop _)))f3 s3;exact k σ _ c2 f3 ((s1.trans s2).trans s3)
    .cases eq
   .cases eq
  .cases eq
end
abbrev EnO(h:Heap)(e it:ff)(i:Int)(x:fc)(a:ff)(q:Bool):Prop:=h.get? e=some {cls:=.type "enumerate",dict:=none,data:=.fields #[rawInt a,.bool q,.ref it,rawInt i,.none,x],slots:=#[]}
section
variable{prog:fh}{w:fj}{A:Around}{E:fc->fg->Prop}{s:fg}
end
inductive EnS(h:Heap)(e it:ff)(i:Nat):Prop where
 |new (old:fc) (z:i=0) (h1:IsEnum h e it i old)
 |out (old:fc) (a0:ff) (q:Bool) (h1:EnO h e it i old a0 q)
section
variable{A:Around}{s:fg}
end
theorem Vk{X:Cx}{elt tg iter:Expr}{pos:Pos}{scope:Scope}{N':List Str}{ifs:List Expr}{n:Nat}{fr:List Nat}{st:D->M Unit}{tst:M Bool}{el:M D}{f:M (List D)}{μ:Cf->Hp->D->(V->Hp->Prop)->Prop}{i:Nat}{y:Str}{py spos:Pos}(O:CmpOk X scope N' (FI n fr))(hc:X.calm=true)(hN:X.N.Nodup)(hiN:X.N[i]?=some y)(hx:X.env.scope.names.lookup y=some .local)(hi:PI X tg iter (RI X.K f))
 (hg:∀cl C s2 H2 fp,PG (BX X N' scope cl C s2 H2 fp) tg (RG X.K st)) (ht:∀cl C s2 H2 fp,PIf (BX X N' scope cl C s2 H2 fp) ifs (RT X.K tst)) (he:∀cl C s2 H2 fp,PE (BX X N' scope cl C s2 H2 fp) elt (RE X.K el))
 (hsw:swapsWith (.ListComp elt [⟨tg,iter,ifs,0⟩] scope pos) (some (.Name y py)) spos.line X.env=pure true:=by rfl)
 (hs:∀x,foldedSetIterable iter X.env x=pure x:=by intro _;rfl):PS X (.Assign [.Name y py] (.ListComp elt [⟨tg,iter,ifs,0⟩] scope pos) spos) (RSg X.K μ (Ao i (Dk (AU n fr f st tst el)))):=
 A5 (Oc O hc hN hiN hx hi hg ht he hsw hs) λE σ H q=>RF.comp (RF.ofObj (RS.set q))
structure ItOkG2(K:eh)(J:It)(g:Gd)(c:Cf)(H:Hp)(ds:List D):Prop where
 go:∀c' H' S' (i:Nat),Ext c H c' H'->SInv K c' S' H'->Gon g S'->i<ds.length->J.go i H'
 yld:∀c' H' S' (i:Nat) x H'' d,Ext c H c' H'->SInv K c' S' H'->Gon g S'->ds[i]?=some d->J.yld i H' x H''->∃p vs es,x=.ref p/\H' p=none/\H''=upd H' p (.tup vs)/\d=.tup es/\Reps K c' H' vs es
 stop:∀c' H' S',Ext c H c' H'->SInv K c' S' H'->Gon g S'->J.stop ds.length H'
section
variable{X:Cx}{pos:Pos}{e:Expr}
end
theorem Ws{X:Cx}{body:List Stmt}{h₀:ExceptHandler}{hs:List ExceptHandler}{t:TS}{pos:Pos}(hb:PSs X body t)(hx:∀e s,¬X.xe e s:=by intro _ _ h;exact h):PS X (.Try body (h₀::hs) [] [] pos) t:=by
 intro fb s σ H D I q;refine wpAny_Try_except ?_;refine uo2 (hb fb s σ H D I q) (λf s1 z=>?_) λe s1 z=>absurd z (hx e s1)
 cases f with
 |next=>exact gm z
 |brk=>exact z
 |cont=>exact z
 |ret u=>exact z
theorem Vl{X:Cx}{body:List Stmt}{h₀:ExceptHandler}{hs:List ExceptHandler}{b:M Out}{μ:Cf->Hp->D->(V->Hp->Prop)->Prop}{pos:Pos}(hb:PSs X body (RSg X.K μ b))(hx:∀e s,¬X.xe e s:=by intro _ _ h;exact h):PS X (.Try body (h₀::hs) [] [] pos) (RSg X.K μ b):=Ws hb hx
abbrev vw(d:L2.D):Option L2.Sl:=some (.val d)
abbrev ee(i:Int):L2.M L2.D:=L2.fC (.int i)
end L2
namespace LW
open PySem L2
def Gq:M Out:=
 (Al (EV (fB (Aa (Ab 0) (Aa (fC (.ty "int")) Ad)) CD) (JI (fB (Aa (Ab 0) (Aa (fC (.ty "bool")) Ad)) CD))))
def DC(L9:Fn):M Out:=
 (Al (EV (Af L9 (Aa (Ab 0) Ad)) (E1 (Ab 1) (Ab 0) (Ab 2) leA leA)))
def MB(Kq L7 L6 L8 BJ:Fn):M Out:=
 (Ae (Ao 2 (Ac (Ab 0) (ee 0) ixD))
 (Ae (ifS (Aj (Ac (Ab 2) (fC (.str "nothing")) (eqS id)))
   (Al (Ac (Ab 1) (fC .non) isC))
   Ap)
 (Ae (ifS (Aj (Ac (Ab 2) (fC (.str "number")) (eqS id)))
   (Al (Af BJ (Aa (Ab 1) (Aa (Ac (Ab 0) (ee 1) ixD) (Aa (Ac (Ab 0) (ee 2) ixD) Ad)))))
   Ap)
 (Ae (ifS (Aj (Ac (Ab 2) (fC (.str "text")) (eqS id)))
   (Al (Af L8 (Aa (Ab 0) (Aa (Ab 1) Ad))))
   Ap)
 (Ae (ifS (Aj (Ac (Ab 2) (fC (.str "list")) (eqS id)))
   (Al (Af L6 (Aa (Ab 0) (Aa (Ab 1) Ad))))
   Ap)
 (Ae (ifS (Aj (Ac (Ab 2) (fC (.str "pair")) (eqS id)))
   (Al (Af L7 (Aa (Ab 0) (Aa (Ab 1) Ad))))
   Ap)
 (Al (Af Kq (Aa (Ab 0) (Aa (Ab 1) Ad))))))))))
def Gp(GW:Fn):M Out:=
 (Ae (ifS (fOr (CP (Aj (fB (Aa (Ab 1) (Aa (fC (.ty "str")) Ad)) CD))) (Aj (Ac (fB (Aa (Ab 1) Ad) Az) (Ac (Ab 0) (ee 1) ixD) gtA)))
   (Al (fC (.bl false)))
   Ap)
 (Ae (Bj (Dj (Ab 1)) (As 2)
   (ifS (CP (Aj (Af GW (Aa (fB (Aa (Ab 2) Ad) Ib) Ad))))
   (Al (fC (.bl false)))
   Ap))
 (Al (fC (.bl true)))))
def HV:M Out:=
 (Al (EV (E1 (ee 32) (Ab 0) (ee 126) leA leA) (Ac (Ab 0) (ee 37) (eqS λb=>!b))))
def Gn(Eh:Fn):M Out:=
 (Ae (ifS (fOr (CP (Aj (fB (Aa (Ab 1) (Aa (fC (.ty "list")) Ad)) CD))) (Aj (Ac (fB (Aa (Ab 1) Ad) Az) (Ac (Ab 0) (ee 2) ixD) gtA)))
   (Al (fC (.bl false)))
   Ap)
 (Ae (Bj (Dj (Ab 1)) (As 2)
   (ifS (CP (Aj (Af Eh (Aa (Ac (Ab 0) (ee 1) ixD) (Aa (Ab 2) Ad)))))
   (Al (fC (.bl false)))
   Ap))
 (Al (fC (.bl true)))))
def Go(Eh:Fn):M Out:=
 (Ae (ifS (fOr (CP (Aj (fB (Aa (Ab 1) (Aa (fC (.ty "tuple")) Ad)) CD))) (Aj (Ac (fB (Aa (Ab 1) Ad) Az) (ee 2) (eqS λb=>!b))))
   (Al (fC (.bl false)))
   Ap)
 (Al (EV (Af Eh (Aa (Ac (Ab 0) (ee 1) ixD) (Aa (Ac (Ab 1) (ee 0) ixD) Ad))) (Af Eh (Aa (Ac (Ab 0) (ee 2) ixD) (Aa (Ac (Ab 1) (ee 1) ixD) Ad))))))
def Fe(Eh BJ:Fn):M Out:=
 (Ae (ifS (fOr (CP (Aj (fB (Aa (Ab 1) (Aa (fC (.ty "tuple")) Ad)) CD))) (Aj (Ac (fB (Aa (Ab 1) Ad) Az) (ee 3) (eqS λb=>!b))))
   (Al (fC (.bl false)))
   Ap)
 (Ae (ifS (fOr (CP (Aj (fB (Aa (Ac (Ab 1) (ee 0) ixD) (Aa (fC (.ty "str")) Ad)) CD))) (Aj (Ac (Ac (Ab 1) (ee 0) ixD) (fC (.str "of")) (eqS λb=>!b))))
   (Al (fC (.bl false)))
   Ap)
 (Ae (ifS (CP (Aj (Af BJ (Aa (Ac (Ab 1) (ee 1) ixD) (Aa (ee 0) (Aa (Ac (fB (Aa (Ac (Ab 0) (ee 1) ixD) Ad) Az) (ee 1) Bw) Ad))))))
   (Al (fC (.bl false)))
   Ap)
 (Al (Af Eh (Aa (Ac (Ac (Ab 0) (ee 1) ixD) (Ac (Ab 1) (ee 1) ixD) ixD) (Aa (Ac (Ab 1) (ee 2) ixD) Ad)))))))
def Hc(Dc Fa:Fn):M Out:=
 (Ae (Ao 2 (ee 0))
 (Ae (Eb 3 (AK Ad))
 (Ae (Bj (Bm (Aa (fB (Aa (Ab 1) Ad) Az) Ad)) (As 4)
   (Ae (Ao 5 (Af Fa (Aa (Ac (Ab 0) (Ab 2) ixD) (Aa (Ac (Ab 1) (Ab 4) ixD) Ad))))
 (Ae (ifS (Aj (Ac (Ab 5) (fC .non) isC))
   fail
   Ap)
 (Ae (Ao 6 (AN (Aa (Ab 2) (Aa (Ab 5) Ad))))
 (Ae (ownM 3 Cd (Aa (Ab 6) Ad))
 (Ao 2 (Af Dc (Aa (Ab 0) (Aa (Ab 6) Ad)))))))))
 (Al (Ab 3)))))
def FS:M Out:=
 (Al (Ac (Ac (Ac (Ac (Ab 0) (Ac (Ab 1) (ee 0) ixD) ixD) (ee 1) ixD) (Ac (Ab 1) (ee 1) ixD) ixD) (ee 2) ixD))
def FQ(Eh Kr:Fn):M Out:=
 (Ae (ifS (fOr (CP (Aj (fB (Aa (Ab 1) (Aa (fC (.ty "tuple")) Ad)) CD))) (Aj (Ac (fB (Aa (Ab 1) Ad) Az) (ee 3) (eqS λb=>!b))))
   (Al (fC .non))
   Ap)
 (Ae (ifS (fOr (CP (Aj (fB (Aa (Ac (Ab 1) (ee 0) ixD) (Aa (fC (.ty "str")) Ad)) CD))) (Aj (Ac (Ac (Ab 1) (ee 0) ixD) (Ac (Ab 0) (ee 0) ixD) (eqS λb=>!b))))
   (Al (fC .non))
   Ap)
 (Ae (Ao 2 (Af Kr (Aa (Ab 0) (Aa (Ac (Ab 1) (ee 1) ixD) Ad))))
 (Ae (ifS (fOr (Aj (Ac (Ab 2) (fC .non) isC)) (CP (Aj (Af Eh (Aa (Ac (Ac (Ac (Ab 0) (ee 1) ixD) (Ab 2) ixD) (ee 1) ixD) (Aa (Ac (Ab 1) (ee 2) ixD) Ad))))))
   (Al (fC .non))
   Ap)
 (Al (Ab 2))))))
def Ff(Nq:Fn):M Out:=
 (Ae (ifS (CP (Aj (fB (Aa (Ab 1) (Aa (fC (.ty "str")) Ad)) CD)))
   (Al (fC .non))
   Ap)
 (Ae (Ao 2 (Af Nq (Aa (Ab 0) Ad)))
 (Ae (Bj (Bm (Aa (fB (Aa (Ab 2) Ad) Az) Ad)) (As 3)
   (ifS (Aj (Ac (Ac (Ac (Ab 2) (Ab 3) ixD) (ee 0) ixD) (Ab 1) (eqS id)))
   (Al (Ab 3))
   Ap))
 (Al (fC .non)))))
def He(HC:Fn):M Out:=
 (Al (fIf (Aj (Af HC (Aa (Ab 0) Ad))) (AN Ad) (Ac (Ab 0) (ee 1) ixD)))
def Jc:M Out:=
 (Al (Ac (Ac (Ab 0) (ee 0) ixD) (fC (.str "end")) (eqS id)))
def Ey(BK EF JB:Fn):M Out:=
 (Ae (Ao 2 (Ac (Ab 0) (ee 0) ixD))
 (Ae (ifS (Aj (Ac (Ab 2) (fC (.str "nothing")) (eqS id)))
   (Hj (AK Ad))
   Ap)
 (Ae (ifS (Aj (Ac (Ab 2) (fC (.str "number")) (eqS id)))
   (Hj (D2 JB (Aa (Ac (Ab 1) (Ac (Ab 0) (ee 1) ixD) Bw) (Aa (Af EF (Aa (Ac (Ac (Ab 0) (ee 2) ixD) (Ac (Ab 0) (ee 1) ixD) Bw) Ad)) Ad))))
   Ap)
 (Ae (ifS (Aj (Ac (Ab 2) (fC (.str "text")) (eqS id)))
   (Hj (bnd (Ax (AK (Aa (fB (Aa (Ab 1) Ad) Az) Ad))) λx=>bnd (Ax (AU 1 [] (Dj (Ab 1)) (As 0) B4 (fB (Aa (Ab 0) Ad) Ib))) λy=>IY x y))
   Ap)
 (Ae (ifS (Aj (Ac (Ab 2) (fC (.str "list")) (eqS id)))
   (Ae (Eb 3 (AK (Aa (fB (Aa (Ab 1) Ad) Az) Ad)))
 (Ae (Bj (Dj (Ab 1)) (As 4)
   (ownM 3 Fb (Aa (Ax (D2 BK (Aa (Ac (Ab 0) (ee 1) ixD) (Aa (Ab 4) Ad)))) Ad)))
 (GG 3)))
   Ap)
 (Ae (ifS (Aj (Ac (Ab 2) (fC (.str "pair")) (eqS id)))
   (Hj (bnd (Ax (D2 BK (Aa (Ac (Ab 0) (ee 1) ixD) (Aa (Ac (Ab 1) (ee 0) ixD) Ad)))) λx=>bnd (Ax (D2 BK (Aa (Ac (Ab 0) (ee 2) ixD) (Aa (Ac (Ab 1) (ee 1) ixD) Ad)))) λy=>IY x y))
   Ap)
 (Hj (bnd (Ax (AK (Aa (Ac (Ab 1) (ee 1) ixD) Ad))) λx=>bnd (Ax (D2 BK (Aa (Ac (Ac (Ab 0) (ee 1) ixD) (Ac (Ab 1) (ee 1) ixD) ixD) (Aa (Ac (Ab 1) (ee 2) ixD) Ad)))) λy=>IY x y))))))))
def Fg:M Out:=
 (Al (Ac (Ac (fUn (Ab 0) Jx) (ee 7) AC) (ee 8) Fl))
def EN(GX:Fn):M Out:=
 (Hj (AU 1 [0,1] (Ge (Aa (ee 1) (Aa (Ac (Ab 1) (ee 1) AC) Ad))) (As 0) B4 (Ac (Af GX (Aa (Ab 1) (Aa (Ac (Ab 2) (Ab 0) Bw) Ad))) (ee 256) EA)))
def HW:M Out:=
 (Al (Ac (Ab 0) (Ac (ee 8) (Ab 1) FV) M9))
def FO:M Out:=
 (Ae (Ao 1 (ee 0))
 (Ae (Ip (Aj (Ac (Ab 0) (ee 0) gtA))
   (Ae (Ao 0 (Ac (Ab 0) (ee 256) Fl))
 (Ao 1 (Ac (Ab 1) (ee 1) AC))))
 (Al (Ab 1))))
def Do(Ks Mb Ma Mc Kt:Fn):M Out:=
 (Ae (Ao 3 (Ac (Ab 0) (ee 0) ixD))
 (Ae (ifS (Aj (Ac (Ab 3) (fC (.str "nothing")) (eqS id)))
   (Al (nxD (AN (Aa (fC .non) (Aa (Ab 2) Ad)))))
   Ap)
 (Ae (ifS (Aj (Ac (Ab 3) (fC (.str "number")) (eqS id)))
   (Al (Af Kt (Aa (Ab 0) (Aa (Ab 1) (Aa (Ab 2) Ad)))))
   Ap)
 (Ae (ifS (Aj (Ac (Ab 3) (fC (.str "text")) (eqS id)))
   (Al (Af Mc (Aa (Ab 0) (Aa (Ab 1) (Aa (Ab 2) Ad)))))
   Ap)
 (Ae (ifS (Aj (Ac (Ab 3) (fC (.str "list")) (eqS id)))
   (Al (Af Ma (Aa (Ab 0) (Aa (Ab 1) (Aa (Ab 2) Ad)))))
   Ap)
 (Ae (ifS (Aj (Ac (Ab 3) (fC (.str "pair")) (eqS id)))
   (Al (Af Mb (Aa (Ab 0) (Aa (Ab 1) (Aa (Ab 2) Ad)))))
   Ap)
 (Al (Af Ks (Aa (Ab 0) (Aa (Ab 1) (Aa (Ab 2) Ad)))))))))))
def FN:M Out:=
 (Ae (ifS (Aj (Ac (Ab 1) (fB (Aa (Ab 0) Ad) Az) geA))
   (Ii "Short" (Aa (fC (.str "the bytes end within a value")) Ad))
   Ap)
 (Al (nxD (Ac (Ab 0) (Ab 1) ixD))))
def DQ(OQ Db:Fn):M Out:=
 (Ae (D0 3 (Af Db (Aa (Ac (Ab 0) (ee 1) ixD) (Aa (Ab 1) (Aa (Ab 2) Ad)))))
 (Ae (Ao 4 (Ac (Ab 2) (ee 1) AC))
 (Ae (Ao 5 (fC (.str "")))
 (Ae (Bj (Bm (Aa (Ab 3) Ad)) (As 6)
   (D0 5 (Iy (Ab 5) (Af OQ (Aa (Ab 1) (Aa (Ac (Ab 4) (Ab 6) AC) Ad))) AC)))
 (Al (nxD (AN (Aa (Ab 5) (Aa (Ac (Ab 4) (Ab 3) AC) Ad)))))))))
def DO(BC Db:Fn):M Out:=
 (Ae (D0 3 (Af Db (Aa (Ac (Ab 0) (ee 2) ixD) (Aa (Ab 1) (Aa (Ab 2) Ad)))))
 (Ae (Ao 4 (Ac (Ab 2) (ee 1) AC))
 (Ae (Eb 5 (AK Ad))
 (Ae (Bj (Bm (Aa (Ab 3) Ad)) (As 6)
   (Ae (D0 7 (Af BC (Aa (Ac (Ab 0) (ee 1) ixD) (Aa (Ab 1) (Aa (Ab 4) Ad)))))
 (Ae (ownM 5 Cd (Aa (Ac (Ab 7) (ee 0) ixD) Ad))
 (Ao 4 (Ac (Ab 7) (ee 1) ixD)))))
 (Al (nxD (AN (Aa (Ab 5) (Aa (Ab 4) Ad)))))))))
def DP(BC:Fn):M Out:=
 (Ae (D0 3 (Af BC (Aa (Ac (Ab 0) (ee 1) ixD) (Aa (Ab 1) (Aa (Ab 2) Ad)))))
 (Ae (D0 4 (Af BC (Aa (Ac (Ab 0) (ee 2) ixD) (Aa (Ab 1) (Aa (Ac (Ab 3) (ee 1) ixD) Ad)))))
 (Al (nxD (AN (Aa (AN (Aa (Ac (Ab 3) (ee 0) ixD) (Aa (Ac (Ab 4) (ee 0) ixD) Ad))) (Aa (Ac (Ab 4) (ee 1) ixD) Ad)))))))
def C3(BC Db:Fn):M Out:=
 (Ae (D0 3 (Af Db (Aa (Ac (fB (Aa (Ac (Ab 0) (ee 1) ixD) Ad) Az) (ee 1) Bw) (Aa (Ab 1) (Aa (Ab 2) Ad)))))
 (Ae (D0 4 (Af BC (Aa (Ac (Ac (Ab 0) (ee 1) ixD) (Ab 3) ixD) (Aa (Ab 1) (Aa (Ac (Ab 2) (ee 1) AC) Ad)))))
 (Al (nxD (AN (Aa (AN (Aa (fC (.str "of")) (Aa (Ab 3) (Aa (Ac (Ab 4) (ee 0) ixD) Ad)))) (Aa (Ac (Ab 4) (ee 1) ixD) Ad)))))))
def Hd(Ce Np:Fn):M Out:=
 (Ae (Ao 2 (Ep [("left",(Dk (AK Ad))),("right",(Dk (AK Ad)))]))
 (Ae (Ao 3 (Af Np (Aa (Ab 0) (Aa (Ab 1) Ad))))
 (Ae (Bj (Bm (Aa (fB (Aa (Ab 3) Ad) Az) Ad)) (As 4)
   (Ae (Ao 5 (Ac (Ab 0) (Ac (Ac (Ab 3) (Ab 4) ixD) (ee 0) ixD) ixD))
 (D5 (objM Fb (Ac (Ab 2) (Ac (Ab 5) (ee 0) ixD) AX) (Aa (Af Ce (Aa (Ab 5) (Aa (Ac (Ac (Ab 3) (Ab 4) ixD) (ee 1) ixD) (Aa (Ac (Ac (Ab 1) (Ab 4) ixD) (ee 2) ixD) Ad)))) Ad)))))
 (Al (AN (Aa (Ac (Ab 2) (fC (.str "left")) AX) (Aa (Ac (Ab 2) (fC (.str "right")) AX) Ad)))))))
def Ez(BK:Fn):M Out:=
 (Al (Ac (Ax (AK (Aa (Ab 1) Ad))) (Ax (D2 BK (Aa (Ac (Ac (Ac (Ab 0) (ee 1) ixD) (Ab 1) ixD) (ee 1) ixD) (Aa (Ab 2) Ad)))) AC))
def C1:M Out:=
 (Ae (Ao 2 (ee 0))
 (Ae (ifS (Aj (Ac (Ab 1) (fB (Aa (Ab 0) Ad) Az) ltA))
   (Ao 2 (Ac (Ab 0) (Ab 1) ixD))
   Ap)
 (Al (Ep [("rest",(Ab 2)),("digits",(Kx (Ac (Ab 1) (fB (Aa (Ab 0) Ad) Az) geA) (Ac (Ab 2) (Ac (ee 10) (ee 18) Ig) geA))),("count",(Ab 1))]))))
def Dn:M Out:=
 (Ae (ifS (Aj (Ac (Ab 0) (fC (.str "digits")) AX))
   (Ae (Ao 2 (Ac (Ac (Ab 0) (fC (.str "rest")) AX) (Ab 1) EA))
 (Ae (Dt (Ac (Ac (Ab 0) (fC (.str "rest")) AX) (Ab 1) Iz) (Hn (Ab 0) (fC (.str "rest"))))
 (Al (Ab 2))))
   Ap)
 (Ae (Dt (Ac (Ac (Ab 0) (fC (.str "count")) AX) (ee 1) AC) (Hn (Ab 0) (fC (.str "count"))))
 (Ae (Ao 3 (Ac (Ac (Ac (Ac (Ab 0) (fC (.str "rest")) AX) (ee 999999999989) EA) (Ac (ee 480007) (Ac (Ab 0) (fC (.str "count")) AX) Jd) AC) (ee 999999999989) EA))
 (Ae (Ao 3 (Ac (Ac (Ab 3) (Ab 3) Jd) (ee 1000000000039) EA))
 (Ae (Ao 3 (Ac (Ac (Ac (Ab 3) (ee 290027) AC) (Ab 3) Jd) (ee 999999999961) EA))
 (Al (Ac (Ac (Ab 3) (ee 7) Iz) (Ab 1) EA)))))))
def A9(Ah AS:Fn):M Out:=
 (Ae (Ao 2 (Af Ah (Aa (Ab 0) (Aa (Ac (ee 3) (Ac (ee 3) (fB (Aa (Ac (Ab 1) (ee 0) gtA) Ad) HQ) FV) AC) Ad))))
 (Ae (ifS (Aj (Ac (Ab 2) (ee 0) (eqS id)))
   (Al (AN (Aa (fC (.str "nothing")) Ad)))
   Ap)
 (Ae (ifS (Aj (Ac (Ab 2) (ee 1) (eqS id)))
   (Ae (Ao 3 (Ac (Ax (AK (Aa (ee 0) (Aa (Ac (Af Ah (Aa (Ab 0) (Aa (ee 9) Ad))) (ee 4) Bw) (Aa (Ac (Af Ah (Aa (Ab 0) (Aa (Ac (ee 10) (ee 16) Ig) Ad))) (Ac (ee 10) (ee 15) Ig) Bw) Ad))))) (Af Ah (Aa (Ab 0) (Aa (ee 3) Ad))) ixD))
 (Al (AN (Aa (fC (.str "number")) (Aa (Ab 3) (Aa (Ac (Ab 3) (Ac (Ax (AK (Aa (ee 0) (Aa (ee 1) (Aa (ee 200) (Aa (ee 255) (Aa (ee 256) (Aa (ee 70000) (Aa (Af Ah (Aa (Ab 0) (Aa (Ac (ee 10) (ee 16) Ig) Ad))) Ad))))))))) (Af Ah (Aa (Ab 0) (Aa (ee 7) Ad))) ixD) AC) Ad))))))
   Ap)
 (Ae (ifS (Aj (Ac (Ab 2) (ee 2) (eqS id)))
   (Al (AN (Aa (fC (.str "text")) (Aa (Ac (Ax (AK (Aa (ee 0) (Aa (ee 1) (Aa (ee 5) (Aa (ee 250) Ad)))))) (Af Ah (Aa (Ab 0) (Aa (ee 4) Ad))) ixD) Ad))))
   Ap)
 (Ae (ifS (Aj (Ac (Ab 2) (ee 3) (eqS id)))
   (Ae (Ao 4 (Af AS (Aa (Ab 0) (Aa (Ac (Ab 1) (ee 1) Bw) Ad))))
 (Ae (ifS (Aj (Ac (Ac (Ab 4) (ee 0) ixD) (fC (.str "list")) (eqS id)))
   (Ao 4 (AN (Aa (fC (.str "list")) (Aa (Ac (Ab 4) (ee 1) ixD) (Aa (fB (Aa (Ac (Ab 4) (ee 2) ixD) (Aa (ee 6) Ad)) FU) Ad)))))
   Ap)
 (Al (AN (Aa (fC (.str "list")) (Aa (Ab 4) (Aa (Ac (Ax (AK (Aa (ee 0) (Aa (ee 2) (Aa (ee 6) (Aa (ee 250) Ad)))))) (Af Ah (Aa (Ab 0) (Aa (ee 4) Ad))) ixD) Ad)))))))
   Ap)
 (Ae (ifS (Aj (Ac (Ab 2) (ee 4) (eqS id)))
   (Al (AN (Aa (fC (.str "pair")) (Aa (Af AS (Aa (Ab 0) (Aa (Ac (Ab 1) (ee 1) Bw) Ad))) (Aa (Af AS (Aa (Ab 0) (Aa (Ac (Ab 1) (ee 1) Bw) Ad))) Ad)))))
   Ap)
 (Al (AN (Aa (fC (.str "choice")) (Aa (fB (Aa (Ax (AU 1 [0,1] (Bm (Aa (Ac (ee 1) (Af Ah (Aa (Ab 0) (Aa (ee 3) Ad))) AC) Ad)) (As 0) B4 (Af AS (Aa (Ab 1) (Aa (Ac (Ab 2) (ee 1) Bw) Ad))))) Ad) KZ) Ad))))))))))
def Ba(BB Ah:Fn):M Out:=
 (Ae (Ao 2 (Ac (Ab 1) (ee 0) ixD))
 (Ae (ifS (Aj (Ac (Ab 2) (fC (.str "nothing")) (eqS id)))
   (Al (fC .non))
   Ap)
 (Ae (ifS (Aj (Ac (Ab 2) (fC (.str "number")) (eqS id)))
   (Al (Ac (Ax (AK (Aa (Ac (Ab 1) (ee 1) ixD) (Aa (Ac (Ab 1) (ee 2) ixD) (Aa (Ac (Ac (Ab 1) (ee 1) ixD) (Af Ah (Aa (Ab 0) (Aa (Ac (Ac (Ac (Ab 1) (ee 2) ixD) (Ac (Ab 1) (ee 1) ixD) Bw) (ee 1) AC) Ad))) AC) Ad))))) (Af Ah (Aa (Ab 0) (Aa (ee 3) Ad))) ixD))
   Ap)
 (Ae (ifS (Aj (Ac (Ab 2) (fC (.str "text")) (eqS id)))
   (Ae (Ao 3 (Ac (Ax (AK (Aa (Af Ah (Aa (Ab 0) (Aa (ee 7) Ad))) (Aa (ee 249) Ad)))) (fB (Aa (Ac (Af Ah (Aa (Ab 0) (Aa (ee 24) Ad))) (ee 1) (eqS id)) Ad) HQ) ixD))
 (Ae (Ao 4 (fC (.str " !\"#$&'()*+,-./0123456789:;<=>?@ABCDEFGHIJKLMNOPQRSTUVWXYZ[\\]^_`abcdefghijklmnopqrstuvwxyz{|}~")))
 (Al (joinM (fC (.str "")) (Aa (Ax (AU 1 [4,0] (Bm (Aa (fB (Aa (Ac (Ab 1) (ee 1) ixD) (Aa (Ab 3) Ad)) FU) Ad)) (As 0) B4 (Ac (Ab 1) (Af Ah (Aa (Ab 2) (Aa (ee 94) Ad))) ixD))) Ad)))))
   Ap)
 (Ae (ifS (Aj (Ac (Ab 2) (fC (.str "list")) (eqS id)))
   (Al (Ax (AU 1 [0,1] (Bm (Aa (fB (Aa (Ac (Ab 1) (ee 2) ixD) (Aa (Af Ah (Aa (Ab 0) (Aa (ee 4) Ad))) Ad)) FU) Ad)) (As 0) B4 (Af BB (Aa (Ab 1) (Aa (Ac (Ab 2) (ee 1) ixD) Ad))))))
   Ap)
 (Ae (ifS (Aj (Ac (Ab 2) (fC (.str "pair")) (eqS id)))
   (Al (AN (Aa (Af BB (Aa (Ab 0) (Aa (Ac (Ab 1) (ee 1) ixD) Ad))) (Aa (Af BB (Aa (Ab 0) (Aa (Ac (Ab 1) (ee 2) ixD) Ad))) Ad))))
   Ap)
 (Ae (Ao 5 (Af Ah (Aa (Ab 0) (Aa (fB (Aa (Ac (Ab 1) (ee 1) ixD) Ad) Az) Ad))))
 (Al (AN (Aa (fC (.str "of")) (Aa (Ab 5) (Aa (Af BB (Aa (Ab 0) (Aa (Ac (Ac (Ab 1) (ee 1) ixD) (Ab 5) ixD) Ad))) Ad))))))))))))
def D9(Bl L5:Fn):M Out:=
 (Ae (Ao 2 (Ac (Ab 0) (ee 0) ixD))
 (Ae (ifS (Aj (Ac (Ab 2) (fC (.str "nothing")) (eqS id)))
   (Al (Ax (AK Ad)))
   Ap)
 (Ae (ifS (Aj (Ac (Ab 2) (fC (.str "number")) (eqS id)))
   (Ae (Ao 3 (Ac (Ab 1) (Ac (Ab 0) (ee 1) ixD) Bw))
 (Ae (Ao 4 (Ax (AK Ad)))
 (Ae (Bj (Bm (Aa (Af L5 (Aa (Ac (Ac (Ab 0) (ee 2) ixD) (Ac (Ab 0) (ee 1) ixD) Bw) Ad)) Ad)) (As 5)
   (Ae (Ao 4 (Ac (Ax (AK (Aa (Ac (Ab 3) (ee 256) EA) Ad))) (Ab 4) AC))
 (Ao 3 (Ac (Ab 3) (ee 256) Fl))))
 (Al (Ab 4)))))
   Ap)
 (Ae (ifS (Aj (Ac (Ab 2) (fC (.str "text")) (eqS id)))
   (Al (Ac (Ax (AK (Aa (fB (Aa (Ab 1) Ad) Az) Ad))) (Ax (AU 1 [] (Dj (Ab 1)) (As 0) B4 (fB (Aa (Ab 0) Ad) Ib))) AC))
   Ap)
 (Ae (ifS (Aj (Ac (Ab 2) (fC (.str "list")) (eqS id)))
   (Ae (Ao 4 (Ax (AK (Aa (fB (Aa (Ab 1) Ad) Az) Ad))))
 (Ae (Bj (Dj (Ab 1)) (As 6)
   (Ao 4 (Ac (Ab 4) (Af Bl (Aa (Ac (Ab 0) (ee 1) ixD) (Aa (Ab 6) Ad))) AC)))
 (Al (Ab 4))))
   Ap)
 (Ae (ifS (Aj (Ac (Ab 2) (fC (.str "pair")) (eqS id)))
   (Al (Ac (Af Bl (Aa (Ac (Ab 0) (ee 1) ixD) (Aa (Ac (Ab 1) (ee 0) ixD) Ad))) (Af Bl (Aa (Ac (Ab 0) (ee 2) ixD) (Aa (Ac (Ab 1) (ee 1) ixD) Ad))) AC))
   Ap)
 (Al (Ac (Ax (AK (Aa (Ac (Ab 1) (ee 1) ixD) Ad))) (Af Bl (Aa (Ac (Ac (Ab 0) (ee 1) ixD) (Ac (Ab 1) (ee 1) ixD) ixD) (Aa (Ac (Ab 1) (ee 2) ixD) Ad))) AC))))))))
def wdB(Ah AS:Fn):M Out:=
 (Ae (Ao 11 (Ac (Ax (AK (Aa (fB (Aa (Ac (Ab 2) (ee 1) Bw) (Aa (Ac (Ab 5) (ee 1) AC) Ad)) FU) (Aa (Af Ah (Aa (Ab 6) (Aa (Ab 2) Ad))) Ad)))) (Af Ah (Aa (Ab 6) (Aa (ee 2) Ad))) ixD))
 (ownM 9 Cd (Aa (AN (Aa (Ac (Ab 3) (Ac (Ac (Ab 8) (Ac (ee 3) (Ab 10) FV) AC) (ee 14) EA) ixD) (Aa (Af AS (Aa (Ab 6) (Aa (Af Ah (Aa (Ab 6) (Aa (ee 3) Ad))) Ad))) (Aa (Ab 11) Ad)))) Ad)))
def DB(Ah AS AW:Fn):M Out:=
 (Ae (Ao 3 (Ax (AK (Aa (fC (.str "a")) (Aa (fC (.str "ab")) (Aa (fC (.str "b")) (Aa (fC (.str "ba")) (Aa (fC (.str "abc")) (Aa (fC (.str "zz")) (Aa (fC (.str "hello")) (Aa (fC (.str "x")) (Aa (fC (.str "quit")) (Aa (fC (.str "go")) (Aa (fC (.str "abcdefgh")) (Aa (fC (.str "c")) (Aa (fC (.str "no")) (Aa (fC (.str "abcdefgi")) Ad)))))))))))))))))
 (Ae (Eb 4 (AK Ad))
 (Ae (Bj (Bm (Aa (Ab 2) Ad)) (As 5)
   (Ae (Ao 6 (Af AW (Aa (Ab 0) (Aa (Ac (Ab 1) (Ab 5) AC) Ad))))
 (ifS (G8 (Aj (Ac (Af Ah (Aa (Ab 6) (Aa (ee 6) Ad))) (ee 1) (eqS id))) (fOr (Aj (Ac (Ab 5) (ee 0) gtA)) (Aj (Ac (Af Ah (Aa (Ab 6) (Aa (ee 4) Ad))) (ee 1) (eqS id)))))
   (ownM 4 Cd (Aa (AN (Aa (fC (.str "end")) Ad)) Ad))
   (Ae (Ao 7 (Ac (Ax (AK (Aa (fC (.str "left")) (Aa (fC (.str "right")) Ad)))) (Af Ah (Aa (Ab 6) (Aa (ee 2) Ad))) ixD))
 (Ae (Ao 8 (Af Ah (Aa (Ab 6) (Aa (ee 14) Ad))))
 (Ae (Eb 9 (AK Ad))
 (Ae (Bj (Bm (Aa (Ac (Ax (AK (Aa (ee 1) (Aa (ee 2) (Aa (ee 3) (Aa (ee 9) Ad)))))) (Af Ah (Aa (Ab 6) (Aa (ee 4) Ad))) ixD) Ad)) (As 10)
   (wdB Ah AS))
 (ownM 4 Cd (Aa (AN (Aa (Ab 7) (Aa (Ab 9) Ad))) Ad)))))))))
 (Al (Ab 4)))))
def Ea(Ah JA AW:Fn):M Out:=
 (Ae (Ao 1 (Af AW (Aa (Ab 0) (Aa (ee 0) Ad))))
 (Ae (Ao 2 (Ac (ee 1) (Af Ah (Aa (Ab 1) (Aa (ee 9) Ad))) AC))
 (Ae (Ao 3 (fB (Aa (ee 30) (Aa (Ac (ee 36) (Ab 2) Fl) Ad)) FU))
 (Al (Ax (AU 1 [0,3,1] (Bm (Aa (Ab 2) Ad)) (As 0) B4 (Af JA (Aa (Ab 1) (Aa (Ac (ee 2) (Ac (Ab 2) (Ab 0) FV) AC) (Aa (Ac (ee 1) (Af Ah (Aa (Ab 3) (Aa (Ab 2) Ad))) AC) Ad))))))))))
def IH(Bl BB Ah AW:Fn):M Out:=
 (Ae (Ao 7 (Af AW (Aa (Ab 0) (Aa (Ab 6) Ad))))
 (Ae (Ao 8 (Af Ah (Aa (Ab 7) (Aa (fB (Aa (Ab 1) Ad) Az) Ad))))
 (ifS (Aj (Ac (fB (Aa (Ac (Ac (Ab 1) (Ab 8) ixD) (CB 3 (Ab 8)) ixD) Ad) Az) (ee 1) gtA))
   (Ae (Dt (Ac (Ac (Ab 1) (Ab 8) ixD) (CB 3 (Ab 8)) ixD) (unS 2 (AO (As 9) (AO (As 10) DE))))
 (Ae (Dt (Ac (Ab 10) (Af Ah (Aa (Ab 7) (Aa (fB (Aa (Ab 10) Ad) Az) Ad))) ixD) (unS 3 (AO (As 11) (AO (As 12) (AO (As 13) DE)))))
 (Ae (Ao 14 (Af BB (Aa (Ab 7) (Aa (Ab 12) Ad))))
 (ifS (Aj (Ac (Ac (ee 2) (fB (Aa (Af Bl (Aa (Ab 12) (Aa (Ab 14) Ad))) Ad) Az) AC) (Ab 5) leA))
   (Ae (Ao 5 (Ac (Ac (Ab 5) (ee 2) Bw) (fB (Aa (Af Bl (Aa (Ab 12) (Aa (Ab 14) Ad))) Ad) Az) Bw))
 (Ae (ownM 4 Cd (Aa (AN (Aa (Ab 8) (Aa (Ab 9) (Aa (Ab 11) (Aa (Ab 14) Ad))))) Ad))
 (Dt (Ab 13) (IL 3 (Ab 8)))))
   Ap))))
   Ap)))
def Ex(Bl BB Ah AW:Fn):M Out:=
 (Ae (Eb 3 (bnd (Ax (AK (Aa (ee 0) Ad))) λx=>bnd (fB (Aa (Ab 1) Ad) Az) λy=>Py x y))
 (Ae (Eb 4 (AK Ad))
 (Ae (Ao 5 (ee 1500))
 (Ae (Bj (Ge (Aa (Ab 2) (Aa (fB (Aa (ee 63) (Aa (fB (Aa (Ab 0) Ad) Az) Ad)) FU) Ad))) (As 6)
   (IH Bl BB Ah AW))
 (Al (Ab 4))))))
def DT:M Out:=
 (Ae (E5 "grammars" (Ab 1) (Ab 0))
 (Ae (E5 "wires" (Ep [("left",(Ab 2)),("right",(Ab 3))]) (Ab 0))
 (Ae (E5 "places" (Ep [("left",(ee 0)),("right",(ee 0))]) (Ab 0))
 (Ae (E5 "standings" (Dk (AU 1 [] (Dj (Ab 1)) (As 0) B4 (ee 0))) (Ab 0))
 (E5 "heard" (Dk (AU 1 [] (Dj (Ab 1)) (As 0) B4 (Dk (AK Ad)))) (Ab 0))))))
def CZ(Dl:Fn):M Out:=
 (Ae (Ao 2 (Ac (Dz "places" (Ab 0)) (Ab 1) AX))
 (Ae (Ao 3 (D6 "Listener" Dl (Ab 0) (Aa (Ab 1) Ad)))
 (Ae (Ip (Aj (Ac (Ab 3) (fC .non) GB))
   (Ae (Ao 4 (Ac (Ac (Dz "wires" (Ab 0)) (Ab 1) AX) (Ac (Dz "places" (Ab 0)) (Ab 1) AX) ixD))
 (Ae (D5 (objM Cd (Ac (Dz "heard" (Ab 0)) (Ab 4) ixD) (Aa (Ac (Ab 3) (ee 0) ixD) Ad)))
 (Ae (Dt (Ac (Ab 3) (ee 1) ixD) (stD (Dz "standings" (Ab 0)) (Ab 4)))
 (Ae (Dt (Ac (Ab 3) (ee 2) ixD) (Hn (Dz "places" (Ab 0)) (Ab 1)))
 (Ao 3 (D6 "Listener" Dl (Ab 0) (Aa (Ab 1) Ad))))))))
 (Al (Ac (Ac (Dz "places" (Ab 0)) (Ab 1) AX) (Ab 2) gtA)))))
def EO(Fa BJ:Fn):M Out:=
 (Ae (ifS (fOr (CP (Aj (fB (Aa (Ab 2) (Aa (fC (.ty "tuple")) Ad)) CD))) (Aj (Ac (fB (Aa (Ab 2) Ad) Az) (ee 4) (eqS λb=>!b))))
   (Al (fC .non))
   Ap)
 (Ae (Ao 3 (Ac (Ab 2) (ee 0) ixD))
 (Ae (ifS (CP (Aj (Af BJ (Aa (Ab 3) (Aa (ee 0) (Aa (Ac (fB (Aa (Ab 0) Ad) Az) (ee 1) Bw) Ad))))))
   (Al (fC .non))
   Ap)
 (Al (Af Fa (Aa (Ac (Ac (Ab 0) (Ab 3) ixD) (Ac (Ab 1) (Ab 3) ixD) ixD) (Aa (fSl (Ab 2) (Dm (ee 1)) fNo DG) Ad)))))))
def wbB(Dc Ce En:Fn):M Out:=
 (Ae (Ao 5 (Af En (Aa (Ab 0) (Aa (Ab 3) (Aa (Ac (Ab 1) (Ab 4) ixD) Ad)))))
 (Ae (ifS (Aj (Ac (Ab 5) (fC .non) isC))
   fail
   Ap)
 (Ae (Ao 6 (Ac (Ac (Ab 1) (Ab 4) ixD) (ee 0) ixD))
 (Ae (Ao 7 (Ac (Ac (Ab 0) (Ab 6) ixD) (Ac (Ab 3) (Ab 6) ixD) ixD))
 (Ae (D5 (objM Fb (Ac (Ab 2) (Ac (Ab 7) (ee 0) ixD) AX) (Aa (Ac (Ax (AK (Aa (Ab 6) Ad))) (Af Ce (Aa (Ab 7) (Aa (Ab 5) (Aa (Ac (Ac (Ab 1) (Ab 4) ixD) (ee 3) ixD) Ad)))) AC) Ad)))
 (Dt (Af Dc (Aa (Ac (Ab 0) (Ab 6) ixD) (Aa (AN (Aa (Ac (Ab 3) (Ab 6) ixD) (Aa (Ab 5) Ad))) Ad))) (stD (Ab 3) (Ab 6))))))))
def DY(Dc Ce En:Fn):M Out:=
 (Ae (Ao 2 (Ep [("left",(Dk (AK Ad))),("right",(Dk (AK Ad)))]))
 (Ae (Ao 3 (Dk (AU 1 [] (Dj (Ab 0)) (As 0) B4 (ee 0))))
 (Ae (Bj (Bm (Aa (fB (Aa (Ab 1) Ad) Az) Ad)) (As 4)
   (wbB Dc Ce En))
 (Al (AN (Aa (Ac (Ab 2) (fC (.str "left")) AX) (Aa (Ac (Ab 2) (fC (.str "right")) AX) Ad)))))))
def Fd:M Out:=
 (Ae (Ao 2 (Ax (AU 1 [] (Dj (Ab 0)) (As 0) B4 (Dk (AK Ad)))))
 (Ae (Bj (Dj (Ab 1)) (unS 4 (AO (As 3) (AO (As 4) (AO (As 5) (AO (As 6) DE)))))
   (D5 (objM Cd (Ac (Ab 2) (Ab 3) ixD) (Aa (AN (Aa (Ab 4) (Aa (Ab 5) (Aa (Ab 6) Ad)))) Ad))))
 (Al (Ab 2))))
def ptB(Be:Fn):M Out:=
 (Ae (Ao 4 (Af Be (Aa (Ab 0) (Aa (fSl (Ab 1) fNo (Dm (Ab 3)) DG) Ad))))
 (Ae (Ao 5 (Af Be (Aa (Ab 0) (Aa (fSl (Ab 1) fNo (Dm (Ac (Ab 3) (ee 1) AC)) DG) Ad))))
 (Ae (Dt (fSl (Ac (Ab 1) (Ab 3) ixD) fNo (Dm (ee 2)) DG) (unS 2 (AO (As 6) (AO (As 7) DE))))
 (Ae (Ao 8 (fB (Aa (Ac (Ab 7) (fC (.str "right")) (eqS id)) Ad) HQ))
 (Ae (Ao 9 (fSl (Ac (Ab 5) (Ab 8) ixD) (Dm (fB (Aa (Ac (Ab 4) (Ab 8) ixD) Ad) Az)) fNo Jl))
 (Ae (ifS (fOr (Aj (Ac (fSl (Ac (Ab 5) (Ab 8) ixD) fNo (Dm (fB (Aa (Ac (Ab 4) (Ab 8) ixD) Ad) Az)) Jl) (Ac (Ab 4) (Ab 8) ixD) (eqO λb=>!b))) (fOr (Aj (Ac (Ac (Ab 5) (Ac (ee 1) (Ab 8) Bw) ixD) (Ac (Ab 4) (Ac (ee 1) (Ab 8) Bw) ixD) (eqO λb=>!b))) (Aj (Ac (fSl (Ab 9) fNo (Dm (ee 1)) DG) (Ax (AK (Aa (Ab 6) Ad))) (eqS λb=>!b)))))
   (Al (fC .non))
   Ap)
 (Dt (Ac (Ac (Ac (Ab 2) (Ab 6) ixD) (Ab 7) AX) (fSl (Ab 9) (Dm (ee 1)) fNo DG) AC) (Hn (Ac (Ab 2) (Ab 6) ixD) (Ab 7)))))))))
def DU(Be:Fn):M Out:=
 (Ae (Ao 2 (Ax (AU 1 [] (Dj (Ab 0)) (As 0) B4 (Ep [("left",(Ax (AK Ad))),("right",(Ax (AK Ad)))]))))
 (Ae (Bj (Bm (Aa (fB (Aa (Ab 1) Ad) Az) Ad)) (As 3)
   (ptB Be))
 (Al (Ab 2))))
def tnB(Ah:Fn):M Out:=
 (Ae (Ao 5 (Af Ah (Aa (Ab 2) (Aa (fB (Aa (ee 1) (Aa (Ac (EI 3) (ee 1) Bw) Ad)) KI) Ad))))
 (ifS (G8 (Aj (Ac (Ac (Ab 5) (ee 1) AC) (EI 3) ltA)) (G8 (Aj (Ac (Ac (CB 3 (Ab 5)) (ee 0) ixD) (Ac (CB 3 (Ac (Ab 5) (ee 1) AC)) (ee 0) ixD) (eqS λb=>!b))) (Aj (Ac (Ac (CB 3 (Ab 5)) (ee 1) ixD) (Ac (CB 3 (Ac (Ab 5) (ee 1) AC)) (ee 1) ixD) (eqS λb=>!b)))))
   (Dt (Ax (AK (Aa (CB 3 (Ac (Ab 5) (ee 1) AC)) (Aa (CB 3 (Ab 5)) Ad)))) (IK 3 (Dm (Ab 5)) (Dm (Ac (Ab 5) (ee 2) AC))))
   Ap))
def DV(Ah:Fn):M Out:=
 (Ae (Eb 3 (fBF (Aa (Ab 1) Ad) FM))
 (Ae (Bj (Bm (Aa (ee 20) Ad)) (As 4)
   (tnB Ah))
 (Al (Ab 3))))
def Ew(Em:Fn):M Out:=
 (Ae (D0 3 (Af Em (Aa (Ab 1) (Aa (Ab 2) Ad))))
 (Ae (ifS (Aj (Ac (Ab 3) (Ab 0) gtA))
   fail
   Ap)
 (Al (nxD (Ab 3)))))
def C4(GX Em EF:Fn):M Out:=
 (Ae (Ao 3 (Ac (Ac (Ab 0) (ee 2) ixD) (Ac (Ab 0) (ee 1) ixD) Bw))
 (Ae (Ao 4 (Af EF (Aa (Ab 3) Ad)))
 (Ae (Ao 5 (ee 0))
 (Ae (Bj (Bm (Aa (Ab 4) Ad)) (As 6)
   (Ae (D0 5 (Iy (Ac (Ab 5) (ee 256) FV) (Af Em (Aa (Ab 1) (Aa (Ac (Ab 2) (Ab 6) AC) Ad))) AC))
 (ifS (Aj (Ac (Ab 5) (Af GX (Aa (Ab 3) (Aa (Ac (Ac (Ab 4) (ee 1) Bw) (Ab 6) Bw) Ad))) gtA))
   fail
   Ap)))
 (Al (nxD (AN (Aa (Ac (Ac (Ab 0) (ee 1) ixD) (Ab 5) AC) (Aa (Ac (Ab 2) (Ab 4) AC) Ad)))))))))
def FR(GW Em:Fn):M Out:=
 (Ae (D0 2 (Af Em (Aa (Ab 0) (Aa (Ab 1) Ad))))
 (Ae (ifS (CP (Aj (Af GW (Aa (Ab 2) Ad))))
   fail
   Ap)
 (Al (nxD (Ac (fC (.str " !\"#$ &'()*+,-./0123456789:;<=>?@ABCDEFGHIJKLMNOPQRSTUVWXYZ[\\]^_`abcdefghijklmnopqrstuvwxyz{|}~")) (Ac (Ab 2) (ee 32) Bw) ixD)))))
def DW(BC:Fn):M Out:=
 (Ae (ifS (Aj (Ac (Ab 2) (fB (Aa (Ab 1) Ad) Az) geA))
   (Al (fC .non))
   Ap)
 (Ae (ifS (Aj (Ac (Ac (Ab 1) (Ab 2) ixD) (fB (Aa (Ac (Ab 0) (ee 1) ixD) Ad) Az) geA))
   fail
   Ap)
 (Ae (Ao 3 (Ac (Ac (Ab 0) (ee 1) ixD) (Ac (Ab 1) (Ab 2) ixD) ixD))
 (Ae (F7 (D0 4 (Af BC (Aa (Ac (Ab 3) (ee 1) ixD) (Aa (Ab 1) (Aa (Ac (Ab 2) (ee 1) AC) Ad))))) (hNo "Short" (Al (fC .non)) (hAs "Broken" 5 fail Ye)))
 (Al (AN (Aa (AN (Aa (Ac (Ab 0) (ee 0) ixD) (Aa (Ac (Ab 3) (ee 0) ixD) (Aa (Ac (Ab 4) (ee 0) ixD) Ad)))) (Aa (Ac (Ab 3) (ee 2) ixD) (Aa (Ac (Ab 4) (ee 1) ixD) Ad)))))))))
def DX(Cm Eg GV:Fn):M Out:=
 (Ae (Ao 3 (LG "Listener" GV (Aa (Ab 0) (Aa (Ab 1) (Aa (Ab 2) Ad)))))
 (Ae (Ip (fOr (Aj (D6 "Listener" Eg (Ab 3) (Aa (fC (.str "left")) Ad))) (Aj (D6 "Listener" Eg (Ab 3) (Aa (fC (.str "right")) Ad))))
   Ap)
 (Ae (D5 (D6 "Listener" Cm (Ab 3) (Aa (fC (.str "left")) Ad)))
 (Ae (D5 (D6 "Listener" Cm (Ab 3) (Aa (fC (.str "right")) Ad)))
 (Al (AN (Aa (Dz "heard" (Ab 3)) (Aa (AN (Aa (Ac (Dz "places" (Ab 3)) (fC (.str "left")) AX) (Aa (Ac (Dz "places" (Ab 3)) (fC (.str "right")) AX) Ad))) Ad))))))))
def BZ(Cm:Fn):M Out:=
 (Al (D6 "Listener" Cm (Ab 0) (Aa (Ab 1) Ad)))
def CF(JC HC:Fn):M Out:=
 (Ae (Ao 2 (Ac (Dz "wires" (Ab 0)) (Ab 1) AX))
 (Ae (Ao 3 (Ac (Dz "places" (Ab 0)) (Ab 1) AX))
 (Ae (ifS (Aj (Ac (Ab 3) (fB (Aa (Ab 2) Ad) Az) geA))
   (Al (fC .non))
   Ap)
 (Ae (ifS (Aj (Ac (Ac (Ab 2) (Ab 3) ixD) (fB (Aa (Dz "grammars" (Ab 0)) Ad) Az) geA))
   fail
   Ap)
 (Ae (Ao 4 (Ac (Ac (Dz "grammars" (Ab 0)) (Ac (Ab 2) (Ab 3) ixD) ixD) (Ac (Dz "standings" (Ab 0)) (Ac (Ab 2) (Ab 3) ixD) ixD) ixD))
 (Ae (ifS (Aj (Af HC (Aa (Ab 4) Ad)))
   fail
   Ap)
 (Ae (ifS (Aj (Ac (Ac (Ab 4) (ee 0) ixD) (Ab 1) (eqS λb=>!b)))
   (Al (fC .non))
   Ap)
 (Al (Af JC (Aa (Ab 4) (Aa (Ab 2) (Aa (Ac (Ab 3) (ee 1) AC) Ad))))))))))))
def FP(FG HB Gc Be Ah Ko AW Gm Kn Lv:Fn):M Out:=
 (Ae (Ao 1 (Af FG (Aa (Ab 0) Ad)))
 (Ae (Ao 2 (Af HB (Aa (Ab 0) (Aa (Ab 1) (Aa (ee 38) Ad)))))
 (Ae (Dt (Af Be (Aa (Ab 1) (Aa (Ab 2) Ad))) (unS 2 (AO (As 3) (AO (As 4) DE))))
 (Ae (Ao 5 (Af Lv (Aa (Ab 1) (Aa (Ab 2) Ad))))
 (Ae (ifS (Aj (Ac (Af Gc (Aa (Ab 1) (Aa (Ax (fBF (Aa (Ab 3) Ad) FM)) (Aa (Ax (fBF (Aa (Ab 4) Ad) FM)) Ad)))) (AN (Aa (Ab 5) (Aa (AN (Aa (fB (Aa (Ab 3) Ad) Az) (Aa (fB (Aa (Ab 4) Ad) Az) Ad))) Ad))) (eqO λb=>!b)))
   (Al (fC (.bl false)))
   Ap)
 (Ae (Ao 6 (Af Kn (Aa (Ab 1) (Aa (Ab 2) Ad))))
 (Ae (ifS (Aj (Ac (Ab 6) (fC .non) isC))
   (Al (fC (.bl false)))
   Ap)
 (Ae (Bj (LF (Aa (Ab 1) Ad)) (unS 2 (AO (As 7) (AO (As 8) DE)))
   (ifS (Aj (Ac (Af Gm (Aa (Ab 8) (Aa (Ac (Ab 5) (Ab 7) ixD) Ad))) (AN (Aa (Ac (Ac (Ab 6) (Ab 7) ixD) (fC (.str "left")) AX) (Aa (Ac (Ac (Ab 6) (Ab 7) ixD) (fC (.str "right")) AX) Ad))) (eqO λb=>!b)))
   (Al (fC (.bl false)))
   Ap))
 (Ae (Ao 9 (Af AW (Aa (Ab 0) (Aa (ee 1) Ad))))
 (Ae (ifS (Aj (Ac (Af Be (Aa (Ab 1) (Aa (Af Ko (Aa (Ab 1) (Aa (Ab 2) (Aa (Ab 9) Ad)))) Ad))) (AN (Aa (Ab 3) (Aa (Ab 4) Ad))) (eqO λb=>!b)))
   (Al (fC (.bl false)))
   Ap)
 (Ae (Ao 10 (Af Ah (Aa (Ab 9) (Aa (fB (Aa (Ab 1) Ad) Az) Ad))))
 (Ae (Ao 11 (Af Be (Aa (Ab 1) (Aa (Ax (AU 1 [10] (Dj (Ab 2)) (As 0) (Aj (Ac (Ac (Ab 0) (ee 0) ixD) (Ab 1) (eqS λb=>!b))) (Ab 0))) Ad))))
 (Ae (Ao 12 (Ax (AU 1 [10,5] (Bm (Aa (fB (Aa (Ab 1) Ad) Az) Ad)) (As 0) B4 (fIf (Aj (Ac (Ab 0) (Ab 1) (eqS λb=>!b))) (Ac (Ab 2) (Ab 0) ixD) (Ax (AK Ad))))))
 (Ae (ifS (Aj (Ac (Af Gc (Aa (Ab 1) (Aa (Ac (Ab 11) (ee 0) ixD) (Aa (Ac (Ab 11) (ee 1) ixD) Ad)))) (AN (Aa (Ab 12) (Aa (AN (Aa (fB (Aa (Ac (Ab 11) (ee 0) ixD) Ad) Az) (Aa (fB (Aa (Ac (Ab 11) (ee 1) ixD) Ad) Az) Ad))) Ad))) (eqO λb=>!b)))
   (Al (fC (.bl false)))
   Ap)
 (Al (EV (Ac (Ab 1) (Af FG (Aa (Ab 0) Ad)) (eqS id)) (Ac (Ab 2) (Af HB (Aa (Ab 0) (Aa (Ab 1) (Aa (ee 38) Ad)))) (eqS id))))))))))))))))))
end LW
namespace L2
open PySem
def W{α:Type}(m:M α)(t:T)(P:α->T->Prop):Prop:=∃a t',m t=some (a,t')/\P a t'
def Wf(g:Fn)(ds:List D)(S:List Ob)(P:D->List Ob->Prop):Prop:=∃r S',g ds S=some (r,S')/\P r S'
theorem W.mono{α:Type}{m:M α}{t:T}{P Q:α->T->Prop}(h:W m t P)(i:∀a t',P a t'->Q a t'):W m t Q:=by
 clear 5 h a t' e p;exact⟨a,t',e,i a t' p⟩
theorem Wf.mono{g:Fn}{ds:List D}{S:List Ob}{P Q:D->List Ob->Prop}(h:Wf g ds S P)(i:∀r S',P r S'->Q r S'):Wf g ds S Q:=by
 clear 5 h a t' e p;exact⟨a,t',e,i a t' p⟩
section
variable{α β:Type}
theorem Aw{m:M α}{t:T}{P:α->T->Prop}{a:α}{t':T}(e:m t=some (a,t')):W m t P↔P a t':=by
 constructor
 .rintro⟨a',t1,e',p⟩;rw[e] at e';cases e';exact p
 .exact λp=>⟨a,t',e,p⟩
theorem Ds{m:M α}{t:T}{P:α->T->Prop}(e:m t=none):W m t P↔False:=by
 constructor
 .rintro⟨a',t1,e',p⟩;rw[e] at e';cases e'
 .exact False.elim
@[simp] theorem W_ret {a:α}{t:T}{P:α->T->Prop}:W (ret a) t P↔P a t:=Aw rfl
@[simp] theorem W_fail {t:T}{P:α->T->Prop}:W (fail:M α) t P↔False:=Ds rfl
@[simp] theorem W_bnd {f:M α}{g:α->M β}{t:T}{P:β->T->Prop}:W (bnd f g) t P↔W f t λa t1=>W (g a) t1 P:=by
 constructor
 .rintro⟨b,t',e,p⟩;clear 5(Ag e)a t1 e1 e2;exact⟨a,t1,e1,b,t',e2,p⟩
 .rintro⟨a,t1,e1,b,t',e2,p⟩;exact⟨b,t',by unfold bnd;rw[e1];exact e2,p⟩
@[simp] theorem Uv {c:Prop} [Decidable c] {f g:M α}{t:T}{P:α->T->Prop}:W (if c then f else g) t P↔if c then W f t P else W g t P:=by split<;>rfl
@[simp] theorem dF {n:Nat}{a:α}{t:T}{P:α->T->Prop}:W (lim n a) t P↔n<=LIM/\P a t:=by
 unfold lim;constructor
 .rintro⟨a',t',e,p⟩
  split at e
  .cases e;exact⟨by assumption,p⟩
  .cases e
 .rintro⟨h,p⟩;exact⟨a,t,by simp only[h,gS],p⟩
end
section
variable{t:T}{env:List (Option Sl)}{S:List Ob}
@[simp] theorem W_fC {d:D}{P:D->T->Prop}:W (fC d) t P↔P d t:=Aw rfl
@[simp] theorem P9 {i:Nat}{P:D->T->Prop}:W (Ab i) t P↔match t.env[i]? with
 |some (some (.val d))=>P d t
 |some (some (.own ds))=>P (.lst ds) ⟨t.env.set i (vw (.lst ds)),t.S⟩
 |_=>False:=by
 cases e:t.env[i]? with
 |none=>exact Ds (by unfold Ab;simp[e])
 |some o=>
   cases o with
   |none=>exact Ds (by unfold Ab;simp[e])
   |some sl=>
     cases sl with
     |val d=>exact Aw (by unfold Ab;simp[e])
     |own ds=>exact Aw (by unfold Ab;simp[e])
@[simp] theorem W_fBin {f g:M D}{h:D->D->M D}{P:D->T->Prop}:W (Ac f g h) t P↔W f t λx t1=>W g t1 λy t2=>W (h x y) t2 P:=by simp[Ac]
@[simp] theorem W_fUn {f:M D}{h:D->M D}{P:D->T->Prop}:W (fUn f h) t P↔W f t λx t1=>W (h x) t1 P:=by simp[fUn]
@[simp] theorem W_toB {b:Bool}{P:Bool->T->Prop}:W (toB (.bl b)) t P↔P b t:=Aw rfl
@[simp] theorem W_fTst {f:M D}{P:Bool->T->Prop}:W (Aj f) t P↔W f t λx t1=>W (toB x) t1 P:=by simp[Aj]
@[simp] theorem W_fChain {f g w:M D}{h h':D->D->M D}{P:D->T->Prop}:W (E1 f g w h h') t P↔W f t λx t1=>W g t1 λy t2=>W (h x y) t2 λk t3=>W (toB k) t3 λk t4=>if k=true then W w t4 λz t5=>W (h' y z) t5 P else P (.bl false) t4:=by
 simp[E1]
@[simp] theorem W_fAnd {f g:M Bool}{P:Bool->T->Prop}:W (G8 f g) t P↔W f t λk t1=>if k=true then W g t1 P else P false t1:=by simp[G8]
@[simp] theorem W_fOr {f g:M Bool}{P:Bool->T->Prop}:W (fOr f g) t P↔W f t λk t1=>if k=true then P true t1 else W g t1 P:=by simp[fOr]
@[simp] theorem W_fNot {f:M Bool}{P:Bool->T->Prop}:W (CP f) t P↔W f t λk t1=>P (!k) t1:=by simp[CP]
@[simp] theorem W_fAndV {f g:M D}{P:D->T->Prop}:W (EV f g) t P↔W f t λx t1=>W (toB x) t1 λk t2=>if k=true then W g t2 P else P (.bl false) t2:=by simp[EV]
@[simp] theorem W_fOrV {f g:M D}{P:D->T->Prop}:W (Kx f g) t P↔W f t λx t1=>W (toB x) t1 λk t2=>if k=true then P (.bl true) t2 else W g t2 P:=by simp[Kx]
@[simp] theorem W_fNotV {f:M D}{P:D->T->Prop}:W (JI f) t P↔W f t λx t1=>W (toB x) t1 λk t2=>P (.bl (!k)) t2:=by simp[JI]
@[simp] theorem W_fIf {f:M Bool}{g h:M D}{P:D->T->Prop}:W (fIf f g h) t P↔W f t λk t1=>if k=true then W g t1 P else W h t1 P:=by simp[fIf]
@[simp] theorem W_fNil {P:List D->T->Prop}:W Ad t P↔P [] t:=Aw rfl
@[simp] theorem W_fCons {f:M D}{g:M (List D)}{P:List D->T->Prop}:W (Aa f g) t P↔W f t λd t1=>W g t1 λds t2=>P (d::ds) t2:=by simp[Aa]
@[simp] theorem W_fTup {f:M (List D)}{P:D->T->Prop}:W (AN f) t P↔W f t λds t1=>ds.length<=LIM/\P (.tup ds) t1:=by simp[AN]
@[simp] theorem W_fLst {f:M (List D)}{P:List D->T->Prop}:W (AK f) t P↔W f t λds t1=>ds.length<=LIM/\P ds t1:=by simp[AK]
@[simp] theorem W_fPure {f:M (List D)}{P:D->T->Prop}:W (Ax f) t P↔W f t λds t1=>P (.lst ds) t1:=by simp[Ax]
@[simp] theorem W_newOb {o:Ob}{P:D->T->Prop}:W (Pi o) t P↔P (.obj t.S.length) ⟨t.env,t.S++[o]⟩:=Aw rfl
@[simp] theorem Xu {f:M (List D)}{P:D->T->Prop}:W (Dk f) t P↔W f t λds t1=>W (Pi (.lst ds)) t1 P:=by simp[Dk]
@[simp] theorem W_fCall {g:Fn}{f:M (List D)}{P:D->T->Prop}:W (Af g f) t P↔W f t λds t1=>Wf g ds t1.S λr S'=>P r ⟨t1.env,S'⟩:=by
 unfold Af;rw[W_bnd];constructor
 .rintro⟨ds,t1,e1,r,t',e2,p⟩;refine⟨ds,t1,e1,?_⟩;dsimp only at e2
  cases e:g ds t1.S with
  |none=>rw[e] at e2;cases e2
  |some z=>clear 5 z r' S';rw[e] at e2;cases e2;exact⟨r,_,e,p⟩
 .rintro⟨ds,t1,e1,r,S',e2,p⟩;exact⟨ds,t1,e1,r,_,by simp only[e2],p⟩
@[simp] theorem W_fB {f:M (List D)}{h:List D->M D}{P:D->T->Prop}:W (fB f h) t P↔W f t λds t1=>W (h ds) t1 P:=by simp[fB]
@[simp] theorem W_fBF {f:M (List D)}{h:List D->M (List D)}{P:List D->T->Prop}:W (fBF f h) t P↔W f t λds t1=>W (h ds) t1 P:=by simp[fBF]
@[simp] theorem W_seqS {f g:M Out}{P:Out->T->Prop}:W (Ae f g) t P↔W f t λo t1=>match o with
 |.next=>W g t1 P
 |.brk=>P .brk t1
 |.cont=>P .cont t1
 |.ret d=>P (.ret d) t1:=by
 unfold Ae;constructor
 .rintro⟨o,t',e,p⟩;dsimp only at e
  cases e1:f t with
  |none=>rw[e1] at e;cases e
  |some z=>
    clear 5 z o1 t1;rw[e1] at e;refine⟨o1,t1,e1,?_⟩
    cases o1 with
    |next=>exact⟨o,t',e,p⟩
    |brk=>cases e;exact p
    |cont=>cases e;exact p
    |ret d=>cases e;exact p
 .rintro⟨o,t1,e,p⟩
  cases o with
  |next=>clear 5 p o t' e' p;exact⟨o,t',by simp only[e];exact e',p⟩
  |brk=>exact⟨_,_,by simp only[e],p⟩
  |cont=>exact⟨_,_,by simp only[e],p⟩
  |ret d=>exact⟨_,_,by simp only[e],p⟩
@[simp] theorem W_skipS {P:Out->T->Prop}:W Ap t P↔P .next t:=Aw rfl
@[simp] theorem W_retS {f:M D}{P:Out->T->Prop}:W (Al f) t P↔W f t λd t1=>P (.ret d) t1:=by simp[Al]
@[simp] theorem W_dropS {f:M D}{P:Out->T->Prop}:W (D5 f) t P↔W f t λd t1=>P .next t1:=by simp[D5]
@[simp] theorem W_ifS {f:M Bool}{g h:M Out}{P:Out->T->Prop}:W (ifS f g h) t P↔W f t λk t1=>if k=true then W g t1 P else W h t1 P:=by simp[ifS]
@[simp] theorem W_putV {i:Nat}{d:D}{P:Unit->T->Prop}:W (As i d) t P↔P () ⟨t.env.set i (vw d),t.S⟩:=Aw rfl
@[simp] theorem W_setS {i:Nat}{f:M D}{P:Out->T->Prop}:W (Ao i f) t P↔W f t λd t1=>P .next ⟨t1.env.set i (vw d),t1.S⟩:=by
 simp only[Ao,W_bnd,W_ret,W_putV]
@[simp] theorem W_ownS {i:Nat}{f:M (List D)}{P:Out->T->Prop}:W (Eb i f) t P↔W f t λds t1=>P .next ⟨t1.env.set i (some (.own ds)),t1.S⟩:=by
 unfold Eb;rw[W_bnd];have:∀(ds:List D) (t1:T),W (λt:T=>some (Out.next,({t with env:=t.env.set i (some (.own ds))}:T))) t1 P↔P .next ⟨t1.env.set i (some (.own ds)),t1.S⟩:=λds t1=>Aw rfl;simp only[this]
@[simp] theorem W_asgS {f:M D}{g:D->M Unit}{P:Out->T->Prop}:W (Dt f g) t P↔W f t λd t1=>W (g d) t1 λ_ t2=>P .next t2:=by simp[Dt]
@[simp] theorem W_putNil {P:Unit->T->Prop}:W (DE []) t P↔P () t:=Aw rfl
@[simp] theorem W_putCons {f:D->M Unit}{g:List D->M Unit}{d:D}{ds:List D}{P:Unit->T->Prop}:W (AO f g (d::ds)) t P↔W (f d) t λ_ t1=>W (g ds) t1 P:=by simp[AO]
@[simp] theorem bo {n:Nat}{g:List D->M Unit}{ds:List D}{P:Unit->T->Prop}:W (unS n g (.lst ds)) t P↔ds.length=n/\W (g ds) t P:=by
 unfold unS;simp only[Uv,W_fail];split<;>simp[*]
@[simp] theorem W_unS_tup {n:Nat}{g:List D->M Unit}{ds:List D}{P:Unit->T->Prop}:W (unS n g (.tup ds)) t P↔ds.length=n/\W (g ds) t P:=by
 unfold unS;simp only[Uv,W_fail];split<;>simp[*]
@[simp] theorem W_forS {f:M (List D)}{st:D->M Unit}{b:M Out}{P:Out->T->Prop}:W (Bj f st b) t P↔W f t λds t1=>W (Bv st b ds) t1 P:=by simp[Bj]
@[simp] theorem W_forL_nil {st:D->M Unit}{b:M Out}{P:Out->T->Prop}:W (Bv st b []) t P↔P .next t:=Aw rfl
theorem BO{st:D->M Unit}{b:M Out}{d:D}{r:List D}{P:Out->T->Prop}:W (Bv st b (d::r)) t P↔W (st d) t λ_ t1=>W b t1 λo t2=>match o with
 |.next=>W (Bv st b r) t2 P
 |.cont=>W (Bv st b r) t2 P
 |.brk=>P .next t2
 |.ret x=>P (.ret x) t2:=by
 constructor
 .rintro⟨o,t',e,p⟩;unfold Bv at e
  cases e1:st d t with
  |none=>rw[e1] at e;cases e
  |some z=>
    clear 5 z u t1;rw[e1] at e
    try dsimp only at e
    refine⟨u,t1,e1,?_⟩
    cases e2:b t1 with
    |none=>rw[e2] at e;cases e
    |some z=>
      clear 5 z o2 t2;rw[e2] at e
      try dsimp only at e
      refine⟨o2,t2,e2,?_⟩
      cases o2 with
      |next=>exact⟨o,t',e,p⟩
      |cont=>exact⟨o,t',e,p⟩
      |brk=>cases e;exact p
      |ret x=>cases e;exact p
 .rintro⟨u,t1,e1,o,t2,e2,p⟩
  cases o with
  |next=>clear 5 p o t' e' p;exact⟨o,t',by unfold Bv;simp only[e1,e2];exact e',p⟩
  |cont=>clear 5 p o t' e' p;exact⟨o,t',by unfold Bv;simp only[e1,e2];exact e',p⟩
  |brk=>exact⟨_,_,by unfold Bv;simp only[e1,e2],p⟩
  |ret x=>exact⟨_,_,by unfold Bv;simp only[e1,e2],p⟩
theorem DL{st:D->M Unit}{b:M Out}{P:Out->T->Prop}(I:List D->T->Prop):∀(ds:List D) (t:T),I ds t->
 (∀d r t,I (d :: r) t->d∈ds->W (st d) t λ_ t1=>W b t1 λo t2=>match o with
   |.next=>I r t2
   |.cont=>I r t2
   |.brk=>P .next t2
   |.ret x=>P (.ret x) t2)->(∀t,I [] t->P .next t)->W (Bv st b ds) t P
 |[],t,h,_,fin=>W_forL_nil.mpr (fin t h)
 |d::r,t,h,turn,fin=>by
   rw[BO];refine(turn d r t h uf1).mono λ_ t1 h1=>h1.mono λo t2 h2=>?_
   cases o with
   |next=>exact DL I r t2 h2 (λd' r' t' h' m=>turn d' r' t' h' (ud6 _ m)) fin
   |cont=>exact DL I r t2 h2 (λd' r' t' h' m=>turn d' r' t' h' (ud6 _ m)) fin
   |brk=>exact h2
   |ret x=>exact h2
@[simp] theorem W_fComp {n:Nat}{fr:List Nat}{f:M (List D)}{st:D->M Unit}{tst:M Bool}{elt:M D}{P:List D->T->Prop}:W (AU n fr f st tst elt) t P↔W f t λds t1=>W (Bf st tst elt ds) ⟨cenv n fr t1.env,t1.S⟩ λxs t'=>xs.length<=LIM/\P xs ⟨t1.env,t'.S⟩:=by
 unfold AU;rw[W_bnd];constructor
 .rintro⟨ds,t1,e1,xs,t',e2,p⟩;refine⟨ds,t1,e1,?_⟩;dsimp only at e2
  cases e:Bf st tst elt ds ⟨cenv n fr t1.env,t1.S⟩ with
  |none=>rw[e] at e2;cases e2
  |some z=>
    clear 5 z ys t3;rw[e] at e2;dsimp only at e2
    split at e2
    .cases e2;exact⟨_,_,e,by assumption,p⟩
    .cases e2
 .rintro⟨ds,t1,e1,xs,t',e2,h,p⟩;exact⟨ds,t1,e1,xs,_,by simp only[e2,h,gS],p⟩
@[simp] theorem W_compL_nil {st:D->M Unit}{tst:M Bool}{elt:M D}{P:List D->T->Prop}:W (Bf st tst elt []) t P↔P [] t:=Aw rfl
theorem A7{st:D->M Unit}{tst:M Bool}{elt:M D}{d:D}{r:List D}{P:List D->T->Prop}:W (Bf st tst elt (d::r)) t P↔W (st d) t λ_ t1=>W tst t1 λk t2=>
 if k=true then W elt t2 λx t3=>W (Bf st tst elt r) t3 λxs t4=>P (x::xs) t4 else W (Bf st tst elt r) t2 P:=by
 rw[Bf];simp
theorem LX{st:D->M Unit}{tst:M Bool}{elt:M D}{P:List D->T->Prop}(I:List D->List D->T->Prop):∀(ds:List D) (acc:List D) (t:T),I acc ds t->
 (∀acc d r t,I acc (d::r) t->d∈ds->W (st d) t λ_ t1=>W tst t1 λk t2=>if k=true then W elt t2 λx t3=>I (acc++[x]) r t3 else I acc r t2)->
 (∀acc t,I acc [] t->P acc t)->W (Bf st tst elt ds) t λxs t'=>P (acc++xs) t'
 |[],acc,t,h,_,fin=>W_compL_nil.mpr (by rw[uj3];exact fin acc t h)
 |d::r,acc,t,h,turn,fin=>by
   rw[A7];have turn':∀acc d' r' t',I acc (d'::r') t'->d'∈r->_:=λacc d' r' t' h' m=>turn acc d' r' t' h' (ud6 _ m);refine(turn acc d r t h uf1).mono λ_ t1 h1=>h1.mono λk t2 h2=>?_
   cases k with
   |true=>
     rw[gW rfl] at h2⊢;refine h2.mono λx t3 h3=>(LX I r (acc++[x]) t3 h3 turn' fin).mono λxs t4 h4=>?_;rw[ug4] at h4;exact h4
   |false=>
     rw[gX uf2] at h2⊢;exact LX I r acc t2 h2 turn' fin
theorem Am{n m:Nat}{g:M Out}{ds:List D}{P:D->List Ob->Prop}(h:ds.length=n)(w:W g ⟨env0 m ds,S⟩ λo t=>match o with
 |.ret r=>P r t.S
 |.next=>P .non t.S
 |_=>False):Wf (fnOf n m g) ds S P:=by
 clear 5 w o t e p
 cases o with
 |ret r=>exact⟨r,t.S,by unfold fnOf;rw[gW h,e],p⟩
 |next=>exact⟨.non,t.S,by unfold fnOf;rw[gW h,e],p⟩
 |brk=>exact p.elim
 |cont=>exact p.elim
@[simp] theorem W_tTru {P:Bool->T->Prop}:W B4 t P↔P true t:=Aw rfl
@[simp] theorem dq {P:D->T->Prop}:W XJ t P↔P .dic t:=Aw rfl
end
section
variable{t:T}{P:D->T->Prop}
theorem Ju{α β:Type}{o:Option β}{g:β->α×T}{Q:α->T->Prop}{m:M α}(e:m t=o.map g):W m t Q↔∃b,o=some b/\Q (g b).1 (g b).2:=by
 constructor
 .rintro⟨a,t',e',p⟩;rw[e] at e';clear 5(uc2.mp e')b h1 h2;exact⟨b,h1,by rw[h2];exact p⟩
 .rintro⟨b,h,p⟩;exact⟨_,_,by rw[e,h];rfl,p⟩
theorem Sw{α:Type}{c:Prop}[Decidable c]{z:α×T}{Q:α->T->Prop}{m:M α}(e:m t=if c then some z else none):W m t Q↔c/\Q z.1 z.2:=by
 constructor
 .rintro⟨a,t',e',p⟩;rw[e] at e'
  split at e'
  .cases e';exact⟨by assumption,p⟩
  .cases e'
 .rintro⟨h,p⟩;exact⟨_,_,by rw[e,gW h],p⟩
theorem LY{α β:Type}{o:Option β}(f:β->α){Q:α->T->Prop}{m:M α}(e:m t=o.map λb=>(f b,t)):W m t Q↔∃b,o=some b/\Q (f b) t:=Ju (g:=λb=>(f b,t)) e
theorem Jt{α:Type}{c:Prop}[Decidable c]{a:α}{Q:α->T->Prop}{m:M α}(e:m t=if c then some (a,t) else none):W m t Q↔c/\Q a t:=Sw (z:=(a,t)) e
@[simp] theorem W_ix_tup {ds:List D}{i:Int}:W (ixD (.tup ds) (.int i)) t P↔∃d,atI ds i=some d/\P d t:=LY id rfl
@[simp] theorem W_ix_lst {ds:List D}{i:Int}:W (ixD (.lst ds) (.int i)) t P↔∃d,atI ds i=some d/\P d t:=LY id rfl
@[simp] theorem W_ix_scr {ns:List Int}{i:Int}:W (ixD (.scr ns) (.int i)) t P↔∃n,atI ns i=some n/\P (.int n) t:=LY D.int rfl
@[simp] theorem W_ix_str {x:Str}{i:Int}:W (ixD (.str x) (.int i)) t P↔x.length<=LIM/\∃n,atI x.cps.toList i=some n/\P (.str ⟨#[n]⟩) t:=by
 by_cases h:x.length<=LIM
 .have:ixD (.str x) (.int i) t=(atI x.cps.toList i).map λn=>(.str ⟨#[n]⟩,t):=by simp only[ixD,h,gS]
  rw[Ju this];simp[h]
 .rw[Ds (by simp only[ixD,h,gQ])];simp[h]
@[simp] theorem W_ix_obj {k:Nat}{i:Int}:W (ixD (.obj k) (.int i)) t P↔∃ds,t.S[k]?=some (.lst ds)/\∃d,atI ds i=some d/\P d t:=by
 cases e:t.S[k]? with
 |none=>rw[Ds (by simp only[ixD,e])];simp
 |some o=>
   cases o with
   |dct _|ins _ _=>rw[Ds (by simp only[ixD,e])];simp
   |lst ds=>
     have:ixD (.obj k) (.int i) t=(atI ds i).map λd=>(d,t):=by simp only[ixD,e]
     rw[Ju this];simp
@[simp] theorem Jw {α:Type}{a:α}{r:List α}:atI (a::r) 0=some a:=by simp[atI,ixN]
@[simp] theorem Uw {α:Type}{a b:α}{r:List α}:atI (a::b::r) 1=some b:=by
 have:(1:Int)<((a::b::r).length:Nat):=by simp;lia
 simp only[atI,ixN,this,gS,show(0:Int)<=1 by decide];rfl
@[simp] theorem Ux {α:Type}{a b c:α}{r:List α}:atI (a::b::c::r) 2=some c:=by
 have:(2:Int)<((a::b::c::r).length:Nat):=by simp;lia
 simp only[atI,ixN,this,gS,show(0:Int)<=2 by decide];rfl
theorem NB{α:Type}{xs:List α}{i:Int}(h0:0<=i)(h1:i<xs.length):∃d,atI xs i=some d/\d∈xs/\xs[i.toNat]?=some d:=by
 have hl:i.toNat<xs.length:=by lia
 refine⟨xs[i.toNat],?_,ui3 hl,ub2 hl⟩;simp[atI,ixN,h0,h1,hl]
@[simp] theorem W_len_lst {ds:List D}:W (Az [.lst ds]) t P↔P (.int ds.length) t:=Aw rfl
@[simp] theorem W_len_tup {ds:List D}:W (Az [.tup ds]) t P↔P (.int ds.length) t:=Aw rfl
@[simp] theorem W_len_scr {ds:List Int}:W (Az [.scr ds]) t P↔P (.int ds.length) t:=Aw rfl
@[simp] theorem W_len_str {x:Str}:W (Az [.str x]) t P↔x.length<=LIM/\P (.int x.length) t:=by simp[Az]
@[simp] theorem W_len_obj {k:Nat}:W (Az [.obj k]) t P↔∃ds,t.S[k]?=some (.lst ds)/\P (.int ds.length) t:=by
 cases e:t.S[k]? with
 |none=>rw[Ds (by simp only[Az,e])];simp
 |some o=>
   cases o with
   |dct _|ins _ _=>rw[Ds (by simp only[Az,e])];simp
   |lst ds=>rw[Aw (a:=.int ds.length) (t':=t) (by simp only[Az,e])];simp
@[simp] theorem W_isi {d:D}{m:String}:W (CD [d,.ty m]) t P↔∃n,tyD d=some n/\∃b,FL n m=some b/\P (.bl b) t:=by
 cases e:tyD d with
 |none=>rw[Ds (by simp only[CD,e])];simp
 |some n=>
   have:CD [d,.ty m] t=(FL n m).map λb=>(.bl b,t):=by simp only[CD,e]
   rw[Ju this];simp
noncomputable def Gf:D->Bool
 |.non=>true
 |_=>false
noncomputable def bM(b:Bool):D->Bool
 |.bl c=>c==b
 |_=>false
@[simp] theorem W_is_non {x:D}:W (isC x .non) t P↔P (.bl (Gf x)) t:=Aw (by cases x<;>rfl)
@[simp] theorem dl {x:D}{b:Bool}:W (isC x (.bl b)) t P↔P (.bl (bM b x)) t:=Aw (by cases x<;>rfl)
@[simp] theorem W_isNot {x y:D}:W (GB x y) t P↔W (isC x y) t λd t1=>W (toB d) t1 λb t2=>P (.bl (!b)) t2:=by
 unfold GB;rw[W_bnd];constructor
 .exact λh=>h.mono λd t1 h1=>by
   cases d with
   |bl b=>simpa using h1
   |_=>exact(W_fail.mp h1).elim
 .exact λh=>h.mono λd t1 h1=>by
   cases d with
   |bl b=>simpa using h1
   |_=>obtain⟨_,_,e,_⟩:=h1;cases e
@[simp] theorem W_add_int {i j:Int}:W (AC (.int i) (.int j)) t P↔P (.int (i+j)) t:=Aw rfl
@[simp] theorem W_sub_int {i j:Int}:W (Bw (.int i) (.int j)) t P↔P (.int (i-j)) t:=Aw rfl
@[simp] theorem W_lt_int {i j:Int}:W (ltA (.int i) (.int j)) t P↔P (.bl (decide (i<j))) t:=Aw rfl
@[simp] theorem W_le_int {i j:Int}:W (leA (.int i) (.int j)) t P↔P (.bl (decide (i<=j))) t:=Aw rfl
@[simp] theorem W_gt_int {i j:Int}:W (gtA (.int i) (.int j)) t P↔P (.bl (decide (j<i))) t:=Aw rfl
@[simp] theorem W_ge_int {i j:Int}:W (geA (.int i) (.int j)) t P↔P (.bl (decide (j<=i))) t:=Aw rfl
@[simp] theorem bx {i j:Str}:W (ltA (.str i) (.str j)) t P↔P (.bl (decide (i.cps.toList<j.cps.toList))) t:=Aw rfl
@[simp] theorem br {i j:Str}:W (gtA (.str i) (.str j)) t P↔P (.bl (decide (j.cps.toList<i.cps.toList))) t:=Aw rfl
@[simp] theorem dG {i:Int}:W (bO (.int i)) t P↔P (.int (-i)) t:=Aw rfl
@[simp] theorem W_fdiv {i j:Int}:W (Fl (.int i) (.int j)) t P↔(0<j/\j<1073741824)/\P (.int (i/j)) t:=by
 rw[Sw (m:=Fl (.int i) (.int j)) (c:=LD i j=true) (z:=(.int (i/j),t)) rfl];simp[LD]
@[simp] theorem W_mod {i j:Int}:W (EA (.int i) (.int j)) t P↔0<j/\P (.int (i%j)) t:=by
 rw[Sw (m:=EA (.int i) (.int j)) (c:=decide (0<j)=true) (z:=(.int (i%j),t)) rfl];simp
@[simp] theorem W_pow {i j:Int}:W (Ig (.int i) (.int j)) t P↔LK i j=true/\P (.int (i ^ j.toNat)) t:=Jt rfl
@[simp] theorem W_mul_int {i j:Int}:W (FV (.int i) (.int j)) t P↔Fp i j=true/\P (.int (i*j)) t:=Jt rfl
theorem DR{i j:Int}(h1 : -18446744073709551616<i)(h2:i<18446744073709551616):Fp i j=true:=by simp[Fp,h1,h2]
theorem VJ{i j:Int}(h1 : -18446744073709551616<j)(h2:j<18446744073709551616):Fp i j=true:=by simp[Fp,h1,h2]
theorem By{k:Int}(h1 : -4611686018427387904<=k)(h2:k<4611686018427387904):B9 k=true:=by simp[B9,h1,h2]
@[simp] theorem W_add_str {x y:Str}:W (AC (.str x) (.str y)) t P↔x.length+y.length<=LIM/\P (.str (x++y)) t:=by
 have:AC (.str x) (.str y)=lim (x.length+y.length) (.str (x++y)):=rfl;rw[this];simp
@[simp] theorem W_add_lst {x y:List D}:W (AC (.lst x) (.lst y)) t P↔x.length+y.length<=LIM/\P (.lst (x++y)) t:=by
 have:AC (.lst x) (.lst y)=lim (x.length+y.length) (.lst (x++y)):=rfl;rw[this];simp
@[simp] theorem W_cat {x y:List D}{Q:List D->T->Prop}:W (IY (.lst x) (.lst y)) t Q↔x.length+y.length<=LIM/\Q (x++y) t:=by
 have:IY (.lst x) (.lst y)=lim (x.length+y.length) (x++y):=rfl;rw[this];simp
@[simp] theorem dE {i:Int}:W (bB [.int i]) t P↔P (.int (if i<0 then -i else i)) t:=Aw rfl
@[simp] theorem W_min {i j:Int}:W (FU [.int i,.int j]) t P↔P (.int (if j<i then j else i)) t:=Aw rfl
@[simp] theorem W_max {i j:Int}:W (KI [.int i,.int j]) t P↔P (.int (if j > i then j else i)) t:=Aw rfl
@[simp] theorem bj {i:Int}:W (HQ [.int i]) t P↔P (.int i) t:=Aw rfl
@[simp] theorem W_int_bl {b:Bool}:W (HQ [.bl b]) t P↔P (.int (if b then 1 else 0)) t:=Aw rfl
@[simp] theorem W_ord {x:Str}:W (Ib [.str x]) t P↔x.length=1/\P (.int (x.cps.getD 0 0:Nat)) t:=Jt rfl
@[simp] theorem W_tup_lst {ds:List D}:W (KZ [.lst ds]) t P↔P (.tup ds) t:=Aw rfl
@[simp] theorem W_lst_lst {ds:List D}{Q:List D->T->Prop}:W (FM [.lst ds]) t Q↔Q ds t:=Aw rfl
@[simp] theorem bn {ds:List D}{Q:List D->T->Prop}:W (FM [.tup ds]) t Q↔Q ds t:=Aw rfl
@[simp] theorem W_eq_str {g:Bool->Bool}{x y:Str}:W (eqS g (.str x) (.str y)) t P↔P (.bl (g (x==y))) t:=Aw rfl
@[simp] theorem W_eq_int {g:Bool->Bool}{x y:Int}:W (eqS g (.int x) (.int y)) t P↔P (.bl (g (x==y))) t:=Aw rfl
@[simp] theorem dk {g:Bool->Bool}{x y:Bool}:W (eqS g (.bl x) (.bl y)) t P↔P (.bl (g (x==y))) t:=Aw rfl
@[simp] theorem bq {g:Bool->Bool}{x:List D}:W (eqS g (.lst x) (.lst [])) t P↔P (.bl (g x.isEmpty)) t:=by
 refine Aw ?_
 cases x<;>rfl
theorem Ia{a b:String}:Str.ofString a=Str.ofString b↔a=b:=by
 constructor
 .intro h;rw[Str.ofString_eq_toList,Str.ofString_eq_toList] at h;injection h with h
  have h:=gP Array.toList h;simp only at h;have hinj:∀xs ys:List Char,xs.map Char.toNat=ys.map Char.toNat->xs=ys:=by
   intro xs
   induction xs with
   |nil=>intro ys h;cases ys with|nil=>rfl|cons _ _=>simp at h
   |cons x xs ih=>
     intro ys h
     cases ys with
     |nil=>simp at h
     |cons y ys=>
       simp only[ul3,List.cons.injEq] at h;rw[ih ys h.2,Char.toNat_inj.mp h.1]
  exact String.toList_inj.mp (hinj _ _ (by simpa using h))
 .exact λh=>by rw[h]
@[simp] theorem Yv {a b:String}:(Str.ofString a==Str.ofString b)=(a==b):=by
 rw[Bool.eq_iff_iff,gK,gK,Ia]
@[simp] theorem W_sl_lst {ds:List D}{lo hi:Option Int}:W (DG (.lst ds) lo hi) t P↔P (.lst (Bp ds lo hi)) t:=Aw rfl
@[simp] theorem bz {ds:List Int}{lo hi:Option Int}:W (DG (.scr ds) lo hi) t P↔P (.lst ((Bp ds lo hi).map .int)) t:=Aw rfl
@[simp] theorem bA {x:Str}{lo hi:Option Int}:W (DG (.str x) lo hi) t P↔x.length<=LIM/\P (.str (Txt.slice x lo hi)) t:=by
 have:DG (.str x) lo hi=lim x.length (.str (Txt.slice x lo hi)):=rfl;rw[this];simp
@[simp] theorem W_sl_tup {ds:List D}{lo hi:Option Int}:W (DG (.tup ds) lo hi) t P↔P (.tup (Bp ds lo hi)) t:=Aw rfl
@[simp] theorem W_fSl {f:M D}{l u:M (Option Int)}{h:D->Option Int->Option Int->M D}:W (fSl f l u h) t P↔W f t λx t1=>W l t1 λlo t2=>W u t2 λhi t3=>W (h x lo hi) t3 P:=by simp[fSl]
@[simp] theorem W_fNo {Q:Option Int->T->Prop}:W fNo t Q↔Q none t:=Aw rfl
@[simp] theorem W_asI {i:Int}{Q:Option Int->T->Prop}:W (asI (.int i)) t Q↔Q (some i) t:=Aw rfl
@[simp] theorem W_fPart {f:M D}{Q:Option Int->T->Prop}:W (Dm f) t Q↔W f t λx t1=>W (asI x) t1 Q:=by simp[Dm]
@[simp] theorem W_fItA {f:M D}{Q:List D->T->Prop}:W (Dj f) t Q↔W f t λx t1=>W (Eu x) t1 Q:=by simp[Dj]
@[simp] theorem W_it_lst {ds:List D}{Q:List D->T->Prop}:W (Eu (.lst ds)) t Q↔Q ds t:=Aw rfl
@[simp] theorem bv {ds:List D}{Q:List D->T->Prop}:W (Eu (.tup ds)) t Q↔Q ds t:=Aw rfl
@[simp] theorem bu {ds:List Int}{Q:List D->T->Prop}:W (Eu (.scr ds)) t Q↔Q (ds.map .int) t:=Aw rfl
@[simp] theorem W_it_str {x:Str}{Q:List D->T->Prop}:W (Eu (.str x)) t Q↔Q (x.cps.toList.map λc=>.str ⟨#[c]⟩) t:=Aw rfl
@[simp] theorem W_fRng1 {f:M (List D)}{Q:List D->T->Prop}:W (Bm f) t Q↔W f t λx t1=>W (KQ x) t1 Q:=by simp[Bm]
@[simp] theorem W_fRng2 {f:M (List D)}{Q:List D->T->Prop}:W (Ge f) t Q↔W f t λx t1=>W (KR x) t1 Q:=by simp[Ge]
@[simp] theorem W_rng1 {j:Int}{Q:List D->T->Prop}:W (KQ [.int j]) t Q↔B9 j=true/\Q (AH 0 j.toNat) t:=Jt rfl
@[simp] theorem W_rng2 {i j:Int}{Q:List D->T->Prop}:W (KR [.int i,.int j]) t Q↔(B9 i&&B9 j)=true/\Q (AH i (j-i).toNat) t:=Jt rfl
@[simp] theorem W_ownM {i:Nat}{h:List D->List D->Option (List D)}{g:M (List D)}{Q:Out->T->Prop}:W (ownM i h g) t Q↔(∃xs,t.env[i]?=some (some (.own xs)))/\W g t λds t1=>∃xs,t1.env[i]?=some (some (.own xs))/\∃ys,h xs ds=some ys/\Q .next ⟨t1.env.set i (some (.own ys)),t1.S⟩:=by
 constructor
 .rintro⟨o,t',e,p⟩;unfold ownM at e
  split at e
  .next xs e0=>
   refine⟨⟨xs,e0⟩,?_⟩;clear 5(Ag e)ds t1 e1 e;refine⟨ds,t1,e1,?_⟩
   split at e
   .next ys e2=>
    clear 5(uc2.mp e)zs e3 e4
    cases e4
    exact⟨ys,e2,zs,e3,p⟩
   .cases e
  .cases e
 .rintro⟨⟨xs,e0⟩,ds,t1,e1,ys,e2,zs,e3,p⟩;exact⟨_,_,by unfold ownM bnd;simp only[e0,e1,e2,e3,uk1],p⟩
@[simp] theorem app1_one {xs:List D}{d:D}{ys:List D}:Cd xs [d]=some ys↔xs.length<LIM/\xs++[d]=ys:=by
 unfold Cd;split<;>simp[*]
@[simp] theorem W_stD {f g:M D}{d:D}{Q:Unit->T->Prop}:W (stD f g d) t Q↔W f t λo t1=>W g t1 λi t2=>W (F5 o i d) t2 Q:=by simp[stD]
@[simp] theorem W_stOb {k:Nat}{j:Int}{d:D}{Q:Unit->T->Prop}:W (F5 (.obj k) (.int j) d) t Q↔∃xs,t.S[k]?=some (.lst xs)/\∃n,ixN xs.length j=some n/\Q () ⟨t.env,t.S.set k (.lst (xs.set n d))⟩:=by
 cases e:t.S[k]? with
 |none=>rw[Ds (by simp only[F5,e])];simp
 |some o=>
   cases o with
   |dct _|ins _ _=>rw[Ds (by simp only[F5,e])];simp
   |lst ds=>
     have:F5 (.obj k) (.int j) d t=(ixN ds.length j).map λn=>((),{t with S:=t.S.set k (.lst (ds.set n d))}):=by simp only[F5,e]
     rw[Ju this];simp
end
section
variable{t:T}{P:D->T->Prop}{Q:List D->T->Prop}{R:Out->T->Prop}{B:Bool->T->Prop}{U:Unit->T->Prop}
def Fc(k:Bool)(A B:Prop):Prop:=if k=true then A else B
theorem EL{k:Bool}{A B:Prop}(h:k=true)(a:A):Fc k A B:=by unfold Fc;rw[gW h];exact a
theorem CW{k:Bool}{A B:Prop}(h:k=false)(b:B):Fc k A B:=by unfold Fc;rw[gX (by rw[h];exact uf2)];exact b
theorem Ev{k:Bool}{A B:Prop}(a:k=true->A)(b:k=false->B):Fc k A B:=by cases h:k with
 |true=>exact EL rfl (a h)
 |false=>exact CW rfl (b h)
def Hm(g:M Out)(R:Out->T->Prop)(o:Out)(t1:T):Prop:=match o with
 |.next=>W g t1 R
 |o=>R o t1
variable{t1:T}
theorem CK{g:M Out}(h:W g t1 R):Hm g R .next t1:=h
theorem M5{g:M Out}{d:D}(h:R (.ret d) t1):Hm g R (.ret d) t1:=h
theorem c7{f g:M Out}(h:W f t (Hm g R)):W (Ae f g) t R:=W_seqS.mpr (h.mono λo t1 h1=>by cases o<;>exact h1)
theorem aY(h:R .next t):W Ap t R:=W_skipS.mpr h
variable{f:M D}
theorem c6(h:W f t λd t1=>R (.ret d) t1):W (Al f) t R:=W_retS.mpr h
theorem aE(h:W f t λd t1=>R .next t1):W (D5 f) t R:=W_dropS.mpr h
theorem wIf{f:M Bool}{g h:M Out}(w:W f t λk t1=>Fc k (W g t1 R) (W h t1 R)):W (ifS f g h) t R:=W_ifS.mpr w
theorem c8{i:Nat}(h:W f t λd t1=>R .next ⟨t1.env.set i (vw d),t1.S⟩):W (Ao i f) t R:=W_setS.mpr h
theorem cY{i:Nat}{f:M (List D)}(h:W f t λd t1=>R .next ⟨t1.env.set i (some (.own d)),t1.S⟩):W (Eb i f) t R:=W_ownS.mpr h
theorem cy{g:D->M Unit}(h:W f t λd t1=>W (g d) t1 λ_ t2=>R .next t2):W (Dt f g) t R:=W_asgS.mpr h
theorem cE{f:M (List D)}{st:D->M Unit}{b:M Out}(h:W f t λds t1=>W (Bv st b ds) t1 R):W (Bj f st b) t R:=W_forS.mpr h
theorem wC{d:D}(h:P d t):W (fC d) t P:=W_fC.mpr h
theorem EC{i:Nat}{d:D}(e:t.env[i]?=some (vw d))(h:P d t):W (Ab i) t P:=by rw[P9,e];exact h
variable{ds:List D}
theorem bf{i:Nat}(e:t.env[i]?=some (some (.own ds)))(h:P (.lst ds) ⟨t.env.set i (vw (.lst ds)),t.S⟩):W (Ab i) t P:=by rw[P9,e];exact h
variable{g:M D}
theorem K1{h:D->D->M D}(w:W f t λx t1=>W g t1 λy t2=>W (h x y) t2 P):W (Ac f g h) t P:=W_fBin.mpr w
theorem wUn{h:D->M D}(w:W f t λx t1=>W (h x) t1 P):W (fUn f h) t P:=W_fUn.mpr w
theorem Cy{α β:Type}{f:M α}{g:α->M β}{K:β->T->Prop}(w:W f t λx t1=>W (g x) t1 K):W (bnd f g) t K:=W_bnd.mpr w
theorem PX{b:Bool}(h:B b t):W (toB (.bl b)) t B:=W_toB.mpr h
theorem PY(h:W f t λx t1=>W (toB x) t1 B):W (Aj f) t B:=W_fTst.mpr h
theorem Zr{w:M D}{h h':D->D->M D}(q:W f t λx t1=>W g t1 λy t2=>W (h x y) t2 λk t3=>W (toB k) t3 λk t4=>Fc k (W w t4 λz t5=>W (h' y z) t5 P) (P (.bl false) t4)):W (E1 f g w h h') t P:=W_fChain.mpr q
theorem cj{f g:M Bool}(h:W f t λk t1=>Fc k (W g t1 B) (B false t1)):W (G8 f g) t B:=W_fAnd.mpr h
theorem wOr{f g:M Bool}(h:W f t λk t1=>Fc k (B true t1) (W g t1 B)):W (fOr f g) t B:=W_fOr.mpr h
theorem cW{f:M Bool}(h:W f t λk t1=>B (!k) t1):W (CP f) t B:=W_fNot.mpr h
theorem az(h:W f t λx t1=>W (toB x) t1 λk t2=>Fc k (W g t2 P) (P (.bl false) t2)):W (EV f g) t P:=W_fAndV.mpr h
theorem Um(h:W f t λx t1=>W (toB x) t1 λk t2=>Fc k (P (.bl true) t2) (W g t2 P)):W (Kx f g) t P:=W_fOrV.mpr h
theorem aR(h:W f t λx t1=>W (toB x) t1 λk t2=>P (.bl (!k)) t2):W (JI f) t P:=W_fNotV.mpr h
theorem cI{f:M Bool}{h:M D}(w:W f t λk t1=>Fc k (W g t1 P) (W h t1 P)):W (fIf f g h) t P:=W_fIf.mpr w
theorem K2(h:Q [] t):W Ad t Q:=W_fNil.mpr h
theorem EX{g:M (List D)}(h:W f t λd t1=>W g t1 λds t2=>Q (d::ds) t2):W (Aa f g) t Q:=W_fCons.mpr h
def HU(n:Nat)(A:Prop):Prop:=n<=LIM/\A
variable{n:Nat}
theorem Bc{A:Prop}(h:n<=LIM)(a:A):HU n A:=⟨h,a⟩
theorem dg{f:M (List D)}(h:W f t λds t1=>HU ds.length (P (.tup ds) t1)):W (AN f) t P:=W_fTup.mpr h
theorem cR{f:M (List D)}(h:W f t λds t1=>HU ds.length (Q ds t1)):W (AK f) t Q:=W_fLst.mpr h
theorem aU{f:M (List D)}(h:W f t λds t1=>P (.lst ds) t1):W (Ax f) t P:=W_fPure.mpr h
theorem cX{f:M (List D)}(h:W f t λds t1=>P (.obj t1.S.length) ⟨t1.env,t1.S++[.lst ds]⟩):W (Dk f) t P:=by rw[Xu];exact h.mono λds t1 h=>W_newOb.mpr h
theorem Kf{g:Fn}{f:M (List D)}(h:W f t λds t1=>Wf g ds t1.S λr S'=>P r ⟨t1.env,S'⟩):W (Af g f) t P:=W_fCall.mpr h
theorem wB{f:M (List D)}{h:List D->M D}(w:W f t λds t1=>W (h ds) t1 P):W (fB f h) t P:=W_fB.mpr w
theorem wBF{f:M (List D)}{h:List D->M (List D)}(w:W f t λds t1=>W (h ds) t1 Q):W (fBF f h) t Q:=W_fBF.mpr w
theorem Ee{i:Nat}{d:D}(h:U () ⟨t.env.set i (vw d),t.S⟩):W (As i d) t U:=W_putV.mpr h
theorem Xf(h:U () t):W (DE []) t U:=W_putNil.mpr h
theorem Up{f:D->M Unit}{g:List D->M Unit}{d:D}(h:W (f d) t λ_ t1=>W (g ds) t1 U):W (AO f g (d::ds)) t U:=W_putCons.mpr h
theorem dh{g:List D->M Unit}(e:ds.length=n)(h:W (g ds) t U):W (unS n g (.tup ds)) t U:=W_unS_tup.mpr ⟨e,h⟩
theorem aD{fr:List Nat}{f:M (List D)}{st:D->M Unit}{tst:M Bool}{elt:M D}(h:W f t λds t1=>W (Bf st tst elt ds) ⟨cenv n fr t1.env,t1.S⟩ λxs t'=>HU xs.length (Q xs ⟨t1.env,t'.S⟩)):W (AU n fr f st tst elt) t Q:=W_fComp.mpr h
theorem Ga(h:B true t):W B4 t B:=W_tTru.mpr h
variable{i:Int}
theorem DH{d:D}(e:atI ds i=some d)(h:P d t):W (ixD (.tup ds) (.int i)) t P:=W_ix_tup.mpr ⟨d,e,h⟩
theorem AG{d:D}(e:atI ds i=some d)(h:P d t):W (ixD (.lst ds) (.int i)) t P:=W_ix_lst.mpr ⟨d,e,h⟩
theorem PR(h:P (.int ds.length) t):W (Az [.lst ds]) t P:=W_len_lst.mpr h
theorem UT(h:P (.int ds.length) t):W (Az [.tup ds]) t P:=W_len_tup.mpr h
theorem aN{ds:List Int}(h:P (.int ds.length) t):W (Az [.scr ds]) t P:=W_len_scr.mpr h
theorem US{k:Nat}(e:t.S[k]?=some (.lst ds))(h:P (.int ds.length) t):W (Az [.obj k]) t P:=W_len_obj.mpr ⟨ds,e,h⟩
variable{x:Str}
theorem PU(e:x.length<=LIM)(h:P (.int x.length) t):W (Az [.str x]) t P:=W_len_str.mpr ⟨e,h⟩
theorem cK{d:D}{m n:String}{b:Bool}(e:tyD d=some n)(e':FL n m=some b)(h:P (.bl b) t):W (CD [d,.ty m]) t P:=W_isi.mpr ⟨n,e,b,e',h⟩
theorem cJ{x:D}(h:P (.bl (Gf x)) t):W (isC x .non) t P:=W_is_non.mpr h
theorem Zw{x y:D}(h:W (isC x y) t λd t1=>W (toB d) t1 λb t2=>P (.bl (!b)) t2):W (GB x y) t P:=W_isNot.mpr h
variable{j:Int}
theorem aw(h:P (.int (i+j)) t):W (AC (.int i) (.int j)) t P:=W_add_int.mpr h
theorem a6(h:P (.int (i-j)) t):W (Bw (.int i) (.int j)) t P:=W_sub_int.mpr h
theorem cS(h:P (.bl (decide (i<j))) t):W (ltA (.int i) (.int j)) t P:=W_lt_int.mpr h
theorem cQ(h:P (.bl (decide (i<=j))) t):W (leA (.int i) (.int j)) t P:=W_le_int.mpr h
theorem cG(h:P (.bl (decide (j<i))) t):W (gtA (.int i) (.int j)) t P:=W_gt_int.mpr h
theorem cF(h:P (.bl (decide (j<=i))) t):W (geA (.int i) (.int j)) t P:=W_ge_int.mpr h
theorem Zs(h1:0<j)(h2:j<1073741824)(h:P (.int (i/j)) t):W (Fl (.int i) (.int j)) t P:=W_fdiv.mpr ⟨⟨h1,h2⟩,h⟩
theorem Ul(h1:0<j)(h:P (.int (i%j)) t):W (EA (.int i) (.int j)) t P:=W_mod.mpr ⟨h1,h⟩
theorem cZ(h1:LK i j=true)(h:P (.int (i ^ j.toNat)) t):W (Ig (.int i) (.int j)) t P:=W_pow.mpr ⟨h1,h⟩
theorem EY(h1:Fp i j=true)(h:P (.int (i*j)) t):W (FV (.int i) (.int j)) t P:=W_mul_int.mpr ⟨h1,h⟩
theorem ay{y:Str}(h:HU (x.length+y.length) (P (.str (x++y)) t)):W (AC (.str x) (.str y)) t P:=W_add_str.mpr h
theorem ax{x y:List D}(h:HU (x.length+y.length) (P (.lst (x++y)) t)):W (AC (.lst x) (.lst y)) t P:=W_add_lst.mpr h
theorem cz{x y:List D}(h:HU (x.length+y.length) (Q (x++y) t)):W (IY (.lst x) (.lst y)) t Q:=W_cat.mpr h
theorem cU(h:P (.int (if j<i then j else i)) t):W (FU [.int i,.int j]) t P:=W_min.mpr h
theorem cT(h:P (.int (if j > i then j else i)) t):W (KI [.int i,.int j]) t P:=W_max.mpr h
theorem aK{i:Bool}(h:P (.int (if i then 1 else 0)) t):W (HQ [.bl i]) t P:=W_int_bl.mpr h
theorem Uo(e:x.length=1)(h:P (.int (x.cps.getD 0 0:Nat)) t):W (Ib [.str x]) t P:=W_ord.mpr ⟨e,h⟩
theorem a8(h:P (.tup ds) t):W (KZ [.lst ds]) t P:=W_tup_lst.mpr h
theorem aO(h:Q ds t):W (FM [.lst ds]) t Q:=W_lst_lst.mpr h
theorem Uk{g:Bool->Bool}{y:Str}(h:P (.bl (g (x==y))) t):W (eqS g (.str x) (.str y)) t P:=W_eq_str.mpr h
theorem Zu{g:Bool->Bool}{x y:Int}(h:P (.bl (g (x==y))) t):W (eqS g (.int x) (.int y)) t P:=W_eq_int.mpr h
theorem da{lo hi:Option Int}(h:P (.lst (Bp ds lo hi)) t):W (DG (.lst ds) lo hi) t P:=W_sl_lst.mpr h
theorem db{lo hi:Option Int}(h:P (.tup (Bp ds lo hi)) t):W (DG (.tup ds) lo hi) t P:=W_sl_tup.mpr h
theorem wSl{l u:M (Option Int)}{h:D->Option Int->Option Int->M D}(w:W f t λx t1=>W l t1 λlo t2=>W u t2 λhi t3=>W (h x lo hi) t3 P):W (fSl f l u h) t P:=W_fSl.mpr w
variable{K:Option Int->T->Prop}
theorem wNo(h:K none t):W fNo t K:=W_fNo.mpr h
theorem cq(h:K (some i) t):W (asI (.int i)) t K:=W_asI.mpr h
theorem aT(h:W f t λx t1=>W (asI x) t1 K):W (Dm f) t K:=W_fPart.mpr h
theorem cL(h:W f t λx t1=>W (Eu x) t1 Q):W (Dj f) t Q:=W_fItA.mpr h
theorem cM(h:Q ds t):W (Eu (.lst ds)) t Q:=W_it_lst.mpr h
theorem cO(h:Q (x.cps.toList.map λc=>.str ⟨#[c]⟩) t):W (Eu (.str x)) t Q:=W_it_str.mpr h
theorem aV{f:M (List D)}(h:W f t λx t1=>W (KQ x) t1 Q):W (Bm f) t Q:=W_fRng1.mpr h
theorem aW{f:M (List D)}(h:W f t λx t1=>W (KR x) t1 Q):W (Ge f) t Q:=W_fRng2.mpr h
theorem DJ(e:B9 j=true)(h:Q (AH 0 j.toNat) t):W (KQ [.int j]) t Q:=W_rng1.mpr ⟨e,h⟩
theorem Uq(e:(B9 i&&B9 j)=true)(h:Q (AH i (j-i).toNat) t):W (KR [.int i,.int j]) t Q:=W_rng2.mpr ⟨e,h⟩
variable{xs:List D}
theorem aS{i:Nat}{h:List D->List D->Option (List D)}{g:M (List D)}(e:t.env[i]?=some (some (.own xs)))(w:W g t λds t1=>∃xs,t1.env[i]?=some (some (.own xs))/\∃ys,h xs ds=some ys/\R .next ⟨t1.env.set i (some (.own ys)),t1.S⟩):W (ownM i h g) t R:=W_ownM.mpr ⟨⟨xs,e⟩,w⟩
theorem ck{i:Nat}{d:D}{A:List D->Prop}(e:t1.env[i]?=some (some (.own xs)))(w:HU (xs.length+1) (A (xs++[d]))):∃xs,t1.env[i]?=some (some (.own xs))/\∃ys,Cd xs [d]=some ys/\A ys:=
 ⟨xs,e,_,app1_one.mpr ⟨w.1,rfl⟩,w.2⟩
theorem de{d:D}(h:W f t λo t1=>W g t1 λi t2=>W (F5 o i d) t2 U):W (stD f g d) t U:=W_stD.mpr h
theorem aZ{k:Nat}{d:D}(e:t.S[k]?=some (.lst xs))(e':ixN xs.length j=some n)(h:U () ⟨t.env,t.S.set k (.lst (xs.set n d))⟩):W (F5 (.obj k) (.int j) d) t U:=W_stOb.mpr ⟨xs,e,n,e',h⟩
end
section
variable{i:Nat}{g:Fn}{d':D}
section
variable{t:T}{P:D->T->Prop}{B:Bool->T->Prop}{Q:List D->T->Prop}
theorem bc{n:Int}{ds:List D}{d:D}(e:t.env[i]?=some (vw (.tup ds)))(a:atI ds n=some d)(h:P d t):W (Ac (Ab i) (ee n) ixD) t P:=K1 (EC e (wC (DH a h)))
theorem aM{x y:Str}{ds:List D}{g:Bool->Bool}(e:t.env[i]?=some (vw (.tup (.str y::ds))))(h:B (g (y==x)) t):W (Aj (Ac (Ac (Ab i) (ee 0) ixD) (fC (.str x)) (eqS g))) t B:=PY (K1 (K1 (EC e (wC (DH Jw (wC (Uk (PX h))))))))
theorem ZB{x y:Str}{g:Bool->Bool}(e:t.env[i]?=some (vw (.str y)))(h:B (g (y==x)) t):W (Aj (Ac (Ab i) (fC (.str x)) (eqS g))) t B:=PY (K1 (EC e (wC (Uk (PX h)))))
theorem ZA{x y:Int}{g:Bool->Bool}(e:t.env[i]?=some (vw (.int y)))(h:B (g (y==x)) t):W (Aj (Ac (Ab i) (ee x) (eqS g))) t B:=PY (K1 (EC e (wC (Zu (PX h)))))
theorem Xb{d:D}(e:t.env[i]?=some (vw d))(h:Wf g [d] t.S λr S'=>P r ⟨t.env,S'⟩):W (Af g (Aa (Ab i) Ad)) t P:=Kf (EX (EC e (K2 h)))
theorem Xc{j:Nat}{d:D}(e:t.env[i]?=some (vw d))(e':t.env[j]?=some (vw d'))(h:Wf g [d,d'] t.S λr S'=>P r ⟨t.env,S'⟩):W (Af g (Aa (Ab i) (Aa (Ab j) Ad))) t P:=Kf (EX (EC e (EX (EC e' (K2 h)))))
theorem Xe{d:D}(e:t.env[i]?=some (vw d))(h:Wf g [d,d'] t.S λr S'=>P r ⟨t.env,S'⟩):W (Af g (Aa (Ab i) (Aa (fC d') Ad))) t P:=Kf (EX (EC e (EX (wC (K2 h)))))
theorem Xd{j k:Nat}{d d'':D}(e:t.env[i]?=some (vw d))(e':t.env[j]?=some (vw d'))(e'':t.env[k]?=some (vw d''))(h:Wf g [d,d',d''] t.S λr S'=>P r ⟨t.env,S'⟩):W (Af g (Aa (Ab i) (Aa (Ab j) (Aa (Ab k) Ad)))) t P:=Kf (EX (EC e (EX (EC e' (EX (EC e'' (K2 h)))))))
end
end
end L2
namespace LW
open PySem L2
set_option compiler.extract_closed false
local macro_rules | `(tactic| clear 31 $t*)=>`(tactic| with_reducible first $[| refine $t ?_]*)
local macro_rules | `(tactic| clear 32 $t*)=>`(tactic| ((with_reducible first $[| refine' $t ?wv ?_]*);(case wv=>exact rfl)))
local macro_rules | `(tactic| clear 33 $t*)=>`(tactic| ((with_reducible first $[| refine' $t ?wv ?_]*);(case wv=>decide)))
local macro_rules | `(tactic| walk_at"w1")=>`(tactic| first
 |clear 32 aM ZB Xb
 |clear 32 ZA Xe
 |((with_reducible refine' bc ?wv ?wu ?_);(case wv=>exact rfl);(case wu=>first|exact rfl|exact Jw|exact Uw|exact Ux))
 |((with_reducible refine' Xc ?wv ?wu ?_);(case wv=>exact rfl);(case wu=>exact rfl))
 |((with_reducible refine' Xd ?wv ?wu ?wt ?_);(case wv=>exact rfl);(case wu=>exact rfl);(case wt=>exact rfl))
 |clear 31 c7 CK M5 c8 K1 wC EX K2 wIf PY PX c6 Kf Uk Zu aw a6 aY wB wBF aU dg cR cX cy cE cj wOr cW az Um aR cI Zr wUn cJ Zw cS cQ cG cF PR UT aN cU cT aK a8 aO ay ax cz wSl wNo aT cq da db cL cM cO aV aW Ee Xf Up aD Ga cY Cy aE de
 |clear 32 EC EL aS ck
 |clear 32 CW bf dh
 |((with_reducible first|refine' DH ?wv ?_|refine' AG ?wv ?_);(case wv=>first|exact rfl|exact Jw|exact Uw|exact Ux))
 |((with_reducible refine Bc ?wv ?_);(case wv=>exact ud0 rfl))
 |((with_reducible refine' cK ?wv ?wu ?_);(case wv=>exact rfl);(case wu=>exact rfl))
 |((with_reducible refine Zs ?wv ?wu ?_);(case wv=>decide);(case wu=>decide))
 |clear 33 cZ Ul DJ Uq)
local macro_rules | `(tactic| right)=>`(tactic| repeat (walk_at"w1"))
structure DeckAt(k c:Nat)(S:List Ob):Prop where
 ne:k≠c
 at_:∃(cells:List Int) (par pos:Int),S[k]?=some (.lst [.obj c,.int par,.int pos])/\S[c]?=some (.lst (cells.map .int))/\cells≠[]/\0<=pos
def dM(k c:Nat)(S S':List Ob):Prop:=S'.length=S.length/\∀j:Nat,j≠k->j≠c->S'[j]?=S[j]?
variable{n:Nat}
theorem BA{i:Int}(h0:0<=i)(h1:i<n):ixN n i=some i.toNat:=by simp[ixN,h0,h1]
variable{S:List Ob}{o:Ob}
theorem IA{k:Nat}{o':Ob}(h:S[k]?=some o):(S.set k o')[k]?=some o':=by
 obtain⟨hl,_⟩:=ua8.mp h;exact ub8 hl
inductive Sh where
 |nothing|number (lo hi:Int)|text (m:Int)|list (s:Sh) (m:Int)|pair (s r:Sh)|choice (ss:List Sh)
mutual
noncomputable def Sh.d:Sh->D
 |.nothing=>.tup [.str "nothing"]
 |.number lo hi=>.tup [.str "number",.int lo,.int hi]
 |.text m=>.tup [.str "text",.int m]
 |.list s m=>.tup [.str "list",s.d,.int m]
 |.pair s r=>.tup [.str "pair",s.d,r.d]
 |.choice ss=>.tup [.str "choice",.tup (shD ss)]
noncomputable def shD:List Sh->List D
 |[]=>[]
 |s::r=>s.d::shD r
end
mutual
noncomputable def Sh.depth:Sh->Nat
 |.nothing=>1
 |.number _ _=>1
 |.text _=>1
 |.list s _=>s.depth+1
 |.pair s r=>max s.depth r.depth+1
 |.choice ss=>EW ss+1
noncomputable def EW:List Sh->Nat
 |[]=>0
 |s::r=>max s.depth (EW r)
end
theorem DS:∀ss:List Sh,(shD ss).length=ss.length
 |[]=>rfl
 |s::r=>by simp[shD,DS r]
theorem FA:∀(ss:List Sh) (k:Nat),(shD ss)[k]?=(ss[k]?).map Sh.d
 |[],k=>by simp[shD]
 |s::r,0=>by simp[shD]
 |s::r,k+1=>by simp[shD,FA r k]
theorem B1:∀(ss:List Sh) (k:Nat) (s:Sh),ss[k]?=some s->s.depth<=EW ss
 |[],k,s,h=>by simp at h
 |s::r,0,s',h=>by simp at h;subst h;simp[EW];lia
 |s::r,k+1,s',h=>by
   have:=B1 r k s' (by simpa using h);simp[EW];lia
theorem Sh.depth_pos(s:Sh):1<=s.depth:=by cases s<;>simp[Sh.depth]
noncomputable def Bt(n:Nat):Bool:=decide (32<=n)&&decide (n<=126)&&decide (n≠37)
noncomputable def HR:Str->Bool:=λo=>o==("of":Str)
mutual
def Ai:Sh->D->Bool
 |.nothing,d=>Gf d
 |.number lo hi,d=>match d with
   |.int i=>decide (lo<=i)&&decide (i<=hi)
   |_=>false
 |.text m,d=>match d with
   |.str x=>decide ((x.length:Int)<=m)&&x.cps.toList.all Bt
   |_=>false
 |.list s m,d=>match d with
   |.lst ds=>decide ((ds.length:Int)<=m)&&ds.all λe=>Ai s e
   |_=>false
 |.pair s r,d=>match d with
   |.tup [a,b]=>Ai s a&&Ai r b
   |_=>false
 |.choice ss,d=>match d with
   |.tup [.str o,.int k,x]=>HR o&&(decide (0<=k)&&decide (k<ss.length))&&JL ss k.toNat x
   |_=>false
def JL:List Sh->Nat->D->Bool
 |[],_,_=>false
 |s::_,0,d=>Ai s d
 |_::r,k+1,d=>JL r k d
end
theorem BY:∀(ss:List Sh) (k:Nat) (s:Sh) (d:D),ss[k]?=some s->JL ss k d=Ai s d
 |[],k,s,d,h=>by simp at h
 |s::r,0,s',d,h=>by simp at h;subst h;simp[JL]
 |s::r,k+1,s',d,h=>by rw[JL];exact BY r k s' d (by simpa using h)
mutual
noncomputable def okD:D->Bool
 |.str x=>decide (x.length<=90000)
 |.tup xs=>oks xs
 |.lst xs=>oks xs
 |.obj _=>false
 |.scr _=>false
 |.exc _ _=>false
 |.ty _=>false
 |_=>true
noncomputable def oks:List D->Bool
 |[]=>true
 |d::r=>okD d&&oks r
end
theorem IF:∀{xs:List D},oks xs=true->∀d∈xs,okD d=true
 |x::r,h,d,m=>by
   rw[oks,uh6] at h;rcases ul2.mp m with z|z
   .subst z;exact h.1
   .exact IF h.2 d z
abbrev Pure1(f:Fn)(ds:List D)(r:D):Prop:=∀S,Wf f ds S λv S'=>v=r/\S'=S
variable{ds:List D}
theorem Pure1.use{f:Fn}{r:D}(h:Pure1 f ds r){S:List Ob}{P:D->List Ob->Prop}(p:P r S):Wf f ds S P:=(h S).mono λ_ _ ⟨e1,e2⟩=>by subst e1 e2;exact p
noncomputable def QL:D->Bool
 |.int _=>true
 |_=>false
theorem Mu{d:D}(h:okD d=true):Pure1 (fnOf 1 1 Gq) [d] (.bl (QL d)):=by
 intro S;refine Am rfl ?_;unfold Gq
 cases d<;>first|(simp[okD] at h;done)|(right;exact⟨rfl,rfl⟩)
noncomputable def EU(lo hi:Int):D->Bool
 |.int i=>decide (lo<=i)&&decide (i<=hi)
 |_=>false
def Nw(f:Fn):Prop:=∀d,okD d=true->Pure1 f [d] (.bl (QL d))
def FE(f:Fn):Prop:=∀d lo hi,okD d=true->Pure1 f [d,.int lo,.int hi] (.bl (EU lo hi d))
variable{c:Fn}
theorem Sk(hc:Nw c):FE (fnOf 3 3 (DC c)):=by
 intro d lo hi h S;refine Am rfl ?_;unfold DC;right;refine(hc d h).use ?_
 cases d with
 |int i=>
   right;refine Ev (λe=>?_) λe=>?_
   .right;exact⟨by simp only[EU,e,ul7],rfl⟩
   .exact⟨by simp only[EU,e,uk6],rfl⟩
 |_=>right;exact⟨rfl,rfl⟩
def Js(f:Fn):Prop:=∀n:Nat,Pure1 f [.int n] (.bl (Bt n))
theorem O8:Js (fnOf 1 1 HV):=by
 intro n S;refine Am rfl ?_;unfold HV;right;have c1:decide ((32:Int)<=n)=decide (32<=n):=decide_eq_decide.mpr (by lia);have c2:decide ((n:Int)<=126)=decide (n<=126):=decide_eq_decide.mpr (by lia);have c3:(!((n:Int)==37))=decide (n≠37):=by
  by_cases h:n=37
  .subst h;rfl
  .have:¬((n:Int)=37):=by lia
   simp[h,this]
 rw[c1];refine Ev (λe=>?_) λe=>?_
 .right;rw[c2];refine Ev (λe'=>?_) λe'=>?_
  .right;exact⟨by simp only[Bt,e,e',c3,ul7],rfl⟩
  .exact⟨by simp only[Bt,e,e',uk6,uk8],rfl⟩
 .right;exact⟨by simp only[Bt,e,uk6],rfl⟩
def LV(f:Fn):Prop:=∀m d,okD d=true->Pure1 f [(Sh.text m).d,d] (.bl (Ai (.text m) d))
theorem Mr(hc:Js c):LV (fnOf 2 3 (Gp c)):=by
 intro m d h S;refine Am rfl ?_;unfold Gp;rw[Sh.d]
 cases d with
 |str x=>
   have hx:x.length<=LIM:=um3 (by simpa[okD] using h) (show 90000<=LIM by decide);right;refine PU hx ?_;right;refine Ev (λe=>?_) λe=>?_
   .right;have:¬((x.length:Int)<=m):=by have:=uh0 e;lia
    exact⟨by simp[Ai,this],rfl⟩
   .right;have e':(x.length:Int)<=m:=by have:=of_decide_eq_false e;lia
    refine DL (λr t=>t.S=S/\∃cs:List Nat,r=cs.map (λc=>D.str ⟨#[c]⟩)/\(x.cps.toList.all Bt=cs.all Bt)/\∃z,t.env=[vw (.tup [.str "text",.int m]),vw (.str x),z]) _ _ ⟨rfl,x.cps.toList,rfl,rfl,_,rfl⟩ ?_ ?_
    .rintro d r t ⟨hs,cs,hr,hall,z,ht⟩ _;clear 5 t env S2;subst hs ht
     cases cs with
     |nil=>simp at hr
     |cons c cs=>
       simp only[ul3,List.cons.injEq] at hr;clear 5 hr rfl rfl;right;refine Uo rfl ?_;right;refine(hc c).use ?_;right;refine Ev (λq=>?_) λq=>?_
       .right;have q':Bt c=false:=by simpa using q
        refine⟨?_,rfl⟩;simp only[Ai,hall,ul6,q',uk6,uk8]
       .right;have q':Bt c=true:=by simpa using q
        exact⟨rfl,cs,rfl,by rw[hall,ul6,q',ul7],_,rfl⟩
    .rintro t ⟨hs,cs,hr,hall,z,ht⟩;clear 5 t env S2;subst hs ht;have:cs=[]:=by cases cs with|nil=>rfl|cons _ _=>simp at hr
     subst this;right;exact⟨by simp[Ai,e',hall],rfl⟩
 |obj _=>simp[okD] at h
 |scr _=>simp[okD] at h
 |ty _=>simp[okD] at h
 |exc _ _=>simp[okD] at h
 |_=>right;exact⟨by simp[Ai],rfl⟩
def Gv(f:Fn)(n:Nat):Prop:=∀s:Sh,s.depth<=n->∀d,okD d=true->Pure1 f [s.d,d] (.bl (Ai s d))
def P4(f:Fn)(n:Nat):Prop:=∀(s:Sh) (m:Int),s.depth<=n->∀d,okD d=true->Pure1 f [(Sh.list s m).d,d] (.bl (Ai (.list s m) d))
theorem Mp(hc:Gv c n):P4 (fnOf 2 3 (Gn c)) n:=by
 intro s m hs d h S;refine Am rfl ?_;unfold Gn;rw[Sh.d]
 cases d with
 |lst ds=>
   have hx:∀d∈ds,okD d=true:=IF (by simpa[okD] using h);right;refine Ev (λe=>?_) λe=>?_
   .right;have:¬((ds.length:Int)<=m):=by have:=uh0 e;lia
    exact⟨by simp[Ai,this],rfl⟩
   .right;have e':(ds.length:Int)<=m:=by have:=of_decide_eq_false e;lia
    refine DL (λr t=>t.S=S/\(ds.all (λe=>Ai s e)=r.all λe=>Ai s e)/\∃z,t.env=[vw (.tup [.str "list",s.d,.int m]),vw (.lst ds),z]) _ _ ⟨rfl,rfl,_,rfl⟩ ?_ ?_
    .rintro d r t ⟨hS,hall,z,ht⟩ hm;clear 5 t env S2;subst hS ht;right;refine(hc s hs d (hx d hm)).use ?_;right;refine Ev (λq=>?_) λq=>?_
     .right;have q':Ai s d=false:=by simpa using q
      refine⟨?_,rfl⟩;simp only[Ai,hall,ul6,q',uk6,uk8]
     .right;have q':Ai s d=true:=by simpa using q
      exact⟨rfl,by rw[hall,ul6,q',ul7],_,rfl⟩
    .rintro t ⟨hS,hall,z,ht⟩;clear 5 t env S2;subst hS ht;right;exact⟨by simp only[Ai,e',decide_true,hall,List.all_nil,ul7],rfl⟩
 |obj _=>simp[okD] at h
 |scr _=>simp[okD] at h
 |ty _=>simp[okD] at h
 |exc _ _=>simp[okD] at h
 |_=>right;exact⟨by simp[Ai],rfl⟩
def P8(f:Fn)(n:Nat):Prop:=∀(s r:Sh),s.depth<=n->r.depth<=n->∀d,okD d=true->Pure1 f [(Sh.pair s r).d,d] (.bl (Ai (.pair s r) d))
theorem Mq(hc:Gv c n):P8 (fnOf 2 2 (Go c)) n:=by
 intro s r hs hr d h S;refine Am rfl ?_;unfold Go;rw[Sh.d]
 cases d with
 |tup ds=>
   have hx:∀d∈ds,okD d=true:=IF (by simpa[okD] using h);right
   match ds,hx with
   |[],_=>right;exact⟨by simp[Ai],rfl⟩
   |[a],_=>right;exact⟨by simp[Ai],rfl⟩
   |[a,b],hx=>
     right;refine(hc s hs a (hx a (by simp))).use ?_;right;refine Ev (λe=>?_) λe=>?_
     .right;refine(hc r hr b (hx b (by simp))).use ?_;exact⟨by simp only[Ai,e,ul7],rfl⟩
     .exact⟨by simp only[Ai,e,uk6],rfl⟩
   |a::b::e::l,_=>
     refine EL ?_ ?_
     .show(!(((a::b::e::l).length:Int)==2))=true;simp;lia
     right;exact⟨by simp[Ai],rfl⟩
 |obj _=>simp[okD] at h
 |scr _=>simp[okD] at h
 |ty _=>simp[okD] at h
 |exc _ _=>simp[okD] at h
 |_=>right;exact⟨by simp[Ai],rfl⟩
def LQ(f:Fn)(n:Nat):Prop:=∀(ss:List Sh),EW ss<=n->∀d,okD d=true->Pure1 f [(Sh.choice ss).d,d] (.bl (Ai (.choice ss) d))
theorem KA{c':Fn}(hc:Gv c n)(hw:FE c'):LQ (fnOf 2 2 (Fe c c')) n:=by
 intro ss hs d h S;refine Am rfl ?_;unfold Fe;rw[Sh.d]
 cases d with
 |tup ds=>
   have hx:∀d∈ds,okD d=true:=IF (by simpa[okD] using h);right
   match ds,hx with
   |[],_=>right;exact⟨by simp[Ai],rfl⟩
   |[a],_=>right;exact⟨by simp[Ai],rfl⟩
   |[a,b],_=>right;exact⟨by simp[Ai],rfl⟩
   |[a,b,e],hx=>
     right;have ha:=hx a (by simp)
     cases a with
     |str o=>
       right;refine Ev (λq=>?_) λq=>?_
       .right;have q':HR o=false:=by simpa[HR] using q
        refine⟨?_,rfl⟩
        cases b<;>simp only[Ai,q',uk6]
       .right;have q':HR o=true:=by simpa[HR] using q
        refine(hw b 0 _ (hx b (by simp))).use ?_;right
        cases b with
        |int k=>
          refine Ev (λq=>?_) λq=>?_
          .right;refine⟨?_,rfl⟩;have:(decide (0<=k)&&decide (k<(ss.length:Int)))=false:=by
            have q2:k<0\/((shD ss).length:Int)-1<k:=by simpa[EU] using q
            rw[DS] at q2;simp;lia
           simp only[Ai,this,uk6,uk8]
          .have q2:0<=k/\k<=((shD ss).length:Int)-1:=by simpa[EU] using q
           have q3:=q2;rw[DS] at q3;have hk:k.toNat<ss.length:=by lia
           have e1:ss[k.toNat]?=some ss[k.toNat]:=ub2 hk;have e2:atI (shD ss) k=some (ss[k.toNat]).d:=by
            unfold atI;rw[DS,BA q3.1 (by lia)];simp[FA,e1]
           right;refine DH e2 ?_;right;refine(hc _ (um3 (B1 ss _ _ e1) hs) e (hx e (by simp))).use ?_;refine⟨?_,rfl⟩;have:(decide (0<=k)&&decide (k<(ss.length:Int)))=true:=by simp;lia
           simp only[Ai,q',this,ul7,BY ss _ _ e e1]
        |_=>
          right;exact⟨by simp[Ai],rfl⟩
     |obj _=>simp[okD] at ha
     |scr _=>simp[okD] at ha
     |ty _=>simp[okD] at ha
     |exc _ _=>simp[okD] at ha
     |_=>right;exact⟨by simp[Ai],rfl⟩
   |a::b::e::f::l,_=>
     refine EL ?_ ?_
     .show(!(((a::b::e::f::l).length:Int)==3))=true;simp;lia
     right;exact⟨by simp[Ai],rfl⟩
 |obj _=>simp[okD] at h
 |scr _=>simp[okD] at h
 |ty _=>simp[okD] at h
 |exc _ _=>simp[okD] at h
 |_=>right;exact⟨by simp[Ai],rfl⟩
variable{cc cp cl ct cw:Fn}
theorem Ve(h1:LQ cc n)(h2:P8 cp n)(h3:P4 cl n)(h4:LV ct)(h5:FE cw):Gv (fnOf 2 3 (MB cc cp cl ct cw)) (n+1):=by
 intro s hs d h S;refine Am rfl ?_;unfold MB
 cases s with
 |nothing=>
   rw[Sh.d];right;exact⟨by rw[Ai],rfl⟩
 |number lo hi=>
   rw[Sh.d];right;refine(h5 d lo hi h).use ⟨?_,rfl⟩
   cases d<;>simp[Ai,EU]
 |text m=>
   rw[Sh.d];right;exact(h4 m d h).use ⟨rfl,rfl⟩
 |list s m=>
   rw[Sh.depth] at hs;have q:=h3 s m (by lia) d h;rw[Sh.d] at q⊢;right;exact q.use ⟨rfl,rfl⟩
 |pair s r=>
   rw[Sh.depth] at hs;have q:=h2 s r (by lia) (by lia) d h;rw[Sh.d] at q⊢;right;exact q.use ⟨rfl,rfl⟩
 |choice ss=>
   rw[Sh.depth] at hs;have q:=h1 ss (by lia) d h;rw[Sh.d] at q⊢;right;exact q.use ⟨rfl,rfl⟩
theorem DA(x:Str):x.length=x.cps.toList.length:=by simp[Str.length]
theorem K4(x y:Str):(x++y).cps.toList=x.cps.toList++y.cps.toList:=by
 show(x.cps++y.cps).toList=_;simp
theorem Hz{f:D->D}{fr:List (Option Sl)}{elt:M D}{z:Option Sl}(h:∀d∈ds,W elt ⟨vw d::fr,S⟩ λx t'=>x=f d/\t'=⟨vw d::fr,S⟩) :
 W (Bf (As 0) B4 elt ds) ⟨z::fr,S⟩ λxs t'=>xs=ds.map f/\t'.S=S:=by
 refine(LX (P:=λxs t'=>xs=ds.map f/\t'.S=S) (λacc r t=>acc++r.map f=ds.map f/\∃z,t=⟨z::fr,S⟩) ds [] _ ⟨rfl,z,rfl⟩ ?_ ?_).mono λxs t' h=>h
 .rintro acc d r t ⟨h1,z,rfl⟩ hm;refine Ee (Ga ?_);rw[gW rfl];refine(h d hm).mono λx t' z9=>?_;clear 5 z9 e1 e2;subst e1 e2;exact⟨by rw[ug4];exact h1,_,rfl⟩
 .rintro acc t ⟨h1,z,rfl⟩;exact⟨by simpa using h1,rfl⟩
mutual
noncomputable def sz:D->Nat
 |.tup xs=>szs xs+1
 |.lst xs=>szs xs+1
 |_=>1
noncomputable def szs:List D->Nat
 |[]=>0
 |d::r=>sz d+szs r
end
variable{x:Str}
theorem W3{y:Str}(h:x.cps.toList=y.cps.toList):x=y:=by
 cases x;cases y
 congr
 exact Array.toList_inj.mp h
mutual
noncomputable def wf:Sh->Bool
 |.nothing=>true
 |.number lo hi=>decide (-1000000000000000000<lo)&&decide (lo<=hi)&&decide (hi<1000000000000000000)
 |.text m=>decide (0<=m)&&decide (m<=250)
 |.list s m=>decide (0<=m)&&decide (m<=250)&&wf s
 |.pair s r=>wf s&&wf r
 |.choice ss=>decide (1<=ss.length)&&decide (ss.length<=9)&&wfs ss
noncomputable def wfs:List Sh->Bool
 |[]=>true
 |s::r=>wf s&&wfs r
end
mutual
noncomputable def cnt:Sh->Nat
 |.list s _=>cnt s+1
 |.pair s r=>cnt s+cnt r+1
 |.choice ss=>XD ss+1
 |_=>1
noncomputable def XD:List Sh->Nat
 |[]=>0
 |s::r=>cnt s+XD r
end
theorem CJ:∀{ss:List Sh},wfs ss=true->∀s∈ss,wf s=true
 |x::r,h,s,m=>by
   rw[wfs,uh6] at h;rcases ul2.mp m with z|z
   .subst z;exact h.1
   .exact CJ h.2 s z
theorem Sg:∀{ss:List Sh},(∀s∈ss,wf s=true)->wfs ss=true
 |[],_=>rfl
 |x::r,h=>by rw[wfs,h x uf1,Sg λs m=>h s (ud6 _ m)];rfl
theorem M7:∀ss:List Sh,shD ss=ss.map Sh.d
 |[]=>rfl
 |s::r=>by rw[shD,M7 r];rfl
theorem Il:∀{ss:List Sh}{s:Sh},s∈ss->s.depth<=EW ss
 |x::r,s,m=>by
   rw[EW];rcases ul2.mp m with z|z
   .subst z;lia
   .have:=Il z;lia
variable{xs:List D}
theorem Ic{i:Int}(h0:0<=i)(h1:i<xs.length){p:D->Prop}(h:∀d∈xs,p d):∃d,atI xs i=some d/\p d:=by
 obtain⟨d,e,m,_⟩:=NB h0 h1;exact⟨d,e,h d m⟩
def OG(k c l:Nat)(S S':List Ob):Prop:=S'.length=S.length/\∀j:Nat,j≠k->j≠c->j≠l->S'[j]?=S[j]?
noncomputable def PF(deep:Int):Int:=if deep<2 then 0 else 2*deep+4
def bd(deep x:Int):Int:=if deep<2 then 1 else max x 1+PF deep-(if deep+1<=x then 1 else 0)
def tb(deep y i:Int):Int:=if deep=2 then i else if i=0 then 0 else y+PF (deep-1)+i-1-(if deep<=y then 1 else 0)
structure ShapeRes(k c l:Nat)(S:List Ob)(deep x:Int)(s:Sh)(S':List Ob):Prop where
 w:wf s=true
 dep:(s.depth:Int)<=max deep 1
 lft:S'[l]?=some (.lst [.int (x-cnt s)])
 one:x<=1->cnt s=1
 few:(cnt s:Int)<=max x 1+PF deep
 deck:DeckAt k c S'
 kp:OG k c l S S'
 few2:(cnt s:Int)<=bd deep x
noncomputable def signs94:Str:=" !\"#$&'()*+,-./0123456789:;<=>?@ABCDEFGHIJKLMNOPQRSTUVWXYZ[\\]^_`abcdefghijklmnopqrstuvwxyz{|}~"
theorem Ud{i:Int}(h0:0<=i)(h1:i<94):∃n,atI signs94.cps.toList i=some n/\Bt n=true:=by
 have hl:signs94.cps.toList.length=94:=by decide +kernel
 have ha:signs94.cps.toList.all Bt=true:=by decide +kernel
 obtain⟨n,e,m,_⟩:=NB (xs:=signs94.cps.toList) h0 (by rw[hl];exact h1);exact⟨n,e,ui1.mp ha n m⟩
structure Sep(ks:List (Nat×Nat)):Prop where
 sep:∀p∈ks,∀q∈ks,p=q\/(q.1≠p.1/\q.1≠p.2/\q.2≠p.1/\q.2≠p.2)
mutual
noncomputable def dpt:D->Nat
 |.lst ds=>SM ds+1
 |.tup ds=>SM ds+1
 |_=>1
noncomputable def SM:List D->Nat
 |[]=>0
 |d::r=>max (dpt d) (SM r)
end
mutual
noncomputable def smD:D->Bool
 |.str x=>decide (x.length<=300)
 |.int i=>decide (-1000000000000000000000000<i)&&decide (i<1000000000000000000000000)
 |.tup xs=>decide (xs.length<=300)&&sms xs
 |.lst xs=>decide (xs.length<=300)&&sms xs
 |.obj _=>false
 |.scr _=>false
 |.ty _=>false
 |.exc _ _=>false
 |_=>true
noncomputable def sms:List D->Bool
 |[]=>true
 |d::r=>smD d&&sms r
end
theorem EZ{f:D->D->Option Bool}:∀{xs:List D},(∀d∈xs,f d d=some true)->Dx f xs xs=some true
 |[],_=>rfl
 |x::r,h=>by
   rw[Dx,h x uf1,EZ λd m=>h d (ud6 _ m)];rfl
theorem M8:∀{ss:List Sh}{d:D},d∈shD ss->∃s∈ss,d=s.d
 |s::r,d,h=>by
   rw[shD] at h;rcases ul2.mp h with rfl|h
   .exact⟨s,uf1,rfl⟩
   .clear 5(M8 h)s' h1 h2;exact⟨s',ud6 _ h1,h2⟩
variable{f:M D}{t:T}{P:D->T->Prop}
theorem aL{g:M (List D)}(h:W f t λo t1=>W g t1 λas t2=>∃z ds ys,o=.str z/\as=[.lst ds]/\F6 ds=some ys/\(z.length<=8/\ys.length<=1048576)/\P (.str (Txt.join z ys)) t2):W (joinM f g) t P:=by
 refine Cy (h.mono λo t1 h1=>Cy (h1.mono λas t2 h2=>?_));clear 5 h2 z ds ys rfl rfl e hl p;refine⟨_,_,?_,p⟩;simp only[e];rw[gW hl]
theorem Io:∀ns:List Nat,F6 (ns.map λn=>D.str ⟨#[n]⟩)=some (ns.map λn=>(⟨#[n]⟩:Str))
 |[]=>rfl
 |n::r=>by
   rw[ul3,F6,gW (ud0 rfl),Io r];rfl
theorem JO:∀(ns:List Nat) (acc:Array Nat),((ns.map λn=>(⟨#[n]⟩:Str)).foldl (λacc p=>acc++(Str.ofString "").cps++p.cps) acc).toList=acc.toList++ns
 |[],acc=>by simp
 |n::r,acc=>by
   have e:(Str.ofString "").cps=#[]:=by decide +kernel
   rw[ul3,uj7,JO r,e];simp
theorem JR(ns:List Nat):(Txt.join (Str.ofString "") (ns.map λn=>(⟨#[n]⟩:Str))).cps.toList=ns:=by
 show(List.foldl (λ(acc:Array Nat) (p:Str)=>acc++(Str.ofString "").cps++p.cps) (((ns.map λn=>(⟨#[n]⟩:Str)).headD Str.empty).cps) ((ns.map λn=>(⟨#[n]⟩:Str)).drop 1)).toList=ns
 cases ns with
 |nil=>rfl
 |cons n r=>
   rw[ul3,List.drop_one,List.tail_cons,JO];rfl
structure ValueRes(k c l:Nat)(S:List Ob)(s:Sh)(r:D)(S':List Ob):Prop where
 fit:Ai s r=true
 lft:∃a b:Int,S'[l]?=some (.lst [.int a,.int b])
 deck:DeckAt k c S'
 kp:OG k c l S S'
theorem IP{f:M (List D)}{P:Out->T->Prop}(h:W f t λds t1=>P (.ret (.lst ds)) t1):W (Hj f) t P:=W_bnd.mpr (h.mono λ_ _ p=>W_ret.mpr p)
theorem GM{g:Fn}{f:M (List D)}{P:List D->T->Prop}(h:W f t λds t1=>Wf g ds t1.S λr S'=>∃rs,r=.lst rs/\P rs ⟨t1.env,S'⟩):W (D2 g f) t P:=by
 refine W_bnd.mpr (h.mono λds t1 z9=>?_);clear 5 z9 r S' e rs er p;subst er;exact⟨rs,⟨t1.env,S'⟩,by simp only[e],p⟩
variable{i:Nat}
theorem Xj{P:Out->T->Prop}(e:t.env[i]?=some (some (.own xs)))(h:P (.ret (.lst xs)) ⟨t.env.set i none,t.S⟩):W (GG i) t P:=⟨_,_,by simp only[GG,e],h⟩
theorem aB{i:Int}(h:P (.int (Builtin.Int.intBits i:Nat)) t):W (Jx (.int i)) t P:=⟨_,_,rfl,h⟩
theorem c9{i j:Int}(h0:0<=j)(h:P (.int (i/2 ^ j.toNat)) t):W (M9 (.int i) (.int j)) t P:=⟨_,_,by simp[M9,i2C,h0],h⟩
variable{ys:List D}{t1:T}
theorem cD{A:List D->Prop}(e:t1.env[i]?=some (some (.own xs)))(l:xs.length+ys.length<=LIM)(w:A (xs++ys)):∃xs,t1.env[i]?=some (some (.own xs))/\∃zs,Fb xs [.lst ys]=some zs/\A zs:=
 ⟨xs,e,xs++ys,by simp[Fb,l],w⟩
theorem FD{f:M Bool}{b:M Out}{P:Out->T->Prop}(I:Nat->T->Prop)(turn:∀n t,I n t->W f t λk t1=>match k with
 |true=>∃m,n=m+1/\W b t1 λo t2=>match o with
   |.next=>I m t2
   |.cont=>I m t2
   |.brk=>P .next t2
   |.ret x=>P (.ret x) t2
 |false=>P .next t1):∀(fuel n:Nat) (t:T),n<fuel->I n t->W (Df f b fuel) t P
 |0,n,t,h,_=>absurd h (Nat.not_lt_zero _)
 |fuel+1,n,t,h,i=>by
   clear 5(turn n t i)k t1 e1 p
   cases k with
   |false=>exact⟨_,_,by simp only[Df,e1],p⟩
   |true=>
     clear 5 p m rfl o t2 e2 p
     cases o with
     |next=>clear 5(FD I turn fuel m t2 (by lia) p)o t' e' p;exact⟨o,t',by simp only[Df,e1,e2];exact e',p⟩
     |cont=>clear 5(FD I turn fuel m t2 (by lia) p)o t' e' p;exact⟨o,t',by simp only[Df,e1,e2];exact e',p⟩
     |brk=>exact⟨_,_,by simp only[Df,e1,e2],p⟩
     |ret x=>exact⟨_,_,by simp only[Df,e1,e2],p⟩
noncomputable def wid(n:Nat):Nat:=if n=0 then 0 else n.log2/8+1
theorem QS(h:2<=n):n.log2=(n/2).log2+1:=by rw[Nat.log2_def,gW h]
theorem Tq(h:n<2):n.log2=0:=by rw[Nat.log2_def,gX (by lia)]
theorem Mx:∀(k:Nat){n:Nat},2 ^ k<=n->n.log2=(n/2 ^ k).log2+k
 |0,n,_=>by rw[um8,un8,Nat.add_zero]
 |k+1,n,h=>by
   have h2:2 ^ k*2<=n:=by rw[<-um9];exact h
   have h3:2<=n/2 ^ k:=(Nat.le_div_iff_mul_le (Nat.pow_pos (by decide))).mpr (by rw[gH];exact h2);rw[Mx k (um3 (Nat.le_mul_of_pos_right _ (by decide)) h2),QS h3,uc3,<-um9,ul8,gG 1 k]
theorem To(h:256<=n):n.log2=(n/256).log2+8:=Mx 8 h
theorem Tp(h:n<256):n.log2<8:=by
 by_cases z:n=0
 .subst z;rw[Tq (by lia)];lia
 .exact(Nat.log2_lt z).mpr h
theorem Gb(h:0<n):wid n=wid (n/256)+1:=by
 unfold wid;rw[gX (by lia)]
 by_cases z:n<256
 .have:=Tp z;rw[gW (by lia)];lia
 .rw[gX (by lia),To (by lia)];lia
theorem GN:∀(k n:Nat),n<256 ^ k->wid n<=k
 |0,n,h=>by
   have:n=0:=by simpa using h
   subst this;decide
 |k+1,n,h=>by
   by_cases z:n=0
   .subst z;exact un6 _
   .rw[Gb (by lia)];have:=GN k (n/256) (Nat.div_lt_of_lt_mul (by rw[um9] at h;lia));lia
theorem SE(n:Nat):((Builtin.Int.intBits (n:Int):Nat)+7)/8=wid n:=by
 unfold Builtin.Int.intBits wid
 by_cases z:n=0
 .subst z;rfl
 .have:((n:Int)==0)=false:=by simp;exact z
  rw[this,gX (by simp),gX z,Int.natAbs_natCast];lia
noncomputable def nb:Nat->Nat->List D
 |0,_=>[]
 |w+1,n=>nb w (n/256)++[.int ((n%256:Nat):Int)]
theorem JU:∀w n,(nb w n).length=w
 |0,n=>rfl
 |w+1,n=>by rw[nb,uf4,JU];rfl
theorem Q5:∀w n:Nat,(List.range w).map (λk=>D.int ((n/2 ^ (8*(w-1-k))%256:Nat):Int))=nb w n
 |0,n=>rfl
 |w+1,n=>by
   rw[List.range_succ,uk2,nb,<-Q5 w (n/256)]
   congr 1
   .refine ue7 λk hk=>?_;rw[uk5] at hk;have e:8*(w+1-1-k)=8+8*(w-1-k):=by lia
    rw[e,Nat.pow_add,uc3]
   .simp
mutual
def Aq:Sh->D->List D
 |.nothing,_=>[]
 |.number lo hi,d=>match d with
   |.int i=>nb (wid (hi-lo).toNat) (i-lo).toNat
   |_=>[]
 |.text _,d=>match d with
   |.str x=>.int (x.length:Nat)::x.cps.toList.map λn=>D.int (n:Nat)
   |_=>[]
 |.list s _,d=>match d with
   |.lst ds=>.int (ds.length:Nat)::(ds.map λd=>Aq s d).flatten
   |_=>[]
 |.pair s r,d=>match d with
   |.tup [a,b]=>Aq s a++Aq r b
   |_=>[]
 |.choice ss,d=>match d with
   |.tup [_,.int k,x]=>.int k::Jy ss k.toNat x
   |_=>[]
def Jy:List Sh->Nat->D->List D
 |[],_,_=>[]
 |s::_,0,d=>Aq s d
 |_::r,k+1,d=>Jy r k d
end
theorem Du:∀(ss:List Sh) (k:Nat) (s:Sh) (d:D),ss[k]?=some s->Jy ss k d=Aq s d
 |[],k,s,d,h=>by simp at h
 |s::r,0,s',d,h=>by simp at h;subst h;simp[Jy]
 |s::r,k+1,s',d,h=>by rw[Jy];exact Du r k s' d (by simpa using h)
def Dg(f:Fn)(n:Nat):Prop:=∀(s:Sh),s.depth<=n->wf s=true->∀d,Ai s d=true->(Aq s d).length<=LIM->Pure1 f [s.d,d] (.lst (Aq s d))
def Hv(f:Fn):Prop:=∀(n j:Nat),j<=1000->Pure1 f [.int n,.int j] (.int ((n/2 ^ (8*j):Nat):Int))
theorem Vz:Hv (fnOf 2 2 HW):=by
 intro n j hj S;refine Am rfl ?_;unfold HW;right;refine EY (DR (by decide) (by decide)) ?_;refine c9 (by lia) ?_;refine⟨?_,rfl⟩;have:(8*(j:Int)).toNat=8*j:=by lia
 rw[this];simp
def GR(f:Fn):Prop:=∀n:Nat,n<256 ^ 9->Pure1 f [.int n] (.int (wid n:Nat))
theorem Ur:GR (fnOf 1 1 Fg):=by
 intro n _ S;refine Am rfl ?_;unfold Fg;right;refine aB ?_;right;refine⟨?_,rfl⟩;rw[<-SE];simp
def LR(f:Fn):Prop:=∀(n w:Nat),w<=1000->Pure1 f [.int n,.int w] (.lst (nb w n))
theorem Oj(i:Int)(n:Nat):AH i n=(List.range n).map λk:Nat=>D.int (i+k):=by
 rfl
theorem VW(hc:Hv c):LR (fnOf 2 2 (EN c)):=by
 intro n w hw S;have hL:LIM=100000:=rfl;refine Am rfl ?_;unfold EN;refine IP ?_;right;refine Uq (by rw[By (by decide) (by decide),By (by lia) (by lia)];rfl) ?_;refine(Hz (f:=λd=>match d with | .int k=>.int ((n/2 ^ (8*(w-k.toNat))%256:Nat):Int)|_=>d) (fr:=[vw (.int n),vw (.int w)]) ?_).mono ?_
 .intro d m;rw[Oj] at m;clear 5(un0.mp m)k hk rfl;rw[uk5] at hk;right;have e:((w:Int)-(1+(k:Int)))=((w-(1+k):Nat):Int):=by lia
  rw[e];refine(hc n (w-(1+k)) (by lia)).use ?_;right;refine⟨?_,rfl⟩;have e2:(1+(k:Int)).toNat=1+k:=by lia
  dsimp only;rw[e2];simp
 .rintro xs t' ⟨rfl,hS⟩;have hn:((w:Int)+1-1).toNat=w:=by lia
  rw[Oj,hn];refine Bc (by simp only[uj1,ug8,hL];lia) ?_;refine⟨?_,hS⟩;rw[<-Q5 w n,un1]
  congr 1
  refine ue7 λk hk=>?_;rw[uk5] at hk;have e2:(1+(k:Int)).toNat=1+k:=by lia
  have e3:w-(1+k)=w-1-k:=by lia
  simp only[Function.comp,e2,e3]
theorem VD:GR (fnOf 1 2 FO):=by
 intro n hb S;have hn:wid n<GQ:=Nat.lt_of_le_of_lt (GN 9 n hb) (by decide);refine Am rfl ?_;unfold FO;right;refine FD (λk t=>∃m:Nat,k=wid m/\t=⟨[vw (.int m),vw (.int ((wid n-wid m:Nat):Int))],S⟩/\wid m<=wid n) ?_ GQ (wid n) _ hn ⟨n,rfl,by rw[un2];rfl,un5 _⟩;rintro k t ⟨m,rfl,rfl,hm⟩;right
 by_cases z:0<m
 .rw[ul0 (by lia:(0:Int)<m)];refine⟨_,Gb z,?_⟩;have:=Gb z;right;refine⟨m/256,rfl,?_,by lia⟩;have e:((wid n-wid (m/256):Nat):Int)=((wid n-wid m:Nat):Int)+1:=by lia
  rw[e];rfl
 .have:m=0:=by lia
  subst this;rw[uk4 (by lia)];right;exact⟨by simp[wid],rfl⟩
variable{lo hi:Int}
theorem KW(h:wf (.number lo hi)=true):(hi-lo).toNat<256 ^ 9:=by
 simp only[wf,uh6,ug9] at h;have:(256:Nat) ^ 9=4722366482869645213696:=by decide
 lia
theorem Qh(x:Str):(x.cps.toList.map λc=>D.str ⟨#[c]⟩).map (λd=>match d with | .str y=>D.int (y.cps.getD 0 0:Nat)|_=>d)=x.cps.toList.map λn=>D.int (n:Nat):=by
 rw[un1];refine ue7 λn _=>?_;rfl
variable{cn:Fn}
theorem Vd(hc:Dg c n)(hw:GR cw)(hn:LR cn):Dg (fnOf 2 5 (Ey c cw cn)) (n+1):=by
 intro s hs hwf d hf hlen S;have hL:LIM=100000:=rfl;refine Am rfl ?_;unfold Ey
 cases s with
 |nothing=>
   rw[Sh.d];right;refine IP ?_;right;exact⟨by rw[Aq],rfl⟩
 |number lo hi=>
   have hsp:=KW hwf;have hwd:=GN 9 _ hsp;simp only[wf,uh6,ug9] at hwf
   cases d<;>simp[Ai] at hf
   rename_i i;rw[Sh.d];right;refine IP (GM ?_);right;have e1:hi-lo=(((hi-lo).toNat:Nat):Int):=by lia
   have e2:i-lo=(((i-lo).toNat:Nat):Int):=by lia
   rw[e1,e2];refine(hw _ hsp).use ?_;right;refine(hn _ _ (by lia)).use ?_;exact⟨_,rfl,by rw[Aq],rfl⟩
 |text q=>
   simp only[wf,uh6,ug9] at hwf
   cases d<;>simp[Ai] at hf
   rename_i x;rw[Sh.d];right;refine IP ?_;refine Cy ?_;right;refine PU (by rw[hL];lia) ?_;right;refine(Hz (f:=λd=>match d with | .str y=>D.int (y.cps.getD 0 0:Nat)|_=>d) (fr:=[]) ?_).mono ?_
   .intro d m;clear 5(un0.mp m)k hk rfl;right;refine Uo rfl ?_;exact⟨rfl,rfl⟩
   .rintro xs t' ⟨rfl,hS⟩;rw[Qh];have hl:x.cps.toList.length<=250:=by rw[<-DA];lia
    refine Bc (by rw[uj1,hL];lia) ?_;right;refine Bc (by simp only[uj1,uh2,uk0,hL];lia) ?_;exact⟨by rw[Aq];rfl,hS⟩
 |list s q=>
   simp only[wf,uh6,ug9] at hwf;rw[Sh.depth] at hs
   cases d<;>simp only[Ai,uf6] at hf
   rename_i ds;rw[uh6,ug9,ui1] at hf;rw[Aq] at hlen⊢;rw[Sh.d];right;refine DL (λr t=>∃(z:Option Sl) (acc:List D),t=⟨[vw (.tup [.str "list",s.d,.int q]),vw (.lst ds),vw (.str "list"),some (.own acc),z],S⟩/\acc++(r.map λd=>Aq s d).flatten=.int (ds.length:Nat)::(ds.map λd=>Aq s d).flatten) _ _ ⟨_,_,rfl,rfl⟩ ?_ ?_
   .rintro d r t ⟨z,acc,rfl,hacc⟩ m;rw[ul3,ug3,<-ug4] at hacc;have hl:acc.length+(Aq s d).length<=LIM:=by
     have:=gP List.length hacc;rw[uf4,uf4] at this;lia
    right;refine GM ?_;right;refine(hc s (uc4 hs) hwf.2 d (hf.2 d m) (um3 (Nat.le_add_left _ _) hl)).use ⟨_,rfl,?_⟩;right;refine cD rfl hl ?_;exact⟨_,_,rfl,hacc⟩
   .rintro t ⟨z,acc,rfl,hacc⟩;rw[um7,List.flatten_nil,uj3] at hacc;right;refine Xj rfl ?_;exact⟨by rw[hacc],rfl⟩
 |pair s r=>
   simp only[wf,uh6] at hwf;rw[Sh.depth] at hs;unfold Ai at hf
   split at hf
   case h_2=>cases hf
   case h_1 a b=>
    rw[uh6] at hf;rw[Aq] at hlen⊢;rw[uf4] at hlen;rw[Sh.d];right;refine IP ?_;refine Cy ?_;right;refine GM ?_;right;refine(hc s (um3 (Nat.le_max_left _ _) (uc4 hs)) hwf.1 a hf.1 (um3 (uh8 _ _) hlen)).use ⟨_,rfl,?_⟩;refine Cy ?_;right;refine GM ?_;right;refine(hc r (um3 (Nat.le_max_right _ _) (uc4 hs)) hwf.2 b hf.2 (um3 (Nat.le_add_left _ _) hlen)).use ⟨_,rfl,?_⟩;right;refine Bc hlen ?_;exact⟨rfl,rfl⟩
 |choice ss=>
   simp only[wf,uh6,ug9] at hwf;rw[Sh.depth] at hs;unfold Ai at hf
   split at hf
   case h_2=>cases hf
   case h_1 o k x=>
    simp only[uh6,ug9] at hf;obtain⟨⟨ho,k0,k1⟩,hf⟩:=hf;have hk:k.toNat<ss.length:=by lia
    have e1:ss[k.toNat]?=some ss[k.toNat]:=ub2 hk;have hl:=DS ss;have e2:atI (shD ss) k=some (ss[k.toNat]).d:=by
     unfold atI;rw[BA k0 (by lia)];show(shD ss)[k.toNat]?=_;rw[FA,e1];rfl
    rw[BY ss _ _ _ e1] at hf;rw[Aq] at hlen⊢;rw[Du ss _ _ _ e1] at hlen⊢;rw[uh2] at hlen;rw[Sh.d];right;refine IP ?_;right;refine GM ?_;right;refine DH e2 ?_;right;refine(hc _ (um3 (B1 ss _ _ e1) (uc4 hs)) (CJ hwf.2 _ (ui3 hk)) x hf (Nat.le_of_succ_le hlen)).use ⟨_,rfl,?_⟩;right;refine Bc (by simp only[uh2,uk0];lia) ?_;exact⟨rfl,rfl⟩
theorem JY(a:Int)(n:Nat):(AH a n).length=n:=by simp[AH]
variable{j:Nat}
theorem KO{a:Int}{d:D}{r:List D}(e:d::r=(AH a n).drop j):d=.int (a+j)/\r=(AH a n).drop (j+1)/\j<n:=by
 have hj:j<(AH a n).length:=by
  rcases gI j (AH a n).length with h|h
  .exact h
  .rw[fY h] at e;cases e
 rw[ub0 hj] at e;injection e with e1 e2
 rw[JY] at hj;refine⟨?_,e2,hj⟩;rw[e1];simp[AH]
noncomputable def sgs:Str:=" !\"#$ &'()*+,-./0123456789:;<=>?@ABCDEFGHIJKLMNOPQRSTUVWXYZ[\\]^_`abcdefghijklmnopqrstuvwxyz{|}~"
theorem Ze{c:Nat}(h:Bt c=true):atI sgs.cps.toList ((c:Int)-32)=some c:=by
 have hl:sgs.cps.toList.length=95:=by decide +kernel
 have hall:(List.range 127).all (λc=>!Bt c||decide (sgs.cps.toList[c-32]?=some c))=true:=by decide +kernel
 have h':=h;simp only[Bt,uh6,ug9] at h';have:=ui1.mp hall c (uk5.mpr (by lia));rw[h,Bool.not_true,gz,ug9] at this;rw[show((c:Int)-32)=((c-32:Nat):Int) by lia];exact Iv this
variable{h:D->M Out}
section
variable{t:T}{P:D->T->Prop}{R:Out->T->Prop}
def Ui(h:D->M Out)(R:Out->T->Prop)(o:Out)(t1:T):Prop:=match o with
 |.ret (.exc n ds)=>n∈BH/\W (h (.exc n ds)) t1 R
 |o=>R o t1
theorem df{b:M Out}(w:W b t (Ui h R)):W (F7 b h) t R:=by
 clear 5 w o t1 e q;have rest:∀d,Bg d=false->o=.ret d->W (F7 b h) t R:=λd hd ho=>by
  subst ho;refine⟨.ret d,t1,?_,?_⟩
  .unfold F7;rw[e];cases d<;>first|rfl|cases hd
  .cases d<;>first|exact q|cases hd
 cases o with
 |next=>exact⟨.next,t1,by unfold F7;rw[e],q⟩
 |brk=>exact⟨.brk,t1,by unfold F7;rw[e],q⟩
 |cont=>exact⟨.cont,t1,by unfold F7;rw[e],q⟩
 |ret d=>
   cases d with
   |exc n ds=>
     clear 5 q hn o2 t2 e2 q2;exact⟨o2,t2,by unfold F7;rw[e];dsimp only;rw[gW hn,e2],q2⟩
   |_=>exact rest _ rfl rfl
theorem R5(q:R .next t1):Ui h R .next t1:=q
theorem W9{n:Str}(e:n∈BH)(q:W (h (.exc n ds)) t1 R):Ui h R (.ret (.exc n ds)) t1:=⟨e,q⟩
def xK(d:D)(A B:Prop):Prop:=if Bg d=true then A else B
theorem bh{d:D}{A B:Prop}(e:Bg d=false)(b:B):xK d A B:=by unfold xK;rw[gX (by rw[e];decide)];exact b
theorem bg{d:D}{A B:Prop}(e:Bg d=true)(a:A):xK d A B:=by unfold xK;rw[gW e];exact a
theorem aX(w:W f t λd t1=>xK d (R (.ret d) t1) (R .next ⟨t1.env.set i (vw d),t1.S⟩)):W (D0 i f) t R:=by
 refine Cy (w.mono λd t1 q=>?_);unfold xK at q
 split at q
 .next h=>rw[gW h];exact⟨_,_,rfl,q⟩
 .next h=>rw[gX h];exact⟨_,_,rfl,q⟩
theorem wNx(w:W f t λd t1=>Bg d=false/\P d t1):W (nxD f) t P:=by
 refine Cy (w.mono λd t1 z9=>?_);clear 5 z9 h q;rw[gX (by rw[h];decide)];exact⟨_,_,rfl,q⟩
theorem aC{g:M D}{h:D->M D}(w:W g t λy t1=>xK y (P y t1) (W (h y) t1 λd t2=>Bg d=false/\P d t2)):W (Km g h) t P:=by
 refine Cy (w.mono λy t1 q=>?_);unfold xK at q
 split at q
 .next z=>rw[gW z];exact⟨_,_,rfl,q⟩
 .next z=>rw[gX z];exact wNx q
theorem aA{g:M D}{h:D->D->M D}(w:W f t λx t1=>W (Km g (h x)) t1 P):W (Iy f g h) t P:=Cy w
theorem Xg{n:Str}{f:M (List D)}(w:W f t λds t1=>ds.length<=1000/\R (.ret (.exc n [])) t1):W (Ii n f) t R:=
 Cy (w.mono λds t1 ⟨e,q⟩=>by rw[gW e];exact⟨_,_,rfl,q⟩)
theorem Xh{n:Str}(w:W f t λ_ t1=>R (.ret (.exc n [])) t1):W (Ii n (Aa f Ad)) t R:=Xg (EX (w.mono λd t1 q=>K2 ⟨by show 1<=1000;decide,q⟩))
theorem cH{n n':Str}{s:M Out}{r:D->M Out}(e:Gu n n'=true)(w:W s t R):W (hNo n' s r (.exc n ds)) t R:=by
 clear 5 w o t2 e1 q;exact⟨o,t2,by unfold hNo;dsimp only;rw[gW e,e1],q⟩
end
local macro_rules | `(tactic| walk_at"x1")=>`(tactic| first
 |walk_at"w1" |clear 31 df aX wNx aA aC R5|clear 33 W9|clear 32 bh|clear 32 bg|clear 31 Xh|clear 33 cH)
local macro_rules | `(tactic| left)=>`(tactic| repeat (walk_at"x1"))
inductive Rd where
 |done (v:D)
 |need (ok:Nat->Bool) (nx:Nat->Rd)
inductive RR where
 |told (v:D) (a:Nat)
 |short
 |broken (a:Nat)
noncomputable def Rd.run:Rd->List Nat->Nat->RR
 |.done v,_,a=>.told v a
 |.need ok nx,w,a=>match w[a]? with
   |none=>.short
   |some b=>if ok b=true then(nx b).run w (a+1) else .broken a
noncomputable def Rd.bnd:Rd->(D->Rd)->Rd
 |.done v,k=>k v
 |.need ok nx,k=>.need ok λb=>(nx b).bnd k
def RR.thn(r:RR)(w:List Nat)(k:D->Rd):RR:=match r with
 |.told v a=>(k v).run w a
 |.short=>.short
 |.broken a=>.broken a
variable{w:List Nat}
theorem BL{ok:Nat->Bool}{nx:Nat->Rd}{a:Nat}(h:w[a]?=none):(Rd.need ok nx).run w a=.short:=by rw[Rd.run,h]
theorem AY{ok:Nat->Bool}{nx:Nat->Rd}{a b:Nat}(h:w[a]?=some b):(Rd.need ok nx).run w a=if ok b=true then(nx b).run w (a+1) else .broken a:=by rw[Rd.run,h]
theorem Cc(k:D->Rd)(w:List Nat):∀(p:Rd) (a:Nat),(p.bnd k).run w a=(p.run w a).thn w k:=by
 intro p
 induction p with
 |done v=>intro a;rfl
 |need ok nx ih=>
   intro a;rw[Rd.bnd]
   cases h:w[a]? with
   |none=>rw[BL h,BL h];rfl
   |some b=>
     rw[AY h,AY h]
     by_cases q:ok b=true
     .rw[gW q,gW q];exact ih b (a+1)
     .rw[gX q,gX q];rfl
variable{v:D}
theorem ET{b:Nat}:∀(p:Rd) (a:Nat),a<=w.length->p.run w a=.told v b->a<=b/\b<=w.length:=by
 intro p
 induction p with
 |done v'=>intro a ha h;cases h;exact⟨un5 _,ha⟩
 |need ok nx ih=>
   intro a ha h
   cases e:w[a]? with
   |none=>rw[BL e] at h;cases h
   |some c=>
     rw[AY e] at h;have hl:=(ua8.mp e).1
     by_cases q:ok c=true
     .rw[gW q] at h;have:=ih c (a+1) hl h;lia
     .rw[gX q] at h;cases h
def Rd.good:Rd->Prop
 |.done _=>True
 |.need ok nx=>(ok 0=true\/ok 32=true)/\∀b,ok b=true->(nx b).good
noncomputable def Fi(lo:Int)(M:Nat):Nat->Nat->Rd
 |0,x=>.done (.int (lo+x))
 |r+1,x=>.need (λb=>decide (x*256+b<=M/2 ^ (8*r))) λb=>Fi lo M r (x*256+b)
def FY:Nat->List Nat->Rd
 |0,cs=>.done (.str ⟨cs.toArray⟩)
 |n+1,cs=>.need Bt λc=>FY n (cs++[c])
def Fh(p:Rd):Nat->List D->Rd
 |0,ds=>.done (.lst ds)
 |n+1,ds=>p.bnd λv=>Fh p n (ds++[v])
def pSh:Nat->Sh->Rd
 |0,_=>.done .non
 |_+1,.nothing=>.done .non
 |_+1,.number lo hi=>Fi lo (hi-lo).toNat (wid (hi-lo).toNat) 0
 |_+1,.text q=>.need (λb=>decide ((b:Int)<=q)) λb=>FY b []
 |n+1,.list s q=>.need (λb=>decide ((b:Int)<=q)) λb=>Fh (pSh n s) b []
 |n+1,.pair s r=>(pSh n s).bnd λv=>(pSh n r).bnd λu=>.done (.tup [v,u])
 |n+1,.choice ss=>.need (λb=>decide (b<ss.length)) λb=>(pSh n (ss.getD b .nothing)).bnd λv=>.done (.tup [.str "of",.int b,v])
mutual
noncomputable def plD:D->Bool
 |.lst xs=>pls xs
 |.tup xs=>pls xs
 |.obj _=>false
 |.scr _=>false
 |.ty _=>false
 |.exc _ _=>false
 |.dic=>false
 |_=>true
noncomputable def pls:List D->Bool
 |[]=>true
 |d::r=>plD d&&pls r
end
theorem SK{k:Int}(h0:0<=k)(h1:k<=xs.length):Bp xs none (some k)=xs.take k.toNat:=by
 have:HT.sIx xs.length xs.length (some k)=k.toNat:=by simp only[HT.sIx];rw[gX (by lia)];lia
 unfold Bp;rw[this];simp[HT.sIx]
noncomputable def pos(i:Int):Int:=if 0<i then i else 0
structure ValueRes2(k c l:Nat)(S:List Ob)(s:Sh)(a b:Int)(r:D)(S':List Ob):Prop where
 fit:Ai s r=true
 lft:∃a' b':Int,S'[l]?=some (.lst [.int a',.int b'])/\((Aq s r).length:Int)<=9*(a-a')+(pos b-pos b')/\pos b'<=pos b/\1<=a-a'/\a-a'<=cnt s+(14*(s.depth:Int))*pos a
 deck:DeckAt k c S'
 kp:OG k c l S S'
mutual
noncomputable def szE:D->Nat
 |.lst xs=>1+Uf xs
 |.tup xs=>1+Uf xs
 |_=>1
noncomputable def Uf:List D->Nat
 |[]=>0
 |d::r=>szE d+Uf r
end
structure VOk(s:Sh)(v:D):Prop where
 fit:Ai s v=true
 len:(Aq s v).length<=14809
local macro_rules | `(tactic| walk_at"y1")=>`(tactic| first
 |walk_at"x1")
local macro_rules | `(tactic| symm)=>`(tactic| repeat (walk_at"y1"))
noncomputable def wD(w:List Nat):List D:=w.map λ(n:Nat)=>D.int (n:Int)
theorem E7(w:List Nat):(wD w).length=w.length:=by unfold wD;rw[uj1]
theorem Sa{a b:Nat}(h:w[a]?=some b):(wD w)[a]?=some (.int (b:Int)):=by unfold wD;rw[ug2,h];rfl
abbrev exS:D:=.exc "Short" []
abbrev exB(a:Nat):D:=.exc "Broken" [.int (a:Int),.non]
noncomputable def rrD:RR->D
 |.told v b=>.tup [v,.int (b:Int)]
 |.short=>exS
 |.broken a=>exB a
noncomputable def byX:Option Nat->D
 |none=>exS
 |some b=>.int (b:Int)
noncomputable def upX(m:Int)(a:Nat):Option Nat->D
 |none=>exS
 |some b=>if (b:Int)<=m then .int (b:Int) else exB a
def sgX(a:Nat):Option Nat->D
 |none=>exS
 |some c=>if Bt c=true then .str ⟨#[c]⟩ else exB a
def RX(c:Fn)(s:Sh)(p:Rd):Prop:=∀(w:List Nat) (a:Nat),a<=w.length->Pure1 c [s.d,.lst (wD w),.int (a:Int)] (rrD (p.run w a))
noncomputable def seg(w:List Nat)(a b:Nat):List Nat:=(w.drop a).take (b-a)
theorem Hl(w:List Nat)(a:Nat):seg w a a=[]:=by unfold seg;rw[un2,List.take_zero]
theorem F3{a b x:Nat}(h:w[a]?=some x)(hb:a+1<=b):seg w a b=x::seg w (a+1) b:=by
 clear 5(ua8.mp h)hl e;unfold seg;rw[ub0 hl,e,show b-a=(b-(a+1))+1 by lia,ue9]
theorem Om{a c b:Nat}(h1:a<=c)(h2:c<=b):seg w a b=seg w a c++seg w c b:=by
 unfold seg;rw[show b-a=(c-a)+(b-c) by lia,List.take_add,List.drop_drop,show a+(c-a)=c by lia]
theorem R9(x y:List Nat):wD (x++y)=wD x++wD y:=by unfold wD;rw[uk2]
theorem IM(x:Nat)(y:List Nat):wD (x::y)=.int (x:Int)::wD y:=rfl
theorem KJ:∀(r y:Nat),nb (r+1) y=.int ((y/256 ^ r%256:Nat):Int)::nb r y
 |0,y=>by rw[nb,nb,nb,um8,un8];rfl
 |r+1,y=>by
   rw[show nb (r+1+1) y=nb (r+1) (y/256)++[.int ((y%256:Nat):Int)] from rfl,KJ r (y/256),ui4,show nb (r+1) y=nb r (y/256)++[.int ((y%256:Nat):Int)] from rfl,uc3,show 256*256 ^ r=256 ^ (r+1) by rw[um9,gH]]
theorem MK{lo:Int}{M:Nat}{w:List Nat}(hw:∀x∈w,x<256){v:D}{b:Nat}:∀(r x a:Nat),(Fi lo M r x).run w a=.told v b->∃y:Nat,v=.int (lo+y)/\y/256 ^ r=x/\(x<=M/2 ^ (8*r)->y<=M)/\nb r y=wD (seg w a b)/\b=a+r
 |0,x,a,h=>by
   rw[Fi,Rd.run] at h
   cases h
   exact⟨x,rfl,by rw[um8,un8],(λh=>by rw[Nat.mul_zero,um8,un8] at h;exact h),by rw[Hl,nb];rfl,rfl⟩
 |r+1,x,a,h=>by
   rw[Fi] at h
   cases e:w[a]? with
   |none=>rw[BL e] at h;cases h
   |some c=>
     rw[AY e] at h;have hc:=hw c (ud9 e)
     by_cases q:x*256+c<=M/2 ^ (8*r)
     .rw[gW (ul0 q)] at h;clear 5(MK hw r _ _ h)y h1 h2 h3 h4 h5;refine⟨y,h1,?_,λ_=>h3 q,?_,by lia⟩
      .rw[um9,<-uc3,h2];lia
      .rw[KJ,h2,F3 e (by lia),IM,h4]
       congr 3
       lia
     .rw[gX (by rw[ug9];exact q)] at h;cases h
theorem Nb{w:List Nat}{v:D}{b:Nat}:∀(n:Nat) (cs:List Nat) (a:Nat),(FY n cs).run w a=.told v b->v=.str ⟨(cs++seg w a b).toArray⟩/\(seg w a b).length=n/\(∀c∈seg w a b,Bt c=true)/\b=a+n
 |0,cs,a,h=>by
   rw[FY,Rd.run] at h
   cases h
   rw[Hl,uj3];exact⟨rfl,rfl,(λc z=>nomatch z),rfl⟩
 |n+1,cs,a,h=>by
   rw[FY] at h
   cases e:w[a]? with
   |none=>rw[BL e] at h;cases h
   |some c=>
     rw[AY e] at h
     by_cases q:Bt c=true
     .rw[gW q] at h;clear 5(Nb n _ _ h)h1 h2 h3 h4;rw[F3 e (by lia)];refine⟨by rw[h1,ug4];rfl,by rw[uh2,h2],λx hx=>?_,by lia⟩;rcases ul2.mp hx with rfl|hx
      .exact q
      .exact h3 x hx
     .rw[gX q] at h;cases h
theorem MA{w:List Nat}{s:Sh}{p:Rd}(hp:∀(a b:Nat) (v:D),a<=w.length->p.run w a=.told v b->Ai s v=true/\Aq s v=wD (seg w a b)){v:D}{b:Nat}:∀(n:Nat) (ds:List D) (a:Nat),a<=w.length->(Fh p n ds).run w a=.told v b->∃es,v=.lst (ds++es)/\es.length=n/\(∀e∈es,Ai s e=true)/\(es.map λd=>Aq s d).flatten=wD (seg w a b)/\a<=b
 |0,ds,a,_,h=>by
   rw[Fh,Rd.run] at h
   cases h
   exact⟨[],by rw[uj3],rfl,(λe z=>nomatch z),by rw[Hl];rfl,un5 _⟩
 |n+1,ds,a,ha,h=>by
   rw[Fh,Cc] at h
   cases e:p.run w a with
   |short=>rw[e] at h;cases h
   |broken k=>rw[e] at h;cases h
   |told u a'=>
     rw[e,RR.thn] at h;have hle:=ET p a ha e;have hu:=hp a a' u ha e;clear 5(MA hp n _ _ hle.2 h)es h1 h2 h3 h4 h5;refine⟨u::es,by rw[h1,ug4];rfl,by rw[uh2,h2],λx hx=>?_,?_,by lia⟩
     .rcases ul2.mp hx with rfl|hx
      .exact hu.1
      .exact h3 x hx
     .rw[ul3,ug3,h4,hu.2,Om hle.1 h5,R9]
theorem M3:∀(n:Nat) (s:Sh),s.depth<=n->wf s=true->∀(w:List Nat),(∀x∈w,x<256)->∀(a b:Nat) (v:D),a<=w.length->(pSh n s).run w a=.told v b->Ai s v=true/\Aq s v=wD (seg w a b)
 |0,s,hs,_,_,_,_,_,_,_,_=>absurd s.depth_pos (by lia)
 |n+1,s,hs,hwf,w,hw,a,b,v,ha,h=>by
   cases s with
   |nothing=>
     rw[pSh,Rd.run] at h
     cases h
     rw[Hl,Aq];exact⟨by simp[Ai,Gf],rfl⟩
   |number lo hi=>
     rw[pSh] at h;obtain⟨y,rfl,_,h3,h4,_⟩:=MK hw _ _ _ h;have hy:=h3 (un6 _);simp only[wf,uh6,ug9] at hwf;refine⟨?_,?_⟩
     .simp only[Ai,uh6,ug9];lia
     .rw[Aq,<-h4,show(lo+(y:Int)-lo).toNat=y by lia]
   |text q=>
     rw[pSh] at h
     cases e:w[a]? with
     |none=>rw[BL e] at h;cases h
     |some c=>
       rw[AY e] at h
       by_cases hc:(c:Int)<=q
       .rw[gW (ul0 hc)] at h;clear 5(Nb _ _ _ h)rfl h2 h3 h4;rw[uj8];have hl:(⟨(seg w (a+1) b).toArray⟩:Str).length=c:=by rw[DA];exact h2
        refine⟨?_,?_⟩
        .simp only[Ai,uh6,ug9,ui1];exact⟨by rw[hl];exact hc,h3⟩
        .rw[Aq,hl,F3 e (by lia),IM];rfl
       .rw[gX (by rw[ug9];exact hc)] at h;cases h
   |list s q=>
     simp only[wf,uh6,ug9] at hwf;rw[Sh.depth] at hs;rw[pSh] at h
     cases e:w[a]? with
     |none=>rw[BL e] at h;cases h
     |some c=>
       have hal:=(ua8.mp e).1;rw[AY e] at h
       by_cases hc:(c:Int)<=q
       .rw[gW (ul0 hc)] at h;clear 5(MA (λa b v=>M3 n s (by lia) hwf.2 w hw a b v) _ _ _ hal h)es rfl h2 h3 h4 h5;rw[uj8];refine⟨?_,?_⟩
        .rw[Ai,uh6,ug9,ui1];exact⟨by rw[h2];exact hc,h3⟩
        .rw[Aq,h4,h2,F3 e h5,IM]
       .rw[gX (by rw[ug9];exact hc)] at h;cases h
   |pair s r=>
     simp only[wf,uh6] at hwf;rw[Sh.depth] at hs;rw[pSh,Cc] at h
     cases e:(pSh n s).run w a with
     |short=>rw[e] at h;cases h
     |broken k=>rw[e] at h;cases h
     |told u a'=>
       rw[e,RR.thn,Cc] at h;have l1:=ET _ a ha e;have i1:=M3 n s (by lia) hwf.1 w hw a a' u ha e
       cases e2:(pSh n r).run w a' with
       |short=>rw[e2] at h;cases h
       |broken k=>rw[e2] at h;cases h
       |told u2 a2=>
         rw[e2] at h;have l2:=ET _ a' l1.2 e2;have i2:=M3 n r (by lia) hwf.2 w hw a' a2 u2 l1.2 e2
         cases h
         refine⟨?_,?_⟩
         .simp only[Ai,uh6];exact⟨i1.1,i2.1⟩
         .rw[Aq,i1.2,i2.2,Om l1.1 l2.1,R9]
   |choice ss=>
     simp only[wf,uh6,ug9] at hwf;rw[Sh.depth] at hs;rw[pSh] at h
     cases e:w[a]? with
     |none=>rw[BL e] at h;cases h
     |some c=>
       have hal:=(ua8.mp e).1;rw[AY e] at h
       by_cases hc:c<ss.length
       .rw[gW (ul0 hc),Cc] at h;have e0:ss[c]?=some ss[c]:=ub2 hc;rw[ua7,e0,ui5] at h
        cases e2:(pSh n ss[c]).run w (a+1) with
        |short=>rw[e2] at h;cases h
        |broken k=>rw[e2] at h;cases h
        |told u a2=>
          rw[e2] at h;have l1:=ET _ (a+1) hal e2;have i1:=M3 n ss[c] (um3 (B1 ss _ _ e0) (by lia)) (CJ hwf.2 _ (ui3 hc)) w hw (a+1) a2 u hal e2
          cases h
          refine⟨?_,?_⟩
          .simp only[Ai,uh6,ug9];refine⟨⟨rfl,by lia,by lia⟩,?_⟩;rw[ug5,BY ss _ _ _ e0];exact i1.1
          .rw[Aq,ug5,Du ss _ _ _ e0,i1.2,F3 e l1.1,IM]
       .rw[gX (by rw[ug9];exact hc)] at h;cases h
theorem Bu{kvs:List (Key×D)}{d:D}(e:t.S[n]?=some (.dct kvs))(e2:B5 kvs (.inr x)=some d)(h:P d t):W (AX (.obj n) (.str x)) t P:=
 ⟨d,t,by simp only[AX,e,e2];rfl,h⟩
variable{U:Unit->T->Prop}
theorem No{g:M D}{d:D}(h:W f t λo t1=>W g t1 λi t2=>W (GK o i d) t2 U):W (Hn f g d) t U:=Cy (h.mono λo t1 h1=>Cy h1)
theorem Hr{d:D}{kvs:List (Key×D)}(e:t.S[n]?=some (.dct kvs))(hl:kvs.length<LIM)(h:U () ⟨t.env,t.S.set n (.dct (BI kvs (.inr x) d))⟩):W (GK (.obj n) (.str x) d) t U:=
 ⟨(),_,by simp only[GK,e,gW hl],h⟩
theorem DI{g:M D}{xs0:List D}(e:t.env[i]?=some (some (.own xs0)))(h:W g t λj t1=>∃n xs d,j=.int n/\t1.env[i]?=some (some (.own xs))/\atI xs n=some d/\P d t1):W (CB i g) t P:=by
 clear 5 h j t1 e1 n xs d rfl e2 e3 p;refine⟨d,t1,?_,p⟩;unfold CB;simp only[e];show bnd g _ t=_;unfold bnd;simp only[e1,e2,e3];rfl
theorem Zz{g:M D}{d:D}{xs0:List D}(e:t.env[i]?=some (some (.own xs0)))(h:W g t λj t1=>∃n xs k,j=.int n/\t1.env[i]?=some (some (.own xs))/\ixN xs.length n=some k/\U () {t1 with env:=t1.env.set i (some (.own (xs.set k d)))}):W (IL i g d) t U:=by
 clear 5 h j t1 e1 n xs k rfl e2 e3 p;refine⟨(),_,?_,p⟩;unfold IL;simp only[e];show bnd g _ t=_;unfold bnd;simp only[e1,e2,e3];rfl
theorem LM{l:List (Str×M D)}(h:W (D3 l) ⟨t.env,t.S++[.dct []]⟩ λps t1=>t1.S[t.S.length]?=some (.dct [])/\ps.length<=15/\P (.obj t.S.length) ⟨t1.env,t1.S.set t.S.length (.dct (Ej ps))⟩):W (Ep l) t P:=by
 clear 5 h ps t1 e1 e2 e3 p;refine⟨_,_,?_,p⟩;unfold Ep bnd;simp only[e1];unfold Iw;simp only[e2,gW e3]
theorem Gj{Q:List (Key×D)->T->Prop}(h:Q [] t):W (D3 []) t Q:=⟨_,_,rfl,h⟩
theorem BW{k:Str}{r:List (Str×M D)}{Q:List (Key×D)->T->Prop}(h:W f t λd t1=>W (D3 r) t1 λps t2=>Q ((.inr k,d)::ps) t2):W (D3 ((k,f)::r)) t Q:=
 Cy (h.mono λd t1 h1=>Cy (h1.mono λps t2 h2=>⟨_,_,rfl,h2⟩))
structure St where
 rest:Int
 mixed:Bool
 turn:Int
noncomputable def St.ob(s:St):Ob:=.dct [(.inr (Str.ofString "rest"),.int s.rest),(.inr (Str.ofString "mixed"),.bl s.mixed),(.inr (Str.ofString "turn"),.int s.turn)]
noncomputable def take(s:St)(m:Int):Int×St:=
 if s.mixed=false then(s.rest%m,⟨s.rest/m,s.mixed,s.turn⟩)
 else
  let stir:=(s.rest%2147483579+70001*(s.turn+1))%2147483579
  let rest:=(stir*stir%2147483563*50021+7)%2147483579
  (rest/5%m,⟨rest,s.mixed,s.turn+1⟩)
theorem ES(a:Int)(n:Nat):(AH a n).length=n:=by simp[AH]
inductive GS where
 |fin
 |st (side:Str) (ws:List (Str×Sh×Int))
def wdD(w:Str×Sh×Int):D:=.tup [.str w.1,w.2.1.d,.int w.2.2]
def GS.d:GS->D
 |.fin=>.tup [.str (Str.ofString "end")]
 |.st side ws=>.tup [.str side,.lst (ws.map wdD)]
noncomputable def GS.isFin:GS->Bool
 |.fin=>true
 |_=>false
theorem Jj{a:Int}{d:D}{r:List D}(e:d::r=(AH a n).drop j):d=.int (a+j)/\r=(AH a n).drop (j+1)/\j<n:=by
 have hj:j<(AH a n).length:=by
  rcases gI j (AH a n).length with h|h
  .exact h
  .rw[fY h] at e;cases e
 rw[ub0 hj] at e;injection e with e1 e2
 rw[ES] at hj;refine⟨?_,e2,hj⟩;rw[e1];simp[AH]
structure WOk(n:Int)(w:Str×Sh×Int):Prop where
 ok:wf w.2.1=true
 dep:w.2.1.depth<=3
 lo:0<=w.2.2
 hi:w.2.2<n
 nm:w.1.length<=90000
inductive GSOk(n:Int):GS->Prop
 |fin:GSOk n .fin
 |st {side:Str}{ws:List (Str×Sh×Int)}:(side=Str.ofString "left"\/side=Str.ofString "right")->0<ws.length->ws.length<=9->(ws.map (·.1)).Nodup->(∀w∈ws,WOk n w)->GSOk n (.st side ws)
structure GOk(g:List GS):Prop where
 ne:0<g.length
 le:g.length<=30
 all:∀x∈g,GSOk g.length x
def Iq(f:Fn):Prop:=∀(n:Int) (x:GS),GSOk n x->Pure1 f [x.d] (.bl x.isFin)
theorem QM:Iq (fnOf 1 1 Jc):=by
 intro n x hx S;refine Am rfl ?_;unfold Jc
 cases hx with
 |fin=>
   rw[GS.d];right;exact⟨by simp[GS.isFin],rfl⟩
 |st hs _ _ _ _=>
   rw[GS.d];right;refine⟨?_,rfl⟩;rcases hs with rfl|rfl<;>simp[GS.isFin]
def GS.words:GS->D
 |.fin=>.tup []
 |.st _ ws=>.lst (ws.map wdD)
noncomputable def GS.ws:GS->List (Str×Sh×Int)
 |.fin=>[]
 |.st _ ws=>ws
def Kk(f:Fn):Prop:=∀(n:Int) (x:GS),GSOk n x->Pure1 f [x.d] x.words
theorem Us{ce:Fn}(he:Iq ce):Kk (fnOf 1 1 (He ce)):=by
 intro n x hx S;refine Am rfl ?_;unfold He
 cases x with
 |fin=>
   right;refine(he n .fin hx).use ?_;right;exact⟨rfl,rfl⟩
 |st side ws=>
   right;refine(he n (.st side ws) hx).use ?_;rw[GS.d];right;exact⟨rfl,rfl⟩
noncomputable def MT:Option Nat->D
 |some i=>.int i
 |none=>.non
def IX(f:Fn):Prop:=∀(n:Int) (x:GS) (nm:Str),GSOk n x->Pure1 f [x.d,.str nm] (MT (x.ws.findIdx? λw=>w.1==nm))
variable{α:Type}
theorem HL{p:α->Bool}{l:List α}(h:∀i (hi:i<l.length),i<j->p l[i]=false){x:α}(hx:l[j]?=some x)(hp:p x=true):l.findIdx? p=some j:=by
 clear 5(ua8.mp hx)hj e;rw[List.findIdx?_eq_some_iff_getElem];exact⟨hj,by rw[e];exact hp,λi hi=>by simpa using h i (by lia) hi⟩
theorem KL(hw:Kk cw):IX (fnOf 2 4 (Ff cw)):=by
 intro n x nm hx S;refine Am rfl ?_;unfold Ff;right;refine(hw n x hx).use ?_;have key:∀(ws:List (Str×Sh×Int)) (d:D),ws.length<=9->(∀(t:T) (P:D->T->Prop),P (.int ws.length) t->W (Az [d]) t P)->(∀(t:T) (P:D->T->Prop) (i:Nat) (w:Str×Sh×Int),ws[i]?=some w->P (wdD w) t->W (ixD d (.int i)) t P)->
  W (Ae (Bj (Bm (Aa (fB (Aa (Ab 2) Ad) Az) Ad)) (As 3)
  (ifS (Aj (Ac (Ac (Ac (Ab 2) (Ab 3) ixD) (ee 0) ixD) (Ab 1) (eqS id)))
  (Al (Ab 3))
  Ap))
 (Al (fC .non))) ⟨[vw x.d,vw (.str nm),vw d,none],S⟩ λo t=>match o with
   |.ret r=>r=MT (ws.findIdx? λw=>w.1==nm)/\t.S=S
   |.next=>D.non=MT (ws.findIdx? λw=>w.1==nm)/\t.S=S
   |_=>False:=by
   intro ws d hl len ix;right;refine len _ _ ?_;right;refine DJ (By (by lia) (by lia)) ?_;refine DL (λr t=>∃(j:Nat) (e3:Option Sl),(∀i (hi:i<ws.length),i<j->(ws[i].1==nm)=false)/\j<=ws.length/\r=(AH 0 ((ws.length:Nat):Int).toNat).drop j/\t=⟨[vw x.d,vw (.str nm),vw d,e3],S⟩) _ _ ⟨0,none,λi hi h=>absurd h (by lia),by lia,rfl,rfl⟩ ?_ ?_
   .rintro d' r t ⟨j,e3,hj,hjl,hr,rfl⟩ _;clear 5(Jj hr)rfl hr' hjn;rw[ug5] at hjn;have e:ws[j]?=some ws[j]:=ub2 hjn;rw[un3];right;refine ix _ _ j _ e ?_;unfold wdD;right;refine Ev (λq=>?_) λq=>?_
    .right;refine⟨?_,rfl⟩;rw[HL hj e q];rfl
    .right;refine⟨j+1,_,λi hi hij=>?_,by lia,hr',rfl⟩;rcases gI i j with h|h
     .exact hj i hi h
     .have:i=j:=by lia
      subst this;exact q
   .rintro t ⟨j,e3,hj,hjl,hr,rfl⟩;have hj':j=ws.length:=by
     have:=gP List.length hr;rw[uk0,uh5,ES,ug5] at this;lia
    subst hj';right;refine⟨?_,rfl⟩;rw[List.findIdx?_eq_none_iff.mpr]
    .rfl
    .intro w hw';clear 5(List.mem_iff_getElem.mp hw')i hi rfl;exact hj i hi hi
 cases hx with
 |fin=>
   refine CK ?_;refine key [] (.tup []) (by decide) (λt P h=>UT h) λt P i w e h=>?_;simp at e
 |@st side ws h1 h2 h3 h4 h5=>
   refine CK ?_;refine key ws (.lst (ws.map wdD)) h3 (λt P h=>PR (by rw[uj1];exact h)) λt P i w e h=>?_;obtain⟨hi,_⟩:=ua8.mp e;refine AG ?_ h;unfold atI;rw[BA (by lia) (by rw[uj1];lia)];show(ws.map wdD)[(i:Int).toNat]?=_;rw[ug5,ug2,e];rfl
theorem DM:eqN n (.str x) (.str x)=some true:=by
 cases n<;>(show some (x==x)=some true;rw[ui7])
theorem Ix{x:Int}:eqN n (.int x) (.int x)=some true:=by
 cases n<;>(show some (x==x)=some true;rw[ui7])
theorem Dh(h:∀x∈xs,eqN n x x=some true):eqN (n+1) (.tup xs) (.tup xs)=some true:=by
 rw[eqN,EZ h];simp
theorem U2(h:∀x∈xs,eqN n x x=some true):eqN (n+1) (.lst xs) (.lst xs)=some true:=by
 rw[eqN,gW rfl,EZ h]
theorem HI:∀(n:Nat) (s:Sh),s.depth<=n->∀m,2*n<=m->eqN m s.d s.d=some true
 |0,s,h,_,_=>absurd s.depth_pos (by lia)
 |n+1,s,h,m,hm=>by
   obtain⟨m,rfl⟩:∃k,m=k+2:=fy (by lia)
   cases s with
   |nothing=>rw[Sh.d];exact Dh (by simp[DM])
   |number lo hi=>rw[Sh.d];exact Dh (by simp[DM,Ix])
   |text q=>rw[Sh.d];exact Dh (by simp[DM,Ix])
   |list s q=>
     rw[Sh.depth] at h;have:=HI n s (by lia) (m+1) (by lia);rw[Sh.d];exact Dh (by simp[DM,Ix,this])
   |pair s r=>
     rw[Sh.depth] at h;have h1:=HI n s (by lia) (m+1) (by lia);have h2:=HI n r (by lia) (m+1) (by lia);rw[Sh.d];exact Dh (by simp[DM,h1,h2])
   |choice ss=>
     rw[Sh.depth] at h;have h1:eqN (m+1) (.tup (shD ss)) (.tup (shD ss))=some true:=Dh λx hx=>by
      clear 5(M8 hx)s hs rfl;exact HI n s (um3 (Il hs) (by lia)) m (by lia)
     rw[Sh.d];exact Dh (by simp[DM,h1])
theorem XI{n:Int}{x:GS}(h:GSOk n x){m:Nat}(hm:9<=m):eqN m x.d x.d=some true:=by
 obtain⟨m,rfl⟩:∃k,m=k+3:=fy (by lia)
 cases h with
 |fin=>rw[GS.d];exact Dh (by simp[DM])
 |@st side ws h1 h2 h3 h4 h5=>
   have hw:eqN (m+2) (.lst (ws.map wdD)) (.lst (ws.map wdD))=some true:=U2 λx hx=>by
    clear 5(un0.mp hx)w hw rfl;unfold wdD;exact Dh (by simp[DM,Ix,HI 3 w.2.1 (h5 w hw).dep m (by lia)])
   rw[GS.d];exact Dh (by simp[DM,hw])
noncomputable def GS.side:GS->Str
 |.fin=>Str.ofString "end"
 |.st s _=>s
noncomputable def AL(g:List GS)(q:Nat):GS:=g.getD q .fin
def wdAt(g:List GS)(q p:Nat):Str×Sh×Int:=(AL g q).ws.getD p (Str.ofString "",.nothing,0)
def Bh(g:List GS)(q p:Nat):Nat:=(wdAt g q p).2.2.toNat
def Gs(g:List GS)(q p:Nat)(v:D):D:=.tup [.str (AL g q).side,.str (wdAt g q p).1,v]
abbrev Mv:=Nat×D
def AM(g:List GS):Nat->List Mv->Nat
 |q,[]=>q
 |q,(p,_)::r=>AM g (Bh g q p) r
def AR(g:List GS):Nat->List Mv->List D
 |_,[]=>[]
 |q,(p,v)::r=>Gs g q p v::AR g (Bh g q p) r
def Cl(g:List GS):Nat->List Mv->List D
 |_,[]=>[]
 |q,(p,_)::r=>.tup [.int q,.int p]::Cl g (Bh g q p) r
structure MvOk(g:List GS)(q:Nat)(p:Nat)(v:D):Prop where
 lt:q<g.length
 pl:p<(AL g q).ws.length
 fit:Ai (wdAt g q p).2.1 v=true
def okQ(g:List GS):Nat->List Mv->Prop
 |_,[]=>True
 |q,(p,v)::r=>MvOk g q p v/\okQ g (Bh g q p) r
theorem Li(g:List GS):∀(q:Nat) (a b:List Mv),AM g q (a++b)=AM g (AM g q a) b
 |q,[],b=>rfl
 |q,(p,v)::r,b=>by rw[ui4,AM,AM,Li g _ r b]
theorem Lj(g:List GS):∀(q:Nat) (a b:List Mv),AR g q (a++b)=AR g q a++AR g (AM g q a) b
 |q,[],b=>rfl
 |q,(p,v)::r,b=>by rw[ui4,AR,AR,AM,Lj g _ r b];rfl
theorem Ka(g:List GS):∀(q:Nat) (a b:List Mv),Cl g q (a++b)=Cl g q a++Cl g (AM g q a) b
 |q,[],b=>rfl
 |q,(p,v)::r,b=>by rw[ui4,Cl,Cl,AM,Ka g _ r b];rfl
theorem KK(g:List GS):∀(q:Nat) (a b:List Mv),okQ g q (a++b)↔okQ g q a/\okQ g (AM g q a) b
 |q,[],b=>by simp[okQ,AM]
 |q,(p,v)::r,b=>by rw[ui4,okQ,okQ,AM,KK g _ r b,and_assoc]
theorem Ek(g:List GS):∀(q:Nat) (a:List Mv),(AR g q a).length=a.length
 |q,[]=>rfl
 |q,(p,v)::r=>by rw[AR,uh2,Ek g _ r,uh2]
theorem Fs(g:List GS):∀(q:Nat) (a:List Mv),(Cl g q a).length=a.length
 |q,[]=>rfl
 |q,(p,v)::r=>by rw[Cl,uh2,Fs g _ r,uh2]
theorem HX(g:List GS):∀(q:Nat) (a:List Mv) (i:Nat) (p:Nat) (v:D),a[i]?=some (p,v)->(AR g q a)[i]?=some (Gs g (AM g q (a.take i)) p v)
 |q,[],i,p,v,h=>by simp at h
 |q,(p',v')::r,0,p,v,h=>by
   simp at h;clear 5 h rfl rfl;rfl
 |q,(p',v')::r,i+1,p,v,h=>by
   rw[AR,ub6,HX g _ r i p v (by simpa using h),ue9,AM]
variable{g:List GS}{q:Nat}
theorem Ty{a:List Mv}(h:okQ g q a)(i:Nat):okQ g q (a.take i):=by
 rw[<-ud1 i a,KK] at h;exact h.1
theorem N5{a:List Mv}(h:okQ g q a){i p:Nat}{v:D}(e:a[i]?=some (p,v)):MvOk g (AM g q (a.take i)) p v:=by
 clear 5(ua8.mp e)hi e';have hd:a.drop i=(p,v)::a.drop (i+1):=by rw[ub0 hi,e']
 rw[<-ud1 i a,KK,hd,okQ] at h;exact h.2.1
theorem Fv(h:GOk g){q:Nat}(hq:q<g.length):GSOk g.length (AL g q):=by
 unfold AL;rw[ua7,ub2 hq];exact h.all _ (ui3 hq)
theorem Cv(hq:q<g.length):atI (g.map GS.d) q=some (AL g q).d:=by
 unfold atI;rw[BA (by lia) (by rw[uj1];lia)];show(g.map GS.d)[(q:Int).toNat]?=_;unfold AL;rw[ug5,ug2,ua7,ub2 hq];rfl
variable{p:Nat}
theorem Fr(hp:p<(AL g q).ws.length):∃side ws,AL g q=.st side ws/\p<ws.length/\ws[p]?=some (wdAt g q p):=by
 unfold wdAt
 cases e:AL g q with
 |fin=>rw[e] at hp;simp[GS.ws] at hp
 |st side ws=>
   rw[e] at hp;have hp:p<ws.length:=hp;refine⟨side,ws,rfl,hp,?_⟩;show ws[p]?=some (ws.getD p _);rw[ua7,ub2 hp];rfl
theorem GO{ws:List (Str×Sh×Int)}{w:Str×Sh×Int}(e:ws[p]?=some w):atI (ws.map wdD) p=some (wdD w):=by
 obtain⟨hp,_⟩:=ua8.mp e;unfold atI;rw[BA (by lia) (by rw[uj1];lia)];show(ws.map wdD)[(p:Int).toNat]?=_;rw[ug5,ug2,e];rfl
theorem Dp(h:GOk g){q p:Nat}(hq:q<g.length)(hp:p<(AL g q).ws.length):WOk g.length (wdAt g q p):=by
 clear 5(Fr hp)side ws e hp' e2;have:=Fv h hq;rw[e] at this
 cases this with
 |st _ _ _ _ h5=>exact h5 _ (ud9 e2)
theorem VO(h:GOk g){q p:Nat}(hq:q<g.length)(hp:p<(AL g q).ws.length):Bh g q p<g.length:=by
 have:=Dp h hq hp;unfold Bh;have h1:=this.lo;have h2:=this.hi;lia
theorem N1{g:List GS}(h:GOk g):∀{a:List Mv}{q:Nat},q<g.length->okQ g q a->AM g q a<g.length
 |[],q,hq,_=>hq
 |(p,v)::r,q,hq,hk=>by
   rw[okQ] at hk;rw[AM];exact N1 h (VO h hq hk.1.pl) hk.2
theorem O0{ws:List (Str×Sh×Int)}(nd:(ws.map (·.1)).Nodup){p:Nat}{w:Str×Sh×Int}(e:ws[p]?=some w):(ws.findIdx? λx=>x.1==w.1)=some p:=by
 clear 5(ua8.mp e)hp ep;refine HL (λi hi hip=>?_) e (by simp);rw[<-ep];have hne:¬ws[i].1=ws[p].1:=λz=>by
  have h1:i<(ws.map (·.1)).length:=by rw[uj1];exact hi
  have h2:p<(ws.map (·.1)).length:=by rw[uj1];exact hp
  have:(ws.map (·.1))[i]=(ws.map (·.1))[p]:=by rw[List.getElem_map,List.getElem_map];exact z
  have:=(uh1 nd).mp this;lia
 simpa using hne
theorem N6:∀{xs:List D},(∀d∈xs,okD d=true)->oks xs=true
 |[],_=>by rw[oks]
 |d::r,h=>by rw[oks,h d uf1,N6 λx m=>h x (ud6 _ m)];rfl
theorem FJ:∀(n:Nat) (s:Sh),s.depth<=n->wf s=true->∀v,Ai s v=true->okD v=true
 |0,s,h,_,_,_=>absurd s.depth_pos (by lia)
 |n+1,s,hd,hw,v,h=>by
   cases s with
   |nothing=>cases v<;>first|rfl|(simp[Ai,Gf] at h;done)
   |number lo hi=>cases v<;>first|rfl|(simp[Ai] at h;done)
   |text q=>
     simp only[wf,uh6,ug9] at hw
     cases v<;>simp only[Ai,uf6] at h
     simp only[uh6,ug9] at h;rw[okD,ug9];lia
   |list s q=>
     rw[Sh.depth] at hd;simp only[wf,uh6,ug9] at hw
     cases v<;>simp only[Ai,uf6] at h
     simp only[uh6,ug9,ui1] at h;rw[okD];exact N6 λd m=>FJ n s (by lia) hw.2 d (h.2 d m)
   |pair a b=>
     rw[Sh.depth] at hd;simp only[wf,uh6] at hw;unfold Ai at h
     split at h
     .rw[uh6] at h;rw[okD,oks,oks,oks,FJ n a (by lia) hw.1 _ h.1,FJ n b (by lia) hw.2 _ h.2];rfl
     .cases h
   |choice ss=>
     rw[Sh.depth] at hd;simp only[wf,uh6,ug9] at hw;unfold Ai at h
     split at h
     .next o k x=>
      simp only[uh6,ug9] at h;have hk:k.toNat<ss.length:=by lia
      have e1:ss[k.toNat]?=some ss[k.toNat]:=ub2 hk;have h2:=h.2;rw[BY ss _ _ _ e1] at h2;have ho:o=("of":Str):=eq_of_beq h.1.1;have hx:=FJ n _ (um3 (B1 ss _ _ e1) (by lia)) (CJ hw.2 _ (ui3 hk)) x h2;subst ho;have hl:okD (.str ("of":Str))=true:=by decide +kernel
      rw[okD,oks,oks,oks,oks,hl,hx];rfl
     .cases h
def GP(f:Fn):Prop:=∀(g:List GS) (q p:Nat) (v:D),GOk g->MvOk g q p v->Pure1 f [(AL g q).d,Gs g q p v] (.int p)
theorem Ly{cf:Fn}(hf:Gv cf 3)(hp:IX cp):GP (fnOf 2 3 (FQ cf cp)):=by
 intro g q p v hg hm S;refine Am rfl ?_;unfold FQ;clear 5(Fr hm.pl)side ws e hpl ew;have hgs:=Fv hg hm.lt;have hw:=Dp hg hm.lt hm.pl;have hfit:=hm.fit;unfold Gs;rw[e] at hgs⊢;generalize wdAt g q p=w at ew hw hfit⊢;have hov:okD v=true:=FJ 3 w.2.1 hw.dep hw.ok v hfit;show W _ ⟨[vw (.tup [.str side,.lst (ws.map wdD)]),vw (.tup [.str side,.str w.1,v]),none],S⟩ _;right;refine CW (by simp) ?_;right;have hpn:=hp g.length (.st side ws) w.1 hgs;have hidx:((GS.st side ws).ws.findIdx? λx=>x.1==w.1)=some p:=by
  cases hgs with
  |st _ _ _ h4 _=>exact O0 h4 ew
 rw[hidx] at hpn;refine hpn.use ?_;show Hm _ _ .next ⟨[vw (.tup [.str side,.lst (ws.map wdD)]),vw (.tup [.str side,.str w.1,v]),vw (.int p)],S⟩;right;refine AG (GO ew) ?_;unfold wdD;right;refine(hf w.2.1 hw.dep v hov).use ?_;rw[hfit];right;exact⟨rfl,rfl⟩
def Gx(f:Fn):Prop:=∀(g:List GS) (q p:Nat),GOk g->q<g.length->p<(AL g q).ws.length->Pure1 f [.lst (g.map GS.d),.tup [.int q,.int p]] (.int (Bh g q p))
theorem VP:Gx (fnOf 2 2 FS):=by
 intro g q p hg hq hp S;refine Am rfl ?_;unfold FS;clear 5(Fr hp)side ws e hpl ew;have hw:=Dp hg hq hp;have hlo:=hw.lo;right;refine AG (Cv hq) ?_;rw[e,GS.d];right;refine AG (GO ew) ?_;unfold wdD;right;refine⟨?_,rfl⟩;unfold Bh
 congr 1
 lia
variable{y:D}
theorem t7{a0 a1 e4 e5 e6:Option Sl}{x:D}{X Y:List D}(h:x=y)(h2:X=Y):(⟨[a0,a1,vw x,some (.own X),e4,e5,e6],S⟩:T)=⟨[a0,a1,vw y,some (.own Y),e4,e5,e6],S⟩:=by subst h h2;rfl
abbrev kR:Key:=.inr (Str.ofString "rest")
abbrev kM:Key:=.inr (Str.ofString "mixed")
abbrev kC:Key:=.inr (Str.ofString "count")
abbrev Z7(a b c:D):List (Key×D):=[(kR,a),(kM,b),(kC,c)]
def Room(k r:Nat)(S:List Ob):Prop:=∃(a c:Int) (b:Bool),S[k]?=some (.dct (Z7 (.int a) (.bl b) (.int c)))/\0<=c/\c+r<=1000000000000000000000000000000
theorem PV{i j:Int}(h1:i.natAbs<2 ^ 512)(h2:j.natAbs<2 ^ 512)(h:P (.int (i*j)) t):W (Jd (.int i) (.int j)) t P:=
 ⟨_,_,by simp only[Jd,i2C,MF,ul0 h1,ul0 h2];rfl,h⟩
theorem UR{i j:Int}(h1:0<j)(h2:j<18446744073709551616)(h:P (.int (i/j)) t):W (Iz (.int i) (.int j)) t P:=
 ⟨_,_,by simp only[Iz,i2C,Ml,ul0 h1,ul0 h2];rfl,h⟩
theorem JS{i:Int}(h0:0<=i)(h:i<10000000000000000000000000000000000000000000000000000000000000000000000000000000):i.natAbs<2 ^ 512:=by
 have:(10000000000000000000000000000000000000000000000000000000000000000000000000000000:Nat)<=2 ^ 512:=by decide
 lia
theorem AT{k:Nat}{o':Ob}(h:S[k]?=some o):(S.set k o')[k]?=some o':=IA h
theorem Ca{x:Ob}:(S++[x])[S.length]?=some x:=by simp
noncomputable def cs:Nat->Nat
 |0=>10
 |d+1=>10+3*cs d
theorem ZH(d:Nat):10<=cs d:=by cases d<;>simp[cs]
theorem GJ{m:Nat}(h:n<=m)(hm:m<=1000:=by decide):B9 (n:Int)=true:=By (by lia) (by lia)
variable{ss:List Sh}
theorem bD(h:∀x∈ss,x.depth<=n):(Sh.choice ss).depth<=n+1:=by
 rw[Sh.depth];refine Nat.succ_le_succ ?_
 induction ss with
 |nil=>rw[EW];exact un6 _
 |cons x r ih=>rw[EW];exact Nat.max_le.mpr ⟨h x uf1,ih λy m=>h y (ud6 _ m)⟩
structure Drawn(k r:Nat)(dp:Nat)(v:D)(S':List Ob):Prop where
 ex:∃s:Sh,v=s.d/\s.depth<=dp/\wf s=true
 pool:Room k r S'
theorem XH{s:Sh}{q:Int}{m:Nat}(h:(Sh.list s q).depth<=m+1):s.depth<=m:=by rw[Sh.depth] at h;exact uc4 h
theorem SQ{a b:Sh}{m:Nat}(h:(Sh.pair a b).depth<=m+1):a.depth<=m/\b.depth<=m:=by rw[Sh.depth] at h;lia
theorem SO{m:Nat}(h:(Sh.choice ss).depth<=m+1):∀x∈ss,x.depth<=m:=λx hx=>by rw[Sh.depth] at h;exact um3 (Il hx) (uc4 h)
theorem ae{k:Nat}(h:k<ss.length):atI (shD ss) (k:Int)=some (ss[k]).d:=by
 unfold atI;rw[BA (by lia) (by rw[DS];lia)];show(shD ss)[(k:Int).toNat]?=_;rw[ug5,FA,ub2 h];rfl
noncomputable def vB:Nat->Nat
 |0=>10
 |m+1=>10+vB m*3
theorem Q8(h:wf (.number lo hi)=true):lo<=hi/\0<hi-lo+1/\hi-lo+1<4611686018427387904/\wid (hi-lo).toNat<=8:=by
 simp only[wf,uh6,ug9] at h;refine⟨by lia,by lia,by lia,GN 8 _ ?_⟩;have:(256:Nat) ^ 8=18446744073709551616:=by decide
 lia
theorem VU{g:Int}(z0:0<=g)(z1:g<hi-lo+1):lo<=lo+g/\lo+g<=hi:=by lia
theorem UG{g q:Int}(c:Nat)(g0:0<=g)(q0:0<=q)(g1:g<(c:Int)+1):∃m:Nat,(if g<q then g else q)=m/\m<=c/\(m:Int)<=q:=⟨(if g<q then g else q).toNat,by split<;>lia⟩
structure Val(k r:Nat)(s:Sh)(c:Nat)(v:D)(S':List Ob):Prop where
 fit:Ai s v=true
 len:(Aq s v).length<=c
 pool:Room k r S'
def okB(g:List GS):Nat->List Mv->Prop
 |_,[]=>True
 |q,(p,v)::r=>(Aq (wdAt g q p).2.1 v).length<=400/\okB g (Bh g q p) r
structure TOk(g:List GS)(mv:List Mv):Prop where
 ok:okQ g 0 mv
 bd:okB g 0 mv
 len:mv.length<=60
theorem LN{k:Nat}{h:List D->List D->Option (List D)}{g:M (List D)}(w:W f t λo t1=>o=.obj k/\∃xs0,t1.S[k]?=some (.lst xs0)/\W g t1 λds t2=>∃xs ys,t2.S[k]?=some (.lst xs)/\h xs ds=some ys/\P .non ⟨t2.env,t2.S.set k (.lst ys)⟩):W (objM h f g) t P:=by
 unfold objM;refine W_bnd.mpr (w.mono λo t1 z9=>?_);clear 5 z9 e xs0 e1 w;subst e;clear 5 w ds t2 e2 xs ys e3 e4 p;refine⟨_,_,?_,p⟩;simp only[e1,bnd,e2,e3,e4];rfl
def AB(g:List GS)(sd:Str):Nat->List Mv->List D
 |_,[]=>[]
 |q,(p,v)::r=>(if (AL g q).side=sd then .int p::Aq (wdAt g q p).2.1 v else [])++AB g sd (Bh g q p) r
theorem E8(g:List GS)(sd:Str):∀(q:Nat) (a b:List Mv),AB g sd q (a++b)=AB g sd q a++AB g sd (AM g q a) b
 |q,[],b=>rfl
 |q,(p,v)::r,b=>by rw[ui4,AB,AB,AM,E8 g sd _ r b,ug4]
theorem Kb(g:List GS):∀(q:Nat) (a:List Mv) (i:Nat) (p:Nat) (v:D),a[i]?=some (p,v)->(Cl g q a)[i]?=some (.tup [.int (AM g q (a.take i)),.int p])
 |q,[],i,p,v,h=>by simp at h
 |q,(p',v')::r,0,p,v,h=>by
   simp at h;clear 5 h rfl rfl;rfl
 |q,(p',v')::r,i+1,p,v,h=>by
   rw[Cl,ub6,Kb g _ r i p v (by simpa using h),ue9,AM]
abbrev kL:Key:=.inr (Str.ofString "left")
abbrev kRt:Key:=.inr (Str.ofString "right")
theorem kLR:¬kL=kRt:=by intro h;injection h with h;rw[Ia] at h;exact absurd h (by decide)
theorem kRL:¬kRt=kL:=λh=>kLR h.symm
theorem sLR:¬Str.ofString "left" = Str.ofString "right":=λh=>kLR (gP Sum.inr h)
variable{a b:D}
theorem KG:B5 [(kL,a),(kRt,b)] kL=some a:=by simp[B5,uj9]
theorem KH:B5 [(kL,a),(kRt,b)] kRt=some b:=by
 unfold B5;rw[uj9,show decide (kL=kRt)=false from uk4 kLR];simp[uj9]
theorem My:Ej [(kL,a),(kRt,b)]=[(kL,a),(kRt,b)]:=by
 unfold Ej;simp only[uj7,List.foldl_nil];have e1:BI [] kL a=[(kL,a)]:=by simp[BI]
 rw[e1];unfold BI;rw[gX (by simp only[ul5,List.any_nil,ul4,ug9];exact kLR)];rfl
theorem VB{d:D}:BI [(kL,a),(kRt,b)] kL d=[(kL,d),(kRt,b)]:=by
 unfold BI;rw[gW (by simp)];simp only[ul3,um7,gS,gX kRL]
theorem VC{d:D}:BI [(kL,a),(kRt,b)] kRt d=[(kL,a),(kRt,d)]:=by
 unfold BI;rw[gW (by simp)];simp only[ul3,um7,gS,gX kLR]
theorem WZ(hg:GOk g){q p:Nat}{v:D}(h:MvOk g q p v):(AL g q).side=Str.ofString "left"\/(AL g q).side=Str.ofString "right":=by
 clear 5(Fr h.pl)side ws e hpl ew;have:=Fv hg h.lt;rw[e] at this⊢
 cases this with
 |st hs _ _ _ _=>exact hs
abbrev sL:Str:=Str.ofString "left"
abbrev sR:Str:=Str.ofString "right"
structure Wr(K A B:Nat)(S:List Ob)(xs ys:List D):Prop where
 k:S[K]?=some (.dct [(kL,.obj A),(kRt,.obj B)])
 a:S[A]?=some (.lst xs)
 b:S[B]?=some (.lst ys)
 ab:A≠B
 ka:K≠A
 kb:K≠B
theorem J8{x:Ob}(h:i≠j)(e:S[j]?=some o):(S.set i x)[j]?=some o:=by rw[ud8 h];exact e
variable{K B:Nat}
theorem Wr.setA{A:Nat}{zs:List D}(h:Wr K A B S xs ys):Wr K A B (S.set A (.lst zs)) zs ys:=⟨J8 (Ne.symm h.ka) h.k,IA h.a,J8 h.ab h.b,h.ab,h.ka,h.kb⟩
theorem Wr.setB{A:Nat}{zs:List D}(h:Wr K A B S xs ys):Wr K A B (S.set B (.lst zs)) xs zs:=⟨J8 (Ne.symm h.kb) h.k,J8 (Ne.symm h.ab) h.a,IA h.b,h.ab,h.ka,h.kb⟩
def FrO(F:List (Nat×Ob))(k:Nat)(S:List Ob):Prop:=∀p∈F,p.1≠k/\S[p.1]?=some p.2
def dL(F:List (Nat×Ob))(S:List Ob):Prop:=∀p∈F,S[p.1]?=some p.2
def ZF(F:List (Nat×Ob))(k r:Nat)(S:List Ob):Prop:=Room k r S/\FrO F k S
structure ValF(F:List (Nat×Ob))(k r:Nat)(s:Sh)(c:Nat)(v:D)(S':List Ob):Prop where
 fit:Ai s v=true
 len:(Aq s v).length<=c
 pool:ZF F k r S'
noncomputable def GS.sd:GS->Str
 |.fin=>Str.ofString "end"
 |.st s _=>s
inductive Odd(x:GS):D->Prop
 |non:Odd x .non
 |lst {ds:List D}:Odd x (.lst ds)
 |two {a b:D}:Odd x (.tup [a,b])
 |four {a b c d:D}:Odd x (.tup [a,b,c,d])
 |sideN {b c:D}:Odd x (.tup [.non,b,c])
 |side {s:Str}{b c:D}:¬s=x.sd->Odd x (.tup [.str s,b,c])
 |nmN {s:Str}{c:D}:Odd x (.tup [.str s,.non,c])
 |nmI {s:Str}{i:Int}{c:D}:Odd x (.tup [.str s,.int i,c])
 |nm {s nm:Str}{c:D}:(x.ws.findIdx? λw=>w.1==nm)=none->Odd x (.tup [.str s,.str nm,c])
 |val {s nm:Str}{c:D}{p:Nat}{w:Str×Sh×Int}:(x.ws.findIdx? λw=>w.1==nm)=some p->x.ws[p]?=some w->okD c=true->Ai w.2.1 c=false->Odd x (.tup [.str s,.str nm,c])
def Rq(n:Nat)(d:D):Prop:=∀m,n<=m->eqN m d d=some true
theorem Ij{i:Int}:Rq n (.int i):=λm _=>by cases m<;>(show some (i==i)=some true;rw[ui7])
theorem J3{i:Str}:Rq n (.str i):=λm _=>by cases m<;>(show some (i==i)=some true;rw[ui7])
theorem Rw:Rq n .non:=λm _=>by cases m<;>rfl
theorem J4(h:∀x∈xs,Rq n x):Rq (n+1) (.tup xs):=λm hm=>by
 obtain⟨k,rfl⟩:∃k,m=k+1:=fy (by lia);have e:Dx (eqN k) xs xs=some true:=EZ λx hx=>h x hx k (by lia);rw[eqN,e];simp
theorem GH(h:∀x∈xs,Rq n x):Rq (n+1) (.lst xs):=λm hm=>by
 obtain⟨k,rfl⟩:∃k,m=k+1:=fy (by lia);rw[eqN,gW rfl];exact EZ λx hx=>h x hx k (by lia)
def mB:Nat->Nat
 |0=>0
 |m+1=>10+vB m*2+mB m*2
structure Mis(n:Nat)(s:Sh)(v:D):Prop where
 ok:okD v=true
 no:Ai s v=false
 rq:Rq n v
structure Fit(n:Nat)(s:Sh)(v:D):Prop where
 ok:okD v=true
 fit:Ai s v=true
 rq:Rq n v
def Gr(S S':List Ob):Prop:=S.length<=S'.length/\∀i,i<S.length->S'[i]?=S[i]?
theorem Gr.refl:Gr S S:=⟨un5 _,λ_ _=>rfl⟩
theorem Gr.trans{S S1 S2:List Ob}(a:Gr S S1)(b:Gr S1 S2):Gr S S2:=⟨um3 a.1 b.1,λi h=>(b.2 i (uf0 h a.1)).trans (a.2 i h)⟩
theorem Gr.app{ex:List Ob}:Gr S (S++ex):=⟨by rw[uf4];lia,λi h=>ua9 h⟩
theorem Gr.set{S S':List Ob}{k:Nat}{o:Ob}(a:Gr S S')(h:S.length<=k):Gr S (S'.set k o):=⟨by rw[uj6];exact a.1,λi hi=>by rw[ud8 (by lia)];exact a.2 i hi⟩
theorem Gr.get{S S':List Ob}{k:Nat}{o:Ob}(a:Gr S S')(h:S[k]?=some o):S'[k]?=some o:=by rw[a.2 k (ua8.mp h).1];exact h
abbrev lr(a b:D):List (Key×D):=[(kL,a),(kRt,b)]
abbrev dP(a b:Nat):List (Key×D):=lr (.int a) (.int b)
noncomputable def onS{α:Type}(s:Str)(a b:α):α:=if s=sL then a else b
theorem Yr{s:Str}(h:s=sL\/s=sR):B5 (lr a b) (.inr s)=some (onS s a b):=by
 unfold onS;rcases h with rfl|rfl
 .rw[gW rfl];exact KG
 .rw[gX (Ne.symm sLR)];exact KH
theorem QU{s:Str}{d:D}(h:s=sL\/s=sR):BI (lr a b) (.inr s) d=lr (onS s d a) (onS s b d):=by
 unfold onS;rcases h with rfl|rfl
 .rw[gW rfl,gW rfl];exact VB
 .rw[gX (Ne.symm sLR),gX (Ne.symm sLR)];exact VC
inductive Sr where
 |stop
 |brk (k:Nat) (s:Str)
 |next (m:D) (h a b:Nat)
def Cw(side:Str)(ws:List (Str×Sh×Int))(w:List Nat)(p:Nat):RR×Nat:=match w[p]? with
 |none=>(.short,0)
 |some c=>match ws[c]? with
   |none=>(.broken p,0)
   |some wd=>((pSh 3 wd.2.1).run w (p+1),c)
def Hf(side:Str)(ws:List (Str×Sh×Int))(w:List Nat)(p:Nat):D:=match Cw side ws w p with
 |(.short,_)=>.non
 |(.broken k,_)=>.exc "Broken" [.int k,.str side]
 |(.told v e,c)=>.tup [.tup [.str side,.str (ws.getD c (Str.ofString "",.nothing,0)).1,v],.int (ws.getD c (Str.ofString "",.nothing,0)).2.2,.int e]
def af(g:List GS)(wl wr:List Nat)(h a b:Nat):Sr:=match AL g h with
 |.fin=>.stop
 |.st side ws=>match Cw side ws (onS side wl wr) (onS side a b) with
   |(.short,_)=>.stop
   |(.broken k,_)=>.brk k side
   |(.told v e,c)=>.next (.tup [.str side,.str (ws.getD c (Str.ofString "",.nothing,0)).1,v]) (ws.getD c (Str.ofString "",.nothing,0)).2.2.toNat (onS side e a) (onS side b e)
abbrev Rs:=List D×Nat×Nat×Nat×Option (Nat×Str)
def LO(g:List GS)(wl wr:List Nat):Nat->Nat->Nat->Nat->List D->Rs
 |0,h,a,b,t=>(t,h,a,b,none)
 |f+1,h,a,b,t=>match af g wl wr h a b with
   |.stop=>(t,h,a,b,none)
   |.brk k s=>(t,h,a,b,some (k,s))
   |.next m h' a' b'=>LO g wl wr f h' a' b' (t++[m])
structure Pl(g:List GS)(wl wr:List Nat)(h a b:Nat):Prop where
 h:h<g.length
 a:a<=wl.length
 b:b<=wr.length
def Wir(S:List Ob)(d:D)(w:List Nat):Prop:=d=.lst (wD w)\/∃k,d=.obj k/\S[k]?=some (.lst (wD w))
def PureS(S:List Ob)(f:Fn)(ds:List D)(r:D):Prop:=Wf f ds S λr' S'=>r'=r/\S'=S
theorem PureS.use{f:Fn}{r:D}(h:PureS S f ds r){P:D->List Ob->Prop}(p:P r S):Wf f ds S P:=h.mono λ_ _ ⟨e1,e2⟩=>by subst e1 e2;exact p
theorem Kg{d:D}(h:Wir t.S d w)(p:P (.int (w.length:Nat)) t):W (Az [d]) t P:=by
 rcases h with rfl|⟨k,rfl,e⟩
 .refine PR ?_;rw[E7];exact p
 .refine US e ?_;rw[E7];exact p
theorem Jo{d:D}{a b:Nat}(h:Wir t.S d w)(e:w[a]?=some b)(p:P (.int (b:Int)) t):W (ixD d (.int (a:Int))) t P:=by
 rcases h with rfl|⟨k,rfl,e'⟩
 .exact AG (Iv (Sa e)) p
 .exact W_ix_obj.mpr ⟨_,e',_,Iv (Sa e),p⟩
def BXw(f:Fn):Prop:=∀(S:List Ob) (wv:D) (w:List Nat) (a:Nat),Wir S wv w->PureS S f [wv,.int (a:Int)] (byX w[a]?)
theorem XB:BXw (fnOf 2 2 FN):=by
 intro S wv w a hv;refine Am rfl ?_;unfold FN;have hl:=E7 w
 cases h:w[a]? with
 |none=>
   have:=ub1.mp h;symm;refine Kg hv ?_;symm;refine EL (ul0 (by lia)) ?_;symm;exact⟨rfl,rfl⟩
 |some b=>
   obtain⟨hj,_⟩:=ua8.mp h;symm;refine Kg hv ?_;symm;refine CW (uk4 (by lia)) ?_;symm;refine Jo hv h ?_;exact⟨rfl,rfl,rfl⟩
local macro_rules | `(tactic| walk_at"y1")=>`(tactic| walk_at"x1")
def nbD(r:D):Prop:=∀a,r≠exB a
theorem EB:nbD exS:=λa h=>by injection h with h1;revert h1;decide
theorem MG{i:Int}:nbD (.int i):=λa h=>by cases h
theorem Yu:nbD (.str x):=λa h=>by cases h
theorem H9:nbD (.tup xs):=λa h=>by cases h
def PureB(S:List Ob)(f:Fn)(ds:List D)(r:D):Prop:=nbD r->PureS S f ds r
theorem PureB.use{f:Fn}{ds:List D}{r:D}{S:List Ob}(h:PureB S f ds r)(n:nbD r){P:D->List Ob->Prop}(p:P r S):Wf f ds S P:=PureS.use (h n) p
def UXn(f:Fn):Prop:=∀(S:List Ob) (wv:D) (m:Int) (w:List Nat) (a:Nat),Wir S wv w->PureB S f [.int m,wv,.int (a:Int)] (upX m a w[a]?)
theorem Zq(hc:BXw c):UXn (fnOf 3 4 (Ew c)):=by
 intro S wv m w a hv hnb;refine Am rfl ?_;unfold Ew;have hb:=hc S wv w a hv
 cases h:w[a]? with
 |none=>
   rw[h,byX] at hb;symm;refine hb.use ?_;symm;exact⟨rfl,rfl⟩
 |some b=>
   rw[h,byX] at hb;symm;refine hb.use ?_;symm;rw[h,upX] at hnb;rw[upX]
   by_cases q:(b:Int)<=m
   .rw[gW q];refine CW (uk4 (by lia)) ?_;symm;exact⟨rfl,rfl,rfl⟩
   .rw[gX q] at hnb;exact(hnb _ rfl).elim
def SXn(f:Fn):Prop:=∀(S:List Ob) (wv:D) (w:List Nat) (a:Nat),Wir S wv w->PureB S f [wv,.int (a:Int)] (sgX a w[a]?)
variable{cb:Fn}
theorem Zk{cs:Fn}(hs:Js cs)(hb:BXw cb):SXn (fnOf 2 3 (FR cs cb)):=by
 intro S wv w a hv hnb;refine Am rfl ?_;unfold FR;have hb:=hb S wv w a hv
 cases h:w[a]? with
 |none=>
   rw[h,byX] at hb;symm;refine hb.use ?_;symm;exact⟨rfl,rfl⟩
 |some c=>
   rw[h,byX] at hb;symm;rw[h,sgX] at hnb;refine hb.use ?_;symm;refine(hs c).use ?_;rw[sgX]
   by_cases q:Bt c=true
   .rw[gW q,q];symm;refine W_ix_str.mpr ⟨by decide +kernel,c,Ze q,?_⟩;exact⟨rfl,rfl,rfl⟩
   .have q':Bt c=false:=by simpa using q
    rw[gX q] at hnb;exact(hnb _ rfl).elim
theorem Y8(hl:Hv cl)(hb:BXw cb)(hw:GR cw){lo hi:Int}(hwf:wf (.number lo hi)=true)(w:List Nat)(a:Nat){S:List Ob}{wv:D}(hv:Wir S wv w):PureB S (fnOf 3 7 (C4 cl cb cw)) [(Sh.number lo hi).d,wv,.int (a:Int)] (rrD ((Fi lo (hi-lo).toNat (wid (hi-lo).toNat) 0).run w a)):=by
 intro hnb;have hsp:=KW hwf;have hwd:=GN 9 _ hsp;refine Am rfl ?_;unfold C4;rw[Sh.d];have em:hi-lo=(((hi-lo).toNat:Nat):Int):=by
  simp only[wf,uh6,ug9] at hwf;lia
 have hww:=λS P p=>(hw (hi-lo).toNat hsp).use (S:=S) (P:=P) p;rw[<-em] at hww;generalize (hi-lo).toNat=M at *;generalize hW:wid M=n at *;symm;refine hww _ _ ?_;rw[em];symm;refine DJ (By (by lia) (by lia)) ?_;refine DL (λr t=>∃(j x:Nat) (e6:Option Sl),j<=n/\r=(AH 0 ((n:Nat):Int).toNat).drop j/\(Fi lo M n 0).run w a=(Fi lo M (n-j) x).run w (a+j)/\t=⟨[vw (.tup [.str "number",.int lo,.int hi]),vw wv,vw (.int a),vw (.int M),vw (.int n),vw (.int x),e6],S⟩) _ _ ⟨0,0,none,un6 _,rfl,rfl,rfl⟩ ?_ ?_
 .rintro d r t ⟨j,x,e6,hj,hr,hrun,rfl⟩ _;clear 5(KO hr)rfl hr' hjn;rw[ug5] at hjn;rw[un3];obtain⟨e,he⟩:∃e,n-j=e+1:=⟨n-j-1,by lia⟩;rw[he,Fi] at hrun;have hby:=hb S wv w (a+j) hv;symm;refine EY (VJ (by decide) (by decide)) ?_;symm;rw[show((a:Int)+(j:Int))=((a+j:Nat):Int) by lia]
  cases h:w[a+j]? with
  |none=>
    rw[h,byX] at hby;rw[BL h] at hrun;refine hby.use ?_;symm;exact⟨by rw[hrun];rfl,rfl⟩
  |some b=>
    rw[h,byX] at hby;rw[AY h] at hrun;refine hby.use ?_;symm;refine⟨rfl,?_⟩;symm;rw[show((n:Int)-1-(j:Int))=((e:Nat):Int) by lia,show((x:Int)*256+(b:Int))=((x*256+b:Nat):Int) by lia];refine(hl M e (by lia)).use ?_;symm
    by_cases q:x*256+b<=M/2 ^ (8*e)
    .rw[gW (ul0 q)] at hrun;refine CW (uk4 (by lia)) ?_;symm;exact⟨j+1,x*256+b,_,hjn,hr',by rw[show n-(j+1)=e by lia,hrun,ul8],rfl⟩
    .rw[gX (by rw[ug9];exact q)] at hrun;rw[hrun] at hnb;exact(hnb _ rfl).elim
 .rintro t ⟨j,x,e6,hj,hr,hrun,rfl⟩;have hj':j=n:=by
   have:=gP List.length hr;rw[uk0,uh5,JY,ug5] at this;lia
  subst hj';rw[un2,Fi,Rd.run] at hrun;symm;exact⟨rfl,by rw[hrun];rfl,rfl⟩
variable{cu:Fn}
theorem WD{ca:Fn}(ha:SXn ca)(hu:UXn cu){q:Int}(hwf:wf (.text q)=true)(n:Nat)(w:List Nat)(a:Nat){S:List Ob}{wv:D}(hv:Wir S wv w):PureB S (fnOf 3 7 (DQ ca cu)) [(Sh.text q).d,wv,.int (a:Int)] (rrD ((pSh (n+1) (.text q)).run w a)):=by
 intro hnb;have hL:LIM=100000:=rfl;refine Am rfl ?_;unfold DQ;rw[Sh.d,pSh];rw[pSh] at hnb;simp only[wf,uh6,ug9] at hwf;have hup:=hu S wv q w a hv;symm
 cases h:w[a]? with
 |none=>
   rw[h,upX] at hup;rw[BL h];refine hup.use EB ?_;symm;exact⟨rfl,rfl⟩
 |some b=>
   rw[h,upX] at hup;rw[AY h] at hnb⊢
   by_cases hb:(b:Int)<=q
   .rw[gW hb] at hup;rw[gW (ul0 hb)] at hnb⊢;refine hup.use MG ?_;symm;refine DJ (By (by lia) (by lia)) ?_;refine DL (λr t=>∃(j:Nat) (y:Str) (e6:Option Sl),j<=b/\r=(AH 0 ((b:Nat):Int).toNat).drop j/\y.cps.toList.length=j/\(FY b []).run w (a+1)=(FY (b-j) y.cps.toList).run w (a+1+j)/\t=⟨[vw (.tup [.str "text",.int q]),vw wv,vw (.int a),vw (.int b),vw (.int ((a:Int)+1)),vw (.str y),e6],S⟩) _ _ ⟨0,Str.ofString "",none,un6 _,rfl,by decide +kernel,by rw[Nat.sub_zero,Nat.add_zero,show(Str.ofString "").cps.toList=[] by decide +kernel],rfl⟩ ?_ ?_
    .rintro d r t ⟨j,y,e6,hj,hr,hyl,hrun,rfl⟩ _;clear 5(KO hr)rfl hr' hjn;rw[ug5] at hjn;rw[un3];obtain⟨e,he⟩:∃e,b-j=e+1:=⟨b-j-1,by lia⟩;rw[he,FY] at hrun;have hsg:=ha S wv w (a+1+j) hv;symm;rw[show((a:Int)+1+(j:Int))=((a+1+j:Nat):Int) by lia]
     cases h2:w[a+1+j]? with
     |none=>
       rw[h2,sgX] at hsg;rw[BL h2] at hrun;refine hsg.use EB ?_;symm;exact⟨by rw[hrun];rfl,rfl⟩
     |some c=>
       rw[h2,sgX] at hsg;rw[AY h2] at hrun
       by_cases hc:Bt c=true
       .rw[gW hc] at hsg hrun;refine hsg.use Yu ?_;symm;refine Bc (by rw[DA y,hyl,hL];show j+1<=_;lia) ?_;refine⟨rfl,?_⟩;symm;refine⟨j+1,_,_,hjn,hr',?_,?_,rfl⟩
        .rw[K4,uf4,hyl];rfl
        .rw[hrun,K4,show b-(j+1)=e by lia,ul8 (a+1)]
       .rw[gX hc] at hsg hrun;rw[hrun] at hnb;exact(hnb _ rfl).elim
    .rintro t ⟨j,y,e6,hj,hr,hyl,hrun,rfl⟩;have hj':j=b:=by
      have:=gP List.length hr;rw[uk0,uh5,JY,ug5] at this;lia
     subst hj';rw[un2,FY,Rd.run] at hrun;have ey:(⟨y.cps.toList.toArray⟩:Str)=y:=W3 (by simp);rw[ey] at hrun;symm;refine⟨rfl,?_,rfl⟩;rw[hrun,rrD,show((a:Int)+1+(j:Int))=((a+1+j:Nat):Int) by lia]
   .rw[gX (by rw[ug9];exact hb)] at hnb;exact(hnb _ rfl).elim
def RXn(c:Fn)(s:Sh)(p:Rd):Prop:=∀(S:List Ob) (wv:D) (w:List Nat) (a:Nat),Wir S wv w->a<=w.length->PureB S c [s.d,wv,.int (a:Int)] (rrD (p.run w a))
theorem Wz{s:Sh}{p:Rd}{q:Int}(hu:UXn cu)(hq2:q<=250)(hc:RXn c s p)(w:List Nat)(a:Nat){S:List Ob}{wv:D}(hv:Wir S wv w):PureB S (fnOf 3 8 (DO c cu)) [(Sh.list s q).d,wv,.int (a:Int)] (rrD ((Rd.need (λb=>decide ((b:Int)<=q)) λb=>Fh p b []).run w a)):=by
 intro hnb;have hL:LIM=100000:=rfl;refine Am rfl ?_;unfold DO;rw[Sh.d];have hup:=hu S wv q w a hv;symm
 cases h:w[a]? with
 |none=>
   rw[h,upX] at hup;rw[BL h];refine hup.use EB ?_;symm;exact⟨rfl,rfl⟩
 |some b=>
   have hal:=(ua8.mp h).1;rw[h,upX] at hup;rw[AY h] at hnb⊢
   by_cases hb:(b:Int)<=q
   .rw[gW hb] at hup;rw[gW (ul0 hb)] at hnb⊢;refine hup.use MG ?_;symm;refine DJ (By (by lia) (by lia)) ?_;refine DL (λr t=>∃(j a':Nat) (ds:List D) (e6 e7:Option Sl),j<=b/\r=(AH 0 ((b:Nat):Int).toNat).drop j/\ds.length=j/\a'<=w.length/\(Fh p b []).run w (a+1)=(Fh p (b-j) ds).run w a'/\t=⟨[vw (.tup [.str "list",s.d,.int q]),vw wv,vw (.int a),vw (.int b),vw (.int (a':Int)),some (.own ds),e6,e7],S⟩) _ _ ⟨0,a+1,[],none,none,un6 _,rfl,rfl,hal,rfl,rfl⟩ ?_ ?_
    .rintro d r t ⟨j,a',ds,e6,e7,hj,hr,hdl,ha',hrun,rfl⟩ _;clear 5(KO hr)rfl hr' hjn;rw[ug5] at hjn;obtain⟨e,he⟩:∃e,b-j=e+1:=⟨b-j-1,by lia⟩;rw[he,Fh,Cc] at hrun;have hcc:=hc S wv w a' hv ha'
     cases h2:p.run w a' with
     |short=>
       rw[h2] at hrun hcc;symm;refine hcc.use EB ?_;rw[rrD];symm;exact⟨by rw[hrun];rfl,rfl⟩
     |broken k=>
       rw[h2] at hrun hcc;rw[hrun] at hnb;exact(hnb _ rfl).elim
     |told v a2=>
       have hle:=ET p a' ha' h2;rw[h2] at hrun hcc;symm;refine hcc.use H9 ?_;rw[rrD];symm;refine Bc (by rw[hdl,hL];lia) ?_;symm;exact⟨j+1,a2,ds++[v],_,_,hjn,hr',by rw[uf4,hdl];rfl,hle.2,by rw[hrun,show b-(j+1)=e by lia];rfl,rfl⟩
    .rintro t ⟨j,a',ds,e6,e7,hj,hr,hdl,ha',hrun,rfl⟩;have hj':j=b:=by
      have:=gP List.length hr;rw[uk0,uh5,JY,ug5] at this;lia
     subst hj';rw[un2,Fh,Rd.run] at hrun;symm;exact⟨rfl,by rw[hrun];rfl,rfl⟩
   .rw[gX (by rw[ug9];exact hb)] at hnb;exact(hnb _ rfl).elim
theorem WB{s r:Sh}{p p':Rd}(hs:RXn c s p)(hr:RXn c r p')(w:List Nat)(a:Nat){S:List Ob}{wv:D}(hv:Wir S wv w)(ha:a<=w.length):PureB S (fnOf 3 5 (DP c)) [(Sh.pair s r).d,wv,.int (a:Int)] (rrD ((p.bnd λv=>p'.bnd λu=>.done (.tup [v,u])).run w a)):=by
 intro hnb;refine Am rfl ?_;unfold DP;rw[Sh.d,Cc];rw[Cc] at hnb;have h1:=hs S wv w a hv ha
 cases e1:p.run w a with
 |short=>
   rw[e1] at h1;symm;refine h1.use EB ?_;rw[rrD];symm;exact⟨rfl,rfl⟩
 |broken k=>
   rw[e1] at hnb;exact(hnb _ rfl).elim
 |told v a'=>
   have hle:=ET p a ha e1;rw[e1] at h1 hnb;have h2:=hr S wv w a' hv hle.2;rw[RR.thn,Cc] at hnb⊢;symm;refine h1.use H9 ?_;rw[rrD];symm
   cases e2:p'.run w a' with
   |short=>rw[e2] at h2;refine h2.use EB ?_;rw[rrD];symm;exact⟨rfl,rfl⟩
   |broken k=>rw[e2] at hnb;exact(hnb _ rfl).elim
   |told u a2=>rw[e2] at h2;refine h2.use H9 ?_;rw[rrD];symm;exact⟨rfl,rfl,rfl⟩
theorem Rt{p:Nat->Rd}(hu:UXn cu)(hc:∀(k:Nat) (h:k<ss.length),RXn c ss[k] (p k))(w:List Nat)(a:Nat){S:List Ob}{wv:D}(hv:Wir S wv w):PureB S (fnOf 3 5 (C3 c cu)) [(Sh.choice ss).d,wv,.int (a:Int)] (rrD ((Rd.need (λb=>decide (b<ss.length)) λb=>(p b).bnd λv=>.done (.tup [.str "of",.int b,v])).run w a)):=by
 intro hnb;refine Am rfl ?_;unfold C3;rw[Sh.d];have hup:=hu S wv ((ss.length:Int)-1) w a hv;symm;rw[DS]
 cases h:w[a]? with
 |none=>
   rw[h,upX] at hup;rw[BL h];refine hup.use EB ?_;symm;exact⟨rfl,rfl⟩
 |some b=>
   have hal:=(ua8.mp h).1;rw[h,upX] at hup;rw[AY h] at hnb⊢
   by_cases hb:b<ss.length
   .rw[gW (show(b:Int)<=(ss.length:Int)-1 by lia)] at hup;rw[gW (ul0 hb),Cc] at hnb⊢;refine hup.use MG ?_;have e0:ss[b]?=some ss[b]:=ub2 hb;have hsd:atI (shD ss) (b:Int)=some ss[b].d:=Iv (by rw[FA,e0];rfl);have h2:=hc b hb S wv w (a+1) hv hal;symm;refine DH hsd ?_;symm;rw[show((a:Int)+1)=((a+1:Nat):Int) by lia]
    cases e2:(p b).run w (a+1) with
    |short=>rw[e2] at h2;refine h2.use EB ?_;rw[rrD];symm;exact⟨rfl,rfl⟩
    |broken k=>rw[e2] at hnb;exact(hnb _ rfl).elim
    |told u a2=>rw[e2] at h2;refine h2.use H9 ?_;rw[rrD];symm;exact⟨rfl,rfl,rfl⟩
   .rw[gX (by rw[ug9];exact hb)] at hnb;exact(hnb _ rfl).elim
def Hx(f:Fn)(n:Nat):Prop:=∀s:Sh,s.depth<=n->wf s=true->RXn f s (pSh n s)
theorem Ru(hn:∀lo hi,wf (.number lo hi)=true->RXn cn (.number lo hi) (pSh (n+1) (.number lo hi)))(ht:∀q,wf (.text q)=true->RXn ct (.text q) (pSh (n+1) (.text q)))
 (hl:∀s q,q<=250->s.depth<=n->wf s=true->RXn cl (.list s q) (pSh (n+1) (.list s q))) (hp:∀s r,s.depth<=n->r.depth<=n->wf s=true->wf r=true->RXn cp (.pair s r) (pSh (n+1) (.pair s r)))
 (hc:∀ss:List Sh,(∀(k:Nat) (h:k<ss.length),ss[k].depth<=n/\wf ss[k]=true)->RXn cc (.choice ss) (pSh (n+1) (.choice ss))):Hx (fnOf 3 4 (Do cc cp cl ct cn)) (n+1):=by
 intro s hs hwf S wv w a hv ha hnb;refine Am rfl ?_;unfold Do
 cases s with
 |nothing=>
   rw[Sh.d,pSh,Rd.run,rrD];symm;exact⟨rfl,rfl,rfl⟩
 |number lo hi=>
   have h:=hn lo hi hwf S wv w a hv ha;rw[Sh.d] at h⊢;symm;exact h.use hnb ⟨rfl,rfl⟩
 |text q=>
   have h:=ht q hwf S wv w a hv ha;rw[Sh.d] at h⊢;symm;exact h.use hnb ⟨rfl,rfl⟩
 |list s q=>
   simp only[wf,uh6,ug9] at hwf;rw[Sh.depth] at hs;have h:=hl s q hwf.1.2 (by lia) hwf.2 S wv w a hv ha;rw[Sh.d] at h⊢;symm;exact h.use hnb ⟨rfl,rfl⟩
 |pair s r=>
   simp only[wf,uh6] at hwf;rw[Sh.depth] at hs;have h:=hp s r (by lia) (by lia) hwf.1 hwf.2 S wv w a hv ha;rw[Sh.d] at h⊢;symm;exact h.use hnb ⟨rfl,rfl⟩
 |choice ss=>
   simp only[wf,uh6,ug9] at hwf;rw[Sh.depth] at hs;have h:=hc ss (λk hk=>⟨um3 (B1 ss _ _ (ub2 hk)) (by lia),CJ hwf.2 _ (ui3 hk)⟩) S wv w a hv ha;rw[Sh.d] at h⊢;symm;exact h.use hnb ⟨rfl,rfl⟩
theorem Px{ca cl':Fn}(e1:cc=fnOf 3 5 (C3 c cu))(e2:cp=fnOf 3 5 (DP c))(e3:cl=fnOf 3 8 (DO c cu))(e4:ct=fnOf 3 7 (DQ ca cu))(e5:cn=fnOf 3 7 (C4 cl' cb cw))
 (hu:UXn cu) (ha:SXn ca) (hl':Hv cl') (hb:BXw cb) (hw:GR cw) (hc:Hx c n):Hx (fnOf 3 4 (Do cc cp cl ct cn)) (n+1):=by
 subst e1 e2 e3 e4 e5;refine Ru (λlo hi h S wv w a hv _=>?_) (λq h S wv w a hv _=>WD ha hu h n w a hv) (λs q h2 hd h S wv w a hv _=>?_) (λs r d1 d2 w1 w2 S wv w a hv ha=>?_) λss h S wv w a hv _=>?_
 .rw[pSh];exact Y8 hl' hb hw h w a hv
 .rw[pSh];exact Wz hu h2 (hc s hd h) w a hv
 .rw[pSh];exact WB (hc s d1 w1) (hc r d2 w2) w a hv ha
 .rw[pSh];refine Rt hu (p:=λb=>pSh n (ss.getD b .nothing)) (λk hk=>?_) w a hv;show RXn c ss[k] (pSh n (ss.getD k .nothing));rw[ua7,ub2 hk,ui5];exact hc _ (h k hk).1 (h k hk).2
def isB(l:List D):Prop:=∀d∈l,∃x:Nat,d=.int (x:Int)/\x<256
theorem Mt:∀{l:List D},isB l->∃w:List Nat,l=wD w/\∀x∈w,x<256
 |[],_=>⟨[],rfl,λx z=>nomatch z⟩
 |d::r,h=>by
   clear 5(h d uf1)x rfl hx;obtain⟨w,rfl,hw⟩:=Mt λd m=>h d (ud6 _ m);refine⟨x::w,rfl,λy hy=>?_⟩;rcases ul2.mp hy with rfl|hy
   .exact hx
   .exact hw y hy
theorem KF{a b:List D}(ha:isB a)(hb:isB b):isB (a++b):=λd h=>(ui9.mp h).elim (ha d) (hb d)
theorem EK{x:Nat}{b:List D}(hx:x<256)(hb:isB b):isB (.int (x:Int)::b):=λd h=>by
 rcases ul2.mp h with rfl|h
 .exact⟨x,rfl,hx⟩
 .exact hb d h
theorem Q4:∀(w n:Nat),isB (nb w n)
 |0,n=>λd h=>nomatch h
 |w+1,n=>KF (Q4 w _) (EK (gO _ (by decide)) λd h=>nomatch h)
theorem EE:∀(n:Nat) (s:Sh),s.depth<=n->wf s=true->∀v,Ai s v=true->isB (Aq s v)
 |0,s,h,_,_,_=>absurd s.depth_pos (by lia)
 |n+1,s,hs,hw,v,hf=>by
   cases s with
   |nothing=>rw[Aq];exact λd h=>nomatch h
   |number lo hi=>
     cases v<;>simp[Ai] at hf
     rw[Aq];exact Q4 _ _
   |text q=>
     simp only[wf,uh6,ug9] at hw
     cases v<;>simp only[Ai,uf6] at hf
     rename_i x;simp only[uh6,ug9,ui1] at hf;rw[Aq];refine EK (by lia) λd h=>?_;clear 5(un0.mp h)c hc rfl;have:=hf.2 c hc;simp only[Bt,uh6,ug9] at this;exact⟨c,rfl,by lia⟩
   |list s q=>
     simp only[wf,uh6,ug9] at hw;rw[Sh.depth] at hs
     cases v<;>simp only[Ai,uf6] at hf
     rename_i ds;simp only[uh6,ug9,ui1] at hf;rw[Aq];refine EK (by lia) λd h=>?_;clear 5(List.mem_flatten.mp h)l hl hd;clear 5(un0.mp hl)e he rfl;exact EE n s (by lia) hw.2 e (hf.2 e he) d hd
   |pair s r=>
     simp only[wf,uh6] at hw;rw[Sh.depth] at hs;unfold Ai at hf
     split at hf
     .rw[uh6] at hf;rw[Aq];exact KF (EE n s (by lia) hw.1 _ hf.1) (EE n r (by lia) hw.2 _ hf.2)
     .cases hf
   |choice ss=>
     simp only[wf,uh6,ug9] at hw;rw[Sh.depth] at hs;unfold Ai at hf
     split at hf
     .next o k x=>
      simp only[uh6,ug9] at hf;clear 5(ub4 hf.1.2.1)j rfl;have hj:j<ss.length:=by have:=hf.1.2.2;lia
      have e1:ss[j]?=some ss[j]:=ub2 hj;have h2:=hf.2;rw[ug5,BY ss _ _ _ e1] at h2;rw[Aq,ug5,Du ss _ _ _ e1];exact EK (by lia) (EE n _ (um3 (B1 ss _ _ e1) (by lia)) (CJ hw.2 _ (ui3 hj)) x h2)
     .cases hf
theorem OM{l:List α}{ι f:α->D}{fr:List (Option Sl)}{elt:M D}{z:Option Sl}(h:∀a∈l,W elt ⟨vw (ι a)::fr,S⟩ λx t'=>x=f a/\t'=⟨vw (ι a)::fr,S⟩) :
 W (Bf (As 0) B4 elt (l.map ι)) ⟨z::fr,S⟩ λxs t'=>xs=l.map f/\t'.S=S:=by
 induction l generalizing z with
 |nil=>exact W_compL_nil.mpr ⟨rfl,rfl⟩
 |cons a r ih=>
   rw[ul3,A7];refine Ee (Ga ?_);rw[gW rfl];refine(h a uf1).mono λx t' z9=>?_;clear 5 z9 e1 e2;subst e1 e2;refine(ih (z:=vw (ι a)) λb hb=>h b (ud6 _ hb)).mono λxs t' z9=>?_;clear 5 z9 e1 e2;subst e1;exact⟨rfl,e2⟩
def OD(w:List Nat):Prop:=∀x∈w,x<256
structure Mvs(g:List GS)(wl wr:List Nat)(mv:List Mv)(h a b:Nat)(t:List D):Prop where
 t:t=AR g 0 mv
 ok:okQ g 0 mv
 h:AM g 0 mv=h
 a:AB g sL 0 mv=wD (wl.take a)
 b:AB g sR 0 mv=wD (wr.take b)
def Agr(c:Nat)(w w2:List Nat):Prop:=∀i,i<c->w2[i]?=w[i]?
abbrev Fu(wl wr:List Nat):Nat:=wl.length+wr.length+1
def Rch(g:List GS)(vl vr:List Nat)(tk:List D)(h a b:Nat):Prop:=Pl g vl vr h a b/\∀xl xr:List Nat,LO g (vl++xl) (vr++xr) (Fu (vl++xl) (vr++xr)) 0 0 0 []=LO g (vl++xl) (vr++xr) (Fu (vl++xl) (vr++xr)) h a b tk
def Fed(g:List GS)(vl vr:List Nat)(tk:List D)(h a b:Nat)(fl:D):Prop:=Rch g vl vr tk h a b/\match LO g vl vr (Fu vl vr) 0 0 0 [] with
 |(t',h',a',b',none)=>tk=t'/\h=h'/\a=a'/\b=b'/\fl=.non
 |(_,_,_,_,some (k,s))=>fl=.tup [.int (k:Nat),.str s]
inductive NR where
 |stop
 |brk (k:Nat)
 |msg (k:Nat) (m:D) (th e:Nat)
def nxR(gs:List (List GS))(w:List Nat)(side:Str)(p:Nat)(st:List Nat):NR:=match w[p]? with
 |none=>.stop
 |some k=>match gs[k]? with
   |none=>.brk p
   |some g=>match AL g (st.getD k 0) with
     |.fin=>.brk p
     | .st s ws=>if s=side then match Cw side ws w (p + 1) with
        |(.short,_)=>.stop
        |(.broken j,_)=>.brk j
        |(.told v e,c)=>.msg k (.tup [.str side,.str (ws.getD c (Str.ofString "",.nothing,0)).1,v]) (ws.getD c (Str.ofString "",.nothing,0)).2.2.toNat e
       else .stop
variable{gs:List (List GS)}{th e:Nat}
theorem FX{side:Str}{st:List Nat}{k:Nat}{m:D}(h:nxR gs w side p st=.msg k m th e):∃g ws v c,w[p]?=some k/\gs[k]?=some g/\AL g (st.getD k 0)=.st side ws/\Cw side ws w (p+1)=(.told v e,c)/\m=.tup [.str side,.str (ws.getD c (Str.ofString "",.nothing,0)).1,v]/\th=(ws.getD c (Str.ofString "",.nothing,0)).2.2.toNat:=by
 unfold nxR at h
 cases e1:w[p]? with
 |none=>rw[e1] at h;cases h
 |some k'=>
   rw[e1] at h;dsimp only at h
   cases e2:gs[k']? with
   |none=>rw[e2] at h;cases h
   |some g=>
     rw[e2] at h;dsimp only at h
     cases e3:AL g (st.getD k' 0) with
     |fin=>rw[e3] at h;cases h
     |st s ws=>
       rw[e3] at h;dsimp only at h
       by_cases q:s=side
       .rw[gW q] at h;subst q
        cases e4:Cw s ws w (p+1) with
        |mk r c=>
          rw[e4] at h
          cases r with
          |short=>cases h
          |broken j=>cases h
          |told v b=>cases h;exact⟨g,ws,v,c,rfl,e2,e3,e4,rfl,rfl⟩
       .rw[gX q] at h;cases h
theorem VG{side:Str}{ws:List (Str×Sh×Int)}{x:Nat}(h:Cw side ws w p=(.told v e,x)):p+1<=e/\e<=w.length:=by
 unfold Cw at h
 cases hb:w[p]? with
 |none=>rw[hb] at h;cases h
 |some y=>
   rw[hb] at h;dsimp only at h;obtain⟨hpl,_⟩:=ua8.mp hb
   cases hws:ws[y]? with
   |none=>rw[hws] at h;cases h
   |some wd=>
     rw[hws] at h;injection h with h1 h2
     exact ET _ _ hpl h1
theorem Gg{side:Str}{st:List Nat}{k:Nat}{m:D}(h:nxR gs w side p st=.msg k m th e):p+2<=e/\e<=w.length:=by
 obtain⟨g,ws,v,c,_,_,_,h4,_,_⟩:=FX h;have:=VG h4;lia
noncomputable def sd(s:Bool):Str:=if s=true then sL else sR
theorem J7:∀{s t:Bool},sd s=sd t->s=t:=by
 intro s t h
 cases s<;>cases t<;>first|rfl|(exact absurd h (by decide))
structure Ls where
 p:Bool->Nat
 st:List Nat
 hd:List (List D)
def Ls.nx(σ:Ls)(gs:List (List GS))(w:Bool->List Nat)(s:Bool):NR:=nxR gs (w s) (sd s) (σ.p s) σ.st
noncomputable def Ls.go(σ:Ls)(s:Bool)(k:Nat)(m:D)(th e:Nat):Ls:=⟨λx=>if x=s then e else σ.p x,σ.st.set k th,σ.hd.set k (σ.hd.getD k []++[m])⟩
def Stp(gs:List (List GS))(w:Bool->List Nat)(σ:Ls)(s:Bool)(τ:Ls):Prop:=∃k m th e,σ.nx gs w s=.msg k m th e/\τ=σ.go s k m th e
inductive Run(gs:List (List GS))(w:Bool->List Nat):Ls->Ls->Prop
 |refl (σ:Ls):Run gs w σ σ
 |step {σ τ ρ:Ls}{s:Bool}:Stp gs w σ s τ->Run gs w τ ρ->Run gs w σ ρ
variable{σ τ ρ:Ls}{s:Bool}
section
variable{gs:List (List GS)}{w:Bool->List Nat}
theorem Run.trans(a:Run gs w σ τ)(b:Run gs w τ ρ):Run gs w σ ρ:=by
 induction a with
 |refl=>exact b
 |step s _ ih=>exact .step s (ih b)
theorem Run.one(h:Stp gs w σ s τ):Run gs w σ τ:=.step h (.refl _)
theorem BS{l:List α}{a d:α}(h:i≠j):(l.set i a).getD j d=l.getD j d:=by
 rw[ua7,ud8 h,ua7]
theorem Jh{t:Bool}{k:Nat}{m:D}(h:σ.nx gs w s=.msg k m th e)(ht:t≠s)(hn:σ.nx gs w t≠.stop):(σ.go s k m th e).nx gs w t=σ.nx gs w t:=by
 obtain⟨g,ws,v,c,h1,h2,h3,_⟩:=FX h;unfold Ls.nx at hn⊢;have hp:(σ.go s k m th e).p t=σ.p t:=gX ht;rw[hp];unfold nxR at hn⊢
 cases e1:(w t)[σ.p t]? with
 |none=>rfl
 |some k'=>
   rw[e1] at hn;dsimp only at hn⊢
   cases e2:gs[k']? with
   |none=>rfl
   |some g'=>
     rw[e2] at hn;dsimp only at hn⊢
     by_cases q:k'=k
     .subst q;rw[h2] at e2
      cases e2
      rw[h3] at hn;dsimp only at hn;rw[gX λz=>ht (J7 z).symm] at hn;exact absurd rfl hn
     .rw[show(σ.go s k m th e).st.getD k' 0=σ.st.getD k' 0 from BS λz=>q z.symm]
theorem Qa{t:Bool}(hb:σ.nx gs w t=.brk j)(r:Run gs w σ τ):τ.nx gs w t=.brk j:=by
 induction r with
 |refl=>exact hb
 |@step σ τ ρ s h _ ih=>
   clear 5 h k m th e h1 rfl;have ht:t≠s:=λz=>by subst z;rw[hb] at h1;cases h1
   exact ih (by rw[Jh h1 ht (by rw[hb];exact λz=>by cases z),hb])
theorem U1{t:Bool}(a:Stp gs w σ s τ)(b:Stp gs w σ t ρ)(hst:s≠t):∃υ,Stp gs w τ t υ/\Stp gs w ρ s υ:=by
 clear 5 a k m th e h1 rfl;clear 5 b k' m' th' e' h2 rfl;have n1:=Jh h1 (Ne.symm hst) (by rw[h2];exact λz=>by cases z);have n2:=Jh h2 hst (by rw[h1];exact λz=>by cases z);have hk:k≠k':=by
  intro z;subst z;obtain⟨g,ws,_,_,_,g2,g3,_⟩:=FX h1;obtain⟨g',ws',_,_,_,g2',g3',_⟩:=FX h2;rw[g2] at g2'
  cases g2'
  rw[g3] at g3';injection g3' with q _
  exact hst (J7 q)
 refine⟨_,⟨k',m',th',e',n1.trans h2,rfl⟩,k,m,th,e,n2.trans h1,?_⟩;unfold Ls.go;dsimp only;rw[gC _ _ hk,BS hk,BS (Ne.symm hk),gC _ _ hk]
 congr 1
 funext x
 by_cases q:x=s
 .subst q;rw[gX hst,gW rfl,gW rfl]
 .rw[gX q,gX q]
def NF(gs:List (List GS))(w:Bool->List Nat)(σ:Ls):Prop:=∀s k m th e,σ.nx gs w s≠.msg k m th e
theorem ag(a:Stp gs w σ s τ)(r:Run gs w σ ρ)(n:NF gs w ρ):Run gs w τ ρ:=by
 induction r generalizing τ s with
 |refl=>obtain⟨k,m,th,e,h1,_⟩:=a;exact absurd h1 (n _ _ _ _ _)
 |@step σ υ ρ t h r ih=>
   by_cases q:s=t
   .subst q;clear 5 a k m th e h1 rfl;clear 5 h k' m' th' e' h2 rfl;rw[h1] at h2
    cases h2
    exact r
   .clear 5(U1 a h q)x h1 h2;exact .step h1 (ih h2 n)
theorem Zo(a:Run gs w σ τ)(r:Run gs w σ ρ)(n:NF gs w ρ):Run gs w τ ρ:=by
 induction a with
 |refl=>exact r
 |step h _ ih=>exact ih (ag h r n)
theorem Run.nf(r:Run gs w σ τ)(n:NF gs w σ):σ=τ:=by
 cases r with
 |refl=>rfl
 |step h _=>obtain⟨k,m,th,e,h1,_⟩:=h;exact absurd h1 (n _ _ _ _ _)
theorem Z1(a:Run gs w σ τ)(r:Run gs w σ ρ)(m:NF gs w τ)(n:NF gs w ρ):τ=ρ:=(Zo a r n).nf m
def Pre(l l':List (List D)):Prop:=l.length=l'.length/\∀k,∃x,l'.getD k []=l.getD k []++x
theorem Pre.refl{l:List (List D)}:Pre l l:=⟨rfl,λk=>⟨[],(uj3 _).symm⟩⟩
theorem Run.grow(r:Run gs w σ τ):(∀s,σ.p s<=τ.p s)/\Pre σ.hd τ.hd/\σ.st.length=τ.st.length:=by
 induction r with
 |refl=>exact⟨λ_=>un5 _,.refl,rfl⟩
 |@step σ τ ρ s h _ ih=>
   clear 5 h k m th e h1 rfl;have hle:=Gg h1;refine⟨λt=>?_,⟨?_,λj=>?_⟩,?_⟩
   .have:=ih.1 t
    by_cases q:t=s
    .subst q;have h2:(σ.go t k m th e).p t=e:=gW rfl;lia
    .have h2:(σ.go s k m th e).p t=σ.p t:=gX q;lia
   .rw[<-ih.2.1.1];exact(uj6 ..).symm
   .clear 5(ih.2.1.2 j)x hx;rw[hx]
    by_cases q:k=j
    .subst q
     by_cases hk:k < σ.hd.length
     .refine⟨[m]++x,?_⟩;show(σ.hd.set k (σ.hd.getD k []++[m])).getD k []++x=_;rw[ua7,ub8 hk,ui5,ug4]
     .refine⟨x,?_⟩;show(σ.hd.set k (σ.hd.getD k []++[m])).getD k []++x=_;rw[fz (by lia)]
    .refine⟨x,?_⟩;show(σ.hd.set k (σ.hd.getD k []++[m])).getD j []++x=_;rw[BS q]
   .rw[<-ih.2.2];exact(uj6 ..).symm
theorem Run.inn(r:Run gs w σ τ)(h:∀s,σ.p s<=(w s).length):∀s,τ.p s<=(w s).length:=by
 induction r with
 |refl=>exact h
 |@step σ τ ρ s h' r ih=>
   clear 5 h' k m th e h1 rfl;refine ih λt=>?_
   by_cases q:t=s
   .subst q;have h2:(σ.go t k m th e).p t=e:=gW rfl;have:=Gg h1;lia
   .have h2:(σ.go s k m th e).p t=σ.p t:=gX q;rw[h2];exact h t
end
theorem PC(s:Bool):sd s=sL\/sd s=sR:=by cases s<;>first|exact .inl rfl|exact .inr rfl
section
variable{gs:List (List GS)}{w:Bool->List Nat}
end
noncomputable def ls0(gs:List (List GS)):Ls:=⟨λ_=>0,gs.map λ_=>0,gs.map λ_=>[]⟩
def End(gs:List (List GS))(w:Bool->List Nat)(σ:Ls):Prop:=Run gs w (ls0 gs) σ/\NF gs w σ
noncomputable def SF:NR->Option Nat
 |.brk j=>some j
 |_=>none
def LH(gs:List (List GS))(w:Bool->List Nat)(σ:Ls):Option (Bool×Nat):=match SF (σ.nx gs w true) with
 |some j=>some (true,j)
 |none=>(SF (σ.nx gs w false)).map λj=>(false,j)
section
variable{gs:List (List GS)}{w:Bool->List Nat}
theorem ST(h:∀s j,σ.nx gs w s≠.brk j):LH gs w σ=none:=by
 have q:∀s,SF (σ.nx gs w s)=none:=λs=>by
  cases e:σ.nx gs w s with
  |brk j=>exact absurd e (h s j)
  |_=>rfl
 unfold LH;rw[q,q];rfl
theorem End.eq(h:End gs w σ)(k:End gs w τ):σ=τ:=Z1 h.1 k.1 h.2 k.2
end
section
variable{f:Str}{t:T}{P:D->T->Prop}{O:Out->T->Prop}{k:Nat}{n:Str}{fs:List (Str×D)}{v:D}
def Td(f:Str)(d:D):M D:=FK d λ_ _ fs t=>(fs.lookup f).map λv=>(v,t)
def KU(f:Str)(v d:D):M Out:=FK d λk n fs t=>if fs.length<1000 then some (.next,{t with S:=t.S.set k (.ins n (FZ f v fs))}) else none
theorem Zv{a:M D}(h:W a t λd t1=>W (Td f d) t1 P):W (Dz f a) t P:=Cy h
theorem C9(e:t.S[k]?=some (.ins n fs))(l:fs.lookup f=some v)(h:P v t):W (Td f (.obj k)) t P:=⟨_,_,by simp only[Td,FK,e,l];rfl,h⟩
theorem OA{gv ga:M D}(h:W gv t λv t1=>W ga t1 λd t2=>W (KU f v d) t2 O):W (E5 f gv ga) t O:=Cy (h.mono λ_ _ z=>Cy z)
theorem F9(e:t.S[k]?=some (.ins n fs))(l:fs.length<1000)(h:O .next ⟨t.env,t.S.set k (.ins n (FZ f v fs))⟩):W (KU f v (.obj k)) t O:=⟨_,_,by simp only[KU,FK,e,gW l],h⟩
theorem aP{g:Fn}{fl:M (List D)}(h:W fl t λds t1=>Wf g (.obj t1.S.length::ds) (t1.S++[.ins n []]) λr S'=>r=.non/\P (.obj t1.S.length) ⟨t1.env,S'⟩):W (LG n g fl) t P:=
 Cy (h.mono λds t1 ⟨r,S',e,e2,p⟩=>by subst e2;exact⟨_,_,by simp only[e],p⟩)
theorem aQ{g:Fn}{o:M D}{fl:M (List D)}(h:W o t λd t1=>∃k fs,d=.obj k/\t1.S[k]?=some (.ins n fs)/\W fl t1 λds t2=>Wf g (d::ds) t2.S λr S'=>P r ⟨t2.env,S'⟩):W (D6 n g o fl) t P:=by
 refine Cy (h.mono λd t1 z=>?_);clear 5 z k fs e1 e2 w;subst e1;clear 5 w ds t2 w1 r S' w2 p;refine⟨r,_,?_,p⟩;simp only[FK,e2,gW,bnd,w1,w2]
end
local macro_rules | `(tactic| walk_at"y1")=>`(tactic| first
 |walk_at"x1" |clear 31 Zv OA No)
abbrev rdF(g:List GS)(h W P:Nat):List (Str×D):=[("grammar",.lst (g.map GS.d)),("standing",.int (h:Nat)),("wires",.obj W),("places",.obj P)]
structure Rdr(n0:Nat)(S:List Ob)(k:Nat)(g:List GS)(vl vr:List Nat)(h a b W P l r:Nat):Prop where
 k0:n0<=k
 l0:n0<=l
 r0:n0<=r
 ne:l≠r
 k:S[k]?=some (.ins "Reader" (rdF g h W P))
 w:S[W]?=some (.dct (lr (.obj l) (.obj r)))
 p:S[P]?=some (.dct (dP a b))
 l:S[l]?=some (.lst (wD vl))
 r:S[r]?=some (.lst (wD vr))
def Low(n0:Nat)(S S':List Ob):Prop:=n0<=S'.length/\∀i,i<n0->S'[i]?=S[i]?
variable{n0:Nat}
theorem Low.refl(h:n0<=S.length):Low n0 S S:=⟨h,λ_ _=>rfl⟩
theorem Low.trans{n0:Nat}{S S1 S2:List Ob}(a:Low n0 S S1)(b:Low n0 S1 S2):Low n0 S S2:=⟨b.1,λi h=>(b.2 i h).trans (a.2 i h)⟩
theorem Low.set{n0 k:Nat}{S S1:List Ob}{o:Ob}(a:Low n0 S S1)(h:n0<=k):Low n0 S (S1.set k o):=⟨by rw[uj6];exact a.1,λi hi=>by rw[ud8 (by lia)];exact a.2 i hi⟩
variable{u:Ob}
theorem Ak(h:S[i]?=some u)(n:j≠i):(S.set j o)[i]?=some u:=by rw[ud8 n];exact h
theorem Bs(h:S[i]?=some o)(h':S[j]?=some u)(n:o≠u):i≠j:=λe=>by subst e;rw[h] at h';exact n (uj0 h')
def Kp(k:Nat)(S S':List Ob):Prop:=S.length<=S'.length/\∀i,i<S.length->i≠k->S'[i]?=S[i]?
theorem Kp.refl{k:Nat}:Kp k S S:=⟨un5 _,λ_ _ _=>rfl⟩
variable{S':List Ob}
theorem Kp.setk{k:Nat}(a:Kp k S S'):Kp k S (S'.set k o):=⟨by rw[uj6];exact a.1,λi h n=>by rw[ud8 (Ne.symm n)];exact a.2 i h n⟩
theorem Kp.set{k j:Nat}{S S':List Ob}{o:Ob}(a:Kp k S S')(h:S.length<=j):Kp k S (S'.set j o):=⟨by rw[uj6];exact a.1,λi hi n=>by rw[ud8 (by lia)];exact a.2 i hi n⟩
theorem Kp.app{k:Nat}(a:Kp k S S'):Kp k S (S'++[o]):=⟨by rw[uf4];exact um3 a.1 (uh8 _ _),λi hi n=>by rw[ua9 (uf0 hi a.1)];exact a.2 i hi n⟩
theorem Cn(h:S[i]?=some u):(S++[o])[i]?=some u:=by rw[ua9 (ua8.mp h).1];exact h
theorem B8(h:S[i]?=some u):i<S.length:=(ua8.mp h).1
local macro_rules | `(tactic| walk_at"y1")=>`(tactic| first
 |walk_at"x1" |clear 31 Zv OA No aQ aP)
def gsD(gs:List (List GS)):D:=.lst (gs.map λg=>.lst (g.map GS.d))
abbrev liF(gs:List (List GS))(W P N H:Nat):List (Str×D):=[("grammars",gsD gs),("wires",.obj W),("places",.obj P),("standings",.obj N),("heard",.obj H)]
def nD(l:List Nat):List D:=l.map λn=>.int (n:Nat)
def WirB(n0:Nat)(S:List Ob)(d:D)(w:List Nat):Prop:=d=.lst (wD w)\/∃k,d=.obj k/\k<n0/\S[k]?=some (.lst (wD w))
theorem WirB.wir{d:D}(h:WirB n0 S d w):Wir S d w:=h.imp id λ⟨k,a,_,b⟩=>⟨k,a,b⟩
theorem WirB.low{d:D}(h:WirB n0 S d w)(q:∀i o,i<n0->S[i]?=some o->S'[i]?=some o):WirB n0 S' d w:=h.imp id λ⟨k,a,b,c⟩=>⟨k,a,b,q k _ b c⟩
structure Lis(n0:Nat)(S:List Ob)(gs:List (List GS))(w:Bool->List Nat)(σ:Ls)(k W P N H:Nat)(hs:List Nat):Prop where
 ik:S[k]?=some (.ins "Listener" (liF gs W P N H))
 iw:∃x:Bool->D,S[W]?=some (.dct (lr (x true) (x false)))/\∀s,WirB n0 S (x s) (w s)
 ip:S[P]?=some (.dct (dP (σ.p true) (σ.p false)))
 it:S[N]?=some (.lst (nD σ.st))
 ih:S[H]?=some (.lst (hs.map .obj))
 hl:hs.length=gs.length
 hh:∀(i h:Nat),hs[i]?=some h->S[h]?=some (.lst (σ.hd.getD i []))
 nd:hs.Nodup
 nN:N∉hs
 nH:H∉hs
 ne:N≠H
 lP:n0<=P
 lN:n0<=N
 lh:∀h∈hs,n0<=h
 ls:σ.st.length=gs.length
 lo:∀(i:Nat) (g:List GS),gs[i]?=some g->σ.st.getD i 0<g.length
 ld:σ.hd.length=gs.length
 fw:∀i,2*(σ.hd.getD i []).length<=σ.p true+σ.p false
theorem lrF(F:Bool->D)(s:Bool):B5 (lr (F true) (F false)) (.inr (sd s))=some (F s):=by
 rw[Yr (PC s)]
 cases s<;>rfl
def nrD(s:Bool):NR->D
 |.stop=>.non
 |.brk j=>.exc "Broken" [.int (j:Nat),.str (sd s)]
 |.msg _ m th e=>.tup [m,.int (th:Nat),.int (e:Nat)]
theorem Jg{st:List Nat}(h:w[p]?=none):nxR gs w x p st=.stop:=by unfold nxR;rw[h]
theorem V0{k:Nat}{st:List Nat}(h:w[p]?=some k)(h2:gs[k]?=none):nxR gs w x p st=.brk p:=by unfold nxR;rw[h];dsimp only;rw[h2]
theorem VX{k:Nat}{st:List Nat}(h:w[p]?=some k)(h2:gs[k]?=some g)(h3:AL g (st.getD k 0)=.fin):nxR gs w x p st=.brk p:=by unfold nxR;rw[h];dsimp only;rw[h2];dsimp only;rw[h3]
theorem VZ{y:Str}{ws:List (Str×Sh×Int)}{k:Nat}{st:List Nat}(h:w[p]?=some k)(h2:gs[k]?=some g)(h3:AL g (st.getD k 0)=.st y ws)(n:y≠x):nxR gs w x p st=.stop:=by unfold nxR;rw[h];dsimp only;rw[h2];dsimp only;rw[h3];dsimp only;rw[gX n]
theorem VY{ws:List (Str×Sh×Int)}{k:Nat}{st:List Nat}(h:w[p]?=some k)(h2:gs[k]?=some g)(h3:AL g (st.getD k 0)=.st (sd s) ws)(hn:∀c v e,Cw (sd s) ws w (p+1)=(.told v e,c)->0<=(ws.getD c (Str.ofString "",.nothing,0)).2.2):nrD s (nxR gs w (sd s) p st)=Hf (sd s) ws w (p+1):=by
 unfold nxR Hf;rw[h];dsimp only;rw[h2];dsimp only;rw[h3];dsimp only;rw[gW rfl]
 cases e4:Cw (sd s) ws w (p+1) with
 |mk r c=>
   cases r with
   |short=>rfl
   |broken j=>rfl
   |told v b=>
     dsimp only;rw[nrD,Int.toNat_of_nonneg (hn c v b e4)]
theorem N2{side:Str}{ws:List (Str×Sh×Int)}{x:Nat}(h:Cw side ws w p=(.told v e,x)):x<ws.length:=by
 unfold Cw at h
 cases hb:w[p]? with
 |none=>rw[hb] at h;cases h
 |some y=>
   rw[hb] at h;dsimp only at h
   cases hws:ws[y]? with
   |none=>rw[hws] at h;cases h
   |some wd=>
     rw[hws] at h;injection h with h1 h2
     subst h2;exact(ua8.mp hws).1
theorem Ox{n:Int}{side:Str}{ws:List (Str×Sh×Int)}(h:GSOk n (.st side ws)){c:Nat}(hc:c<ws.length):0<=(ws.getD c (Str.ofString "",.nothing,0)).2.2/\(ws.getD c (Str.ofString "",.nothing,0)).2.2<n:=by
 cases h with
 |@st _ _ hs1 hs2 hs3 hs4 hs5=>
   have:=hs5 _ (ui3 hc);rw[ua7,ub2 hc,ui5];exact⟨this.lo,this.hi⟩
def Ok2(gs:List (List GS))(w:Bool->List Nat):Prop:=(∀g∈gs,GOk g)/\gs.length<=9/\∀s,(w s).length<=25000
theorem B6{d:D}(h:ds[i]?=some d):atI ds (i:Int)=some d:=by
 unfold atI;rw[BA (by lia) (by have:=(ua8.mp h).1;lia)];show ds[(i:Int).toNat]?=_;rw[ug5];exact h
theorem HY{l:List Nat}(h:i<l.length):(nD l)[i]?=some (.int ((l.getD i 0:Nat):Int)):=by
 unfold nD;rw[ug2,ub2 h,ua7,ub2 h];rfl
theorem Nn{k:Nat}{d:D}(e:t.S[k]?=some (.lst ds))(h:ds[i]?=some d)(p:P d t):L2.W (ixD (.obj k) (.int (i:Int))) t P:=W_ix_obj.mpr ⟨ds,e,d,B6 h,p⟩
def nwD:NR->D
 |.msg _ m th e=>.tup [m,.int (th:Nat),.int (e:Nat)]
 |_=>.non
theorem Zy{k:Nat}{d:D}(e:t.S[k]?=some (.lst xs))(hn:n<xs.length)(h:U () ⟨t.env,t.S.set k (.lst (xs.set n d))⟩):L2.W (F5 (.obj k) (.int (n:Int)) d) t U:=W_stOb.mpr ⟨xs,e,n,by rw[BA (by lia) (by lia),ug5],h⟩
theorem De{l:List α}{a d:α}(h:i<l.length):(l.set i a).getD i d=a:=by
 rw[ua7,ub8 h,ui5]
section
variable{n0:Nat}{S:List Ob}{gs:List (List GS)}{w:Bool->List Nat}{σ:Ls}{k W P N H:Nat}{hs:List Nat}
theorem XG(p:Bool->Nat)(s:Bool)(e:Nat):BI (dP (p true) (p false)) (.inr (sd s)) (.int (e:Nat))=dP (if true=s then e else p true) (if false=s then e else p false):=by
 rw[QU (PC s)]
 cases s<;>rfl
theorem Lis.go(R:Lis n0 S gs w σ k W P N H hs)(hg:∀g∈gs,GOk g){s:Bool}{kk th e h:Nat}{m:D}(q:σ.nx gs w s=.msg kk m th e)(hk:hs[kk]?=some h) :
 Lis n0 (((S.set h (.lst (σ.hd.getD kk []++[m]))).set N (.lst ((nD σ.st).set kk (.int (th:Nat))))).set P (.dct (dP (if true=s then e else σ.p true) (if false=s then e else σ.p false)))) gs w (σ.go s kk m th e) k W P N H hs:=by
 obtain⟨g,ws,v,c,_,h2,h3,h4,_,rfl⟩:=FX q;have hle:=Gg q;have hS:=R.hh kk h hk;have hm:h∈hs:=ud9 hk;have hkl:kk<gs.length:=(ua8.mp h2).1;clear 5 R.iw x iw hx;have nk:h≠k:=Bs hS R.ik (by simp);have nW:h≠W:=Bs hS iw (by simp);have nP:h≠P:=Bs hS R.ip (by simp);have nN:h≠N:=λz=>R.nN (by rw[<-z];exact hm);have nH:h≠H:=λz=>R.nH (by rw[<-z];exact hm);have Nk:N≠k:=Bs R.it R.ik (by simp);have NW:N≠W:=Bs R.it iw (by simp);have NP:N≠P:=Bs R.it R.ip (by simp);have Pk:P≠k:=Bs R.ip R.ik (by simp);have PW:P≠W:=λz=>by
  subst z;rw[R.ip] at iw;injection iw with iw
  injection iw with iw
  rcases hx true with e|⟨_,e,_⟩<;>rw[e] at iw<;>simp[dP,lr] at iw
 have PH:P≠H:=Bs R.ip R.ih (by simp);refine⟨Ak (Ak (Ak R.ik nk) Nk) Pk,⟨x,Ak (Ak (Ak iw nW) NW) PW,λs=>(hx s).low λi o hi q=>Ak (Ak (Ak q (by have:=R.lh h hm;lia)) (by have:=R.lN;lia)) (by have:=R.lP;lia)⟩,AT (Ak (Ak R.ip nP) NP),?_,Ak (Ak (Ak R.ih nH) R.ne) PH,R.hl,λi h' hi=>?_,R.nd,R.nN,R.nH,R.ne,R.lP,R.lN,R.lh,?_,λi g' hg'=>?_,?_,λi=>?_⟩
 .have e1:(nD σ.st).set kk (.int ((((ws.getD c (Str.ofString "",.nothing,0)).2.2.toNat:Nat)):Int))=nD (σ.go s kk m ((ws.getD c (Str.ofString "",.nothing,0)).2.2.toNat) e).st:=by
   unfold nD Ls.go;rw[List.map_set]
  rw[e1];exact Ak (AT (Ak R.it nN)) (Ne.symm NP)
 .have hp':P≠h':=Bs R.ip (R.hh i h' hi) (by simp);have hn':N≠h':=λz=>R.nN (by rw[z];exact ud9 hi);refine Ak (Ak ?_ hn') hp'
  by_cases z:i=kk
  .subst z;rw[hk] at hi
   cases hi
   show _=some (Ob.lst ((σ.hd.set i (σ.hd.getD i []++[m])).getD i []));rw[De (by rw[R.ld];exact hkl)];exact AT hS
  .have hne:h≠h':=λy=>z (by
    subst y;exact(List.getElem?_inj (ua8.mp hi).1 R.nd).mp (by rw[hi,hk]))
   show _=some (Ob.lst ((σ.hd.set kk (σ.hd.getD kk []++[m])).getD i []));rw[BS λy=>z y.symm];exact Ak (R.hh i h' hi) hne
 .show(σ.st.set kk _).length=_;rw[uj6];exact R.ls
 .show(σ.st.set kk _).getD i 0<_
  by_cases z:kk=i
  .subst z;rw[h2] at hg'
   cases hg'
   have hso:=(hg g (ud9 h2)).all (.st (sd s) ws) (by
    have hlo:=R.lo kk g h2;rw[<-h3];unfold AL;rw[ua7 (l:=g),ub2 hlo];exact ui3 hlo)
   have:=Ox hso (N2 h4);rw[De (by rw[R.ls];exact hkl)];lia
  .rw[BS z];exact R.lo i g' hg'
 .show(σ.hd.set kk _).length=_;rw[uj6];exact R.ld
 .show 2*((σ.hd.set kk (σ.hd.getD kk []++[m])).getD i []).length<=(if true=s then e else σ.p true)+(if false=s then e else σ.p false);have hsum:σ.p true+σ.p false+2<=(if true=s then e else σ.p true)+(if false=s then e else σ.p false):=by
   cases s with
   |true=>rw[gW rfl,gX (by decide)];have:σ.p true+2<=e:=hle.1;lia
   |false=>rw[gX (by decide),gW rfl];have:σ.p false+2<=e:=hle.1;lia
  have:=R.fw i
  by_cases z:kk=i
  .subst z;rw[De (by rw[R.ld];exact hkl),uf4];show 2*(_+1)<=_;lia
  .rw[BS z];lia
end
theorem GY{α:Type}(ι:α->D):∀(xs:List α) (S:List Ob) (z:Option Sl),L2.W (Bf (As 0) B4 (Dk (AK Ad)) (xs.map ι)) ⟨[z],S⟩ λr t'=>r=((List.range' S.length xs.length).map D.obj)/\t'.S=S++List.replicate xs.length (.lst [])
 |[],S,z=>W_compL_nil.mpr ⟨rfl,(uj3 _).symm⟩
 |a::r,S,z=>by
   rw[ul3,A7];refine Ee (Ga ?_);rw[gW rfl];symm;refine(GY ι r _ _).mono λxs t' z9=>?_;clear 5 z9 e1 e2;subst e1;refine⟨?_,?_⟩
   .rw[uf4,uh2 (as:=r),List.range'_succ,ul3];rfl
   .rw[e2,ug4,uh2,ue6];rfl
theorem Ld{α:Type}(ι:α->D):∀(xs:List α) (S:List Ob) (z:Option Sl),L2.W (Bf (As 0) B4 (ee 0) (xs.map ι)) ⟨[z],S⟩ λr t'=>r=nD (xs.map λ_=>0)/\t'.S=S
 |[],S,z=>W_compL_nil.mpr ⟨rfl,rfl⟩
 |a::r,S,z=>by
   rw[ul3,A7];refine Ee (Ga ?_);rw[gW rfl];symm;refine(Ld ι r _ _).mono λxs t' z9=>?_;clear 5 z9 e1 e2;subst e1;exact⟨rfl,e2⟩
theorem IN{g:M D}(h:L2.W f ⟨t.env,t.S++[.dct []]⟩ λa t1=>L2.W g t1 λb t2=>t2.S[t.S.length]?=some (.dct [])/\P (.obj t.S.length) ⟨t2.env,t2.S.set t.S.length (.dct (lr a b))⟩):L2.W (Ep [("left",f),("right",g)]) t P:=by
 refine LM (BW (h.mono λa t1 h1=>BW (h1.mono λb t2 h2=>Gj ⟨h2.1,by show 2<=15;decide,?_⟩)));rw[show Ej [(Sum.inr (Str.ofString "left"),a),(Sum.inr (Str.ofString "right"),b)]=lr a b from My];exact h2.2
def OH(f:Fn):Prop:=∀(S:List Ob) (k:Nat) (gs:List (List GS)) (w:Bool->List Nat) (x:Bool->D),Ok2 gs w->(∀s,WirB k S (x s) (w s))->S[k]?=some (.ins "Listener" [])->Wf f [.obj k,gsD gs,x true,x false] S λq S'=>q=.non/\Kp k S S'/\∃W P N H hs,Lis k S' gs w (ls0 gs) k W P N H hs
theorem FF{x:List Ob}(h:S[i]?=some u):(S++x)[i]?=some u:=by rw[ua9 (B8 h)];exact h
theorem Kp.appL{k:Nat}{x:List Ob}(a:Kp k S S'):Kp k S (S'++x):=⟨by rw[uf4];exact um3 a.1 (uh8 _ _),λi hi n=>by rw[ua9 (uf0 hi a.1)];exact a.2 i hi n⟩
theorem Tn:OH (fnOf 4 4 DT):=by
 intro S k gs w x ⟨hg,hgl,hw⟩ hx hk;have hL:LIM=100000:=rfl;have hkl:=B8 hk;refine Am rfl ?_;unfold DT;symm;refine F9 hk (by show 0<1000;decide) ?_;have k1:Kp k S (S.set k (.ins "Listener" [("grammars",gsD gs)])):=Kp.refl.setk;have g1:(S.set k (.ins "Listener" [("grammars",gsD gs)]))[k]?=some (.ins "Listener" [("grammars",gsD gs)]):=AT hk;show Hm _ _ Out.next ⟨_,S.set k (.ins "Listener" [("grammars",gsD gs)])⟩;generalize S.set k (.ins "Listener" [("grammars",gsD gs)])=S1 at k1 g1⊢;have n1:=B8 g1;symm;refine IN ?_;symm;refine⟨Ca,?_⟩;symm;have a1:((S1++[Ob.dct []]).set S1.length (.dct (lr (x true) (x false))))[k]?=some (.ins "Listener" [("grammars",gsD gs)]):=Ak (Cn g1) (by lia);refine F9 a1 (by show 1<1000;decide) ?_;obtain⟨W,hW⟩:∃W,W=S1.length:=⟨_,rfl⟩;rw[<-hW] at a1⊢;have w2:(((S1++[Ob.dct []]).set W (.dct (lr (x true) (x false)))).set k (.ins "Listener" [("grammars",gsD gs),("wires",.obj W)]))[W]?=some (.dct (lr (x true) (x false))):=Ak (by rw[hW];exact AT Ca) (by lia);have g2:(((S1++[Ob.dct []]).set W (.dct (lr (x true) (x false)))).set k (.ins "Listener" [("grammars",gsD gs),("wires",.obj W)]))[k]?=some (.ins "Listener" [("grammars",gsD gs),("wires",.obj W)]):=AT a1;have k2:Kp k S (((S1++[Ob.dct []]).set W (.dct (lr (x true) (x false)))).set k (.ins "Listener" [("grammars",gsD gs),("wires",.obj W)])):=(k1.app.set (by have:=k1.1;lia)).setk;show Hm _ _ Out.next ⟨_,((S1++[Ob.dct []]).set W (.dct (lr (x true) (x false)))).set k (.ins "Listener" [("grammars",gsD gs),("wires",.obj W)])⟩;generalize ((S1++[Ob.dct []]).set W (.dct (lr (x true) (x false)))).set k (.ins "Listener" [("grammars",gsD gs),("wires",.obj W)])=S2 at w2 g2 k2⊢;have n2:=B8 w2;clear a1;symm;refine IN ?_;symm;refine⟨Ca,?_⟩;symm;have n2k:=B8 g2;have a2:((S2++[Ob.dct []]).set S2.length (.dct (dP 0 0)))[k]?=some (.ins "Listener" [("grammars",gsD gs),("wires",.obj W)]):=Ak (Cn g2) (by lia);refine F9 a2 (by show 2<1000;decide) ?_;obtain⟨P,hP⟩:∃P,P=S2.length:=⟨_,rfl⟩;rw[<-hP] at a2⊢;have p3:(((S2++[Ob.dct []]).set P (.dct (dP 0 0))).set k (.ins "Listener" [("grammars",gsD gs),("wires",.obj W),("places",.obj P)]))[P]?=some (.dct (dP 0 0)):=Ak (by rw[hP];exact AT Ca) (by lia);have w3:(((S2++[Ob.dct []]).set P (.dct (dP 0 0))).set k (.ins "Listener" [("grammars",gsD gs),("wires",.obj W),("places",.obj P)]))[W]?=some (.dct (lr (x true) (x false))):=Ak (Ak (Cn w2) (by lia)) (by lia);have g3:(((S2++[Ob.dct []]).set P (.dct (dP 0 0))).set k (.ins "Listener" [("grammars",gsD gs),("wires",.obj W),("places",.obj P)]))[k]?=some (.ins "Listener" [("grammars",gsD gs),("wires",.obj W),("places",.obj P)]):=AT a2;have k3:Kp k S (((S2++[Ob.dct []]).set P (.dct (dP 0 0))).set k (.ins "Listener" [("grammars",gsD gs),("wires",.obj W),("places",.obj P)])):=(k2.app.set (by have:=k2.1;lia)).setk;show Hm _ _ Out.next ⟨_,((S2++[Ob.dct []]).set P (.dct (dP 0 0))).set k (.ins "Listener" [("grammars",gsD gs),("wires",.obj W),("places",.obj P)])⟩;generalize ((S2++[Ob.dct []]).set P (.dct (dP 0 0))).set k (.ins "Listener" [("grammars",gsD gs),("wires",.obj W),("places",.obj P)])=S3 at p3 w3 g3 k3⊢;have n3:=B8 p3;clear a2;unfold gsD;symm;refine(Ld (λg:List GS=>D.lst (g.map GS.d)) gs S3 _).mono λr t' z9=>?_;clear 5 z9 e1 e2;subst e1;clear 5 t' ev S3';have e2:S3'=S3:=e2;subst e2;have n3k:=B8 g3;symm;refine Bc (by unfold nD;rw[uj1,uj1,hL];lia) ?_;symm;obtain⟨Z,hZ⟩:∃Z,Z=nD (gs.map λ_=>0):=⟨_,rfl⟩;rw[<-hZ];have a3:(S3'++[Ob.lst Z])[k]?=some (.ins "Listener" [("grammars",gsD gs),("wires",.obj W),("places",.obj P)]):=Cn g3;refine F9 a3 (by show 3<1000;decide) ?_;obtain⟨N,hN⟩:∃N,N=S3'.length:=⟨_,rfl⟩;have t4:((S3'++[Ob.lst Z]).set k (.ins "Listener" [("grammars",gsD gs),("wires",.obj W),("places",.obj P),("standings",.obj N)]))[N]?=some (.lst Z):=Ak (by rw[hN];exact Ca) (by lia);have p4:((S3'++[Ob.lst Z]).set k (.ins "Listener" [("grammars",gsD gs),("wires",.obj W),("places",.obj P),("standings",.obj N)]))[P]?=some (.dct (dP 0 0)):=Ak (Cn p3) (by lia);have w4:((S3'++[Ob.lst Z]).set k (.ins "Listener" [("grammars",gsD gs),("wires",.obj W),("places",.obj P),("standings",.obj N)]))[W]?=some (.dct (lr (x true) (x false))):=Ak (Cn w3) (by lia);have g4:((S3'++[Ob.lst Z]).set k (.ins "Listener" [("grammars",gsD gs),("wires",.obj W),("places",.obj P),("standings",.obj N)]))[k]?=some (.ins "Listener" [("grammars",gsD gs),("wires",.obj W),("places",.obj P),("standings",.obj N)]):=AT a3;have k4:Kp k S ((S3'++[Ob.lst Z]).set k (.ins "Listener" [("grammars",gsD gs),("wires",.obj W),("places",.obj P),("standings",.obj N)])):=k3.app.setk;show Hm _ _ Out.next ⟨[vw (.obj k),vw (gsD gs),vw (x true),vw (x false)],(S3'++[Ob.lst Z]).set k (.ins "Listener" [("grammars",gsD gs),("wires",.obj W),("places",.obj P),("standings",.obj S3'.length)])⟩;rw[<-hN];generalize (S3'++[Ob.lst Z]).set k (.ins "Listener" [("grammars",gsD gs),("wires",.obj W),("places",.obj P),("standings",.obj N)])=S4 at t4 p4 w4 g4 k4⊢;have n4:=B8 t4;have n4k:=B8 g4;clear a3;unfold gsD;symm;refine(GY (λg:List GS=>D.lst (g.map GS.d)) gs S4 _).mono λr t' z9=>?_;clear 5 z9 e1 e2;subst e1;clear 5 t' ev S5;have e2:S5=S4++List.replicate gs.length (.lst []):=e2;symm;refine Bc (by rw[uj1,uf8,hL];lia) ?_;symm;have g5:S5[k]?=some (.ins "Listener" [("grammars",gsD gs),("wires",.obj W),("places",.obj P),("standings",.obj N)]):=by rw[e2];exact FF g4
 have l5:S5.length=S4.length+gs.length:=by rw[e2,uf4,uc7]
 refine F9 (Cn g5) (by show 4<1000;decide) ?_;have hk4:=k4.1;refine⟨rfl,by rw[e2];exact k4.appL.app.setk,W,P,N,S5.length,List.range' S4.length gs.length,?_⟩;show Lis k ((S5++[Ob.lst ((List.range' S4.length gs.length).map D.obj)]).set k (.ins "Listener" (liF gs W P N S5.length))) gs w (ls0 gs) k W P N S5.length (List.range' S4.length gs.length);have hin:∀h,h∈List.range' S4.length gs.length->S4.length<=h/\h<S4.length+gs.length:=λh z=>by rw[List.mem_range'_1] at z;exact z
 refine⟨AT (Cn g5),?_,?_,?_,Ak Ca (by lia),uf8,λi h hi=>?_,List.nodup_range',λz=>by have:=hin _ z;lia,λz=>by have:=hin _ z;lia,by lia,by lia,by lia,λh z=>by have:=hin h z;lia,uj1 ..,λi g z=>?_,uj1 ..,λi=>?_⟩
 .exact⟨x,by rw[e2];exact Ak (Cn (FF w4)) (by lia),λs=>(hx s).low λi o hi q=>by rw[e2,(k4.appL.app.setk).2 i (B8 q) (by lia)];exact q⟩
 .rw[e2];exact Ak (Cn (FF p4)) (by lia)
 .rw[e2];exact Ak (Cn (FF (by rw[t4,hZ];rfl))) (by lia)
 .clear 5(ua8.mp hi)hl hv;rw[uf8] at hl;rw[List.getElem_range'] at hv;have hv:h=S4.length+i:=by lia
  subst hv;have e0:(ls0 gs).hd.getD i []=[]:=by
   show(gs.map λ_=>[]).getD i []=[];rw[ua7,ug2]
   cases gs[i]?<;>rfl
  rw[e0];refine Ak (Cn ?_) (by lia);rw[e2,ua5 (by lia),show S4.length+i-S4.length=i by lia,ub3,gW hl]
 .have e0:(ls0 gs).st.getD i 0=0:=by
   show(gs.map λ_=>0).getD i 0=0;rw[ua7,ug2]
   cases gs[i]?<;>rfl
  rw[e0];exact(hg g (ud9 z)).ne
 .have e0:(ls0 gs).hd.getD i []=[]:=by
   show(gs.map λ_=>[]).getD i []=[];rw[ua7,ug2]
   cases gs[i]?<;>rfl
  rw[e0];exact un6 _
structure HrdAt(S:List Ob)(H:Nat)(hs:List Nat)(hd:List (List D)):Prop where
 ih:S[H]?=some (.lst (hs.map .obj))
 hl:hs.length=hd.length
 hh:∀(i h:Nat),hs[i]?=some h->S[h]?=some (.lst (hd.getD i []))
def Ss(f:Fn):Prop:=∀(S:List Ob) (wv:D) (n:Int) (side:Str) (ws:List (Str×Sh×Int)) (w:List Nat) (p:Nat),Wir S wv w->GSOk n (.st side ws)->p<=w.length->w.length<=50000->(∀j c,Cw side ws w p≠(.broken j,c))->PureS S f [(GS.st side ws).d,wv,.int p] (Hf side ws w p)
theorem VF(hc:Hx c 3):Ss (fnOf 3 6 (DW c)):=by
 intro S wv n side ws w p hv hgs hp hwl hnb
 cases hgs with
 |@st _ _ hs1 hs2 hs3 hs4 hs5=>
 refine Am rfl ?_;unfold DW;rw[GS.d]
 cases hb:w[p]? with
 |none=>
   have hpl:¬p<w.length:=by rw[ub1] at hb;lia
   rw[show Hf side ws w p=.non by unfold Hf Cw;rw[hb]];symm;refine Kg hv ?_;symm;refine EL (by simp;lia) ?_;symm;exact⟨rfl,rfl⟩
 |some cc=>
   obtain⟨hpl,_⟩:=ua8.mp hb;symm;refine Kg hv ?_;symm;refine CW (by simp;lia) ?_;symm;refine Jo hv hb ?_;symm;rw[uj1]
   cases hw:ws[cc]? with
   |none=>exact(hnb p 0 (by unfold Cw;simp only[hb,hw])).elim
   |some wd=>
     obtain⟨hcl,_⟩:=ua8.mp hw;have hwo:=hs5 wd (ud9 hw);have hgd:ws.getD cc (Str.ofString "",.nothing,0)=wd:=by rw[ua7,hw];rfl
     have hrd:=hc wd.2.1 hwo.dep hwo.ok S wv w (p+1) hv hpl;refine CW (by simp;lia) ?_;symm;refine Jo hv hb ?_;symm;refine AG (GO hw) ?_;unfold wdD;dsimp only;symm
     cases e:(pSh 3 wd.2.1).run w (p+1) with
     |told v b=>
       rw[show Hf side ws w p=.tup [.tup [.str side,.str wd.1,v],.int wd.2.2,.int b] by unfold Hf Cw;simp only[hb,hw,e,hgd]];rw[e,rrD] at hrd;refine hrd.use H9 ?_;symm;exact⟨rfl,rfl⟩
     |short=>
       rw[show Hf side ws w p=.non by unfold Hf Cw;simp only[hb,hw,e]];rw[e,rrD] at hrd;refine hrd.use EB ?_;symm;exact⟨rfl,rfl⟩
     |broken k=>exact(hnb k cc (by unfold Cw;simp only[hb,hw,e])).elim
def ED(f:Fn):Prop:=∀(n0:Nat) (S:List Ob) (gs:List (List GS)) (w:Bool->List Nat) (σ:Ls) (k W P N H:Nat) (hs:List Nat) (s:Bool),Ok2 gs w->(∀s,σ.p s<=(w s).length)->Lis n0 S gs w σ k W P N H hs->(∀j,σ.nx gs w s≠.brk j)->PureS S f [.obj k,.str (sd s)] (nwD (σ.nx gs w s))
variable{cm:Fn}
theorem Q6{ce:Fn}(hm:Ss cm)(he:Iq ce):ED (fnOf 2 5 (CF cm ce)):=by
 intro n0 S gs w σ k W P N H hs s ⟨hg,hgl,hw⟩ hp R hnb;have hws:=hw s;have hps:=hp s;refine Am rfl ?_;unfold CF;symm;refine C9 R.ik rfl ?_;symm;clear 5 R.iw x iw hx;have hx:=(hx s).wir;refine Bu iw (lrF x s) ?_;symm;refine C9 R.ik rfl ?_;symm;refine Bu R.ip (lrF (λs=>.int (σ.p s:Nat)) s) ?_;symm;refine Kg hx ?_;symm;unfold Ls.nx at hnb⊢
 cases hb:(w s)[σ.p s]? with
 |none=>
   have hpl:¬σ.p s<(w s).length:=by rw[ub1] at hb;lia
   rw[Jg hb];refine EL (by simp;lia) ?_;symm;exact⟨rfl,rfl⟩
 |some j=>
   obtain⟨hpl,_⟩:=ua8.mp hb;refine CW (by simp;lia) ?_;symm;refine Jo hx hb ?_;symm;refine C9 R.ik rfl ?_;unfold gsD;symm;rw[uj1]
   cases h2:gs[j]? with
   |none=>exact(hnb _ (V0 hb h2)).elim
   |some g=>
     obtain⟨hjl,_⟩:=ua8.mp h2;have hgo:=hg g (ud9 h2);have hlo:=R.lo j g h2;have hgx:g[σ.st.getD j 0]?=some (AL g (σ.st.getD j 0)):=by unfold AL;rw[ua7 (l:=g),ub2 hlo];rfl
     have hso:=hgo.all _ (ud9 hgx);refine CW (by simp;lia) ?_;symm;refine C9 R.ik rfl ?_;unfold gsD;symm;refine Jo hx hb ?_;symm;refine AG (B6 (d:=.lst (g.map GS.d)) (by rw[ug2,h2];rfl)) ?_;symm;refine C9 R.ik rfl ?_;symm;refine Jo hx hb ?_;symm;refine Nn R.it (HY (by rw[R.ls];exact hjl)) ?_;symm;refine AG (B6 (d:=(AL g (σ.st.getD j 0)).d) (by rw[ug2,hgx];rfl)) ?_;symm;refine(he _ _ hso).use ?_;symm
     cases h3:AL g (σ.st.getD j 0) with
     |fin=>exact(hnb _ (VX hb h2 h3)).elim
     |st y ws=>
       rw[h3] at hso;refine CW rfl ?_;rw[GS.d];symm
       by_cases q:y=sd s
       .subst q;have hm':=hm S (x s) _ _ ws (w s) (σ.p s + 1) hx hso hpl (by lia) λj c z=>hnb j (by
         unfold nxR;rw[hb];dsimp only;rw[h2];dsimp only;rw[h3];dsimp only;rw[gW rfl,z])
        have hx1:=VY hb h2 h3 (λc v e z=>(Ox hso (N2 z)).1);refine CW (by simp) ?_;symm;refine hm'.use ⟨?_,rfl⟩;rw[<-hx1]
        cases e9:nxR gs (w s) (sd s) (σ.p s) σ.st with
        |brk j=>exact(hnb _ e9).elim
        |stop=>rfl
        |msg a b c d=>rfl
       .rw[VZ hb h2 h3 q];refine EL (by simp[q]) ?_;symm;exact⟨rfl,rfl⟩
theorem Tu(hc:ED c):ED (fnOf 2 2 (BZ c)):=by
 intro n0 S gs w σ k W P N H hs s hok hp R hnb;refine Am rfl ?_;unfold BZ;symm;refine⟨k,_,rfl,R.ik,?_⟩;symm;exact(hc n0 S gs w σ k W P N H hs s hok hp R hnb).use ⟨rfl,rfl⟩
def Hw(f:Fn):Prop:=∀(n0:Nat) (S:List Ob) (gs:List (List GS)) (w:Bool->List Nat) (σ:Ls) (k W P N H:Nat) (hs:List Nat) (s:Bool),Ok2 gs w->(∀s,σ.p s<=(w s).length)->n0<=S.length->Lis n0 S gs w σ k W P N H hs->(∀τ,Run gs w σ τ->∀j,τ.nx gs w s≠.brk j)->
 Wf f [.obj k,.str (sd s)] S λr S'=>Low n0 S S'/\∃τ,Run gs w σ τ/\(∀a b c d,τ.nx gs w s≠.msg a b c d)/\Lis n0 S' gs w τ k W P N H hs/\(r=.bl true/\σ.p s < τ.p s\/r=.bl false/\τ=σ)
theorem Nv(hc:ED c):Hw (fnOf 2 5 (CZ c)):=by
 intro n0 S gs w σ k W P N H hs s hok hp hn0 R hnb;have hL:LIM=100000:=rfl;refine Am rfl ?_;unfold CZ;symm;refine C9 R.ik rfl ?_;symm;refine Bu R.ip (lrF (λs=>.int (σ.p s:Nat)) s) ?_;symm;refine⟨k,_,rfl,R.ik,?_⟩;symm;refine(hc n0 S gs w σ k W P N H hs s hok hp R (hnb σ (.refl _))).use ?_;symm;refine FD (λn t=>∃τ S' e4,t=⟨[vw (.obj k),vw (.str (sd s)),vw (.int (σ.p s:Nat)),vw (nwD (τ.nx gs w s)),e4],S'⟩/\Run gs w σ τ/\Lis n0 S' gs w τ k W P N H hs/\Low n0 S S'/\(w s).length<=n+τ.p s/\(τ=σ\/σ.p s < τ.p s)) ?_ GQ (w s).length _ (by have:=hok.2.2 s;show _<1000000;lia) ⟨σ,S,none,rfl,.refl _,R,.refl hn0,by lia,.inl rfl⟩;rintro n t ⟨τ,S',e4,rfl,r,R',L,hn,ho⟩;have hp':=r.inn hp
 cases q:τ.nx gs w s with
 |msg kk m th e=>
   obtain⟨g,ws,v,cc,h1,h2,h3,h4,_,_⟩:=FX q;have hle:=Gg q;have hkl:kk<gs.length:=(ua8.mp h2).1;obtain⟨h,hk⟩:∃h,hs[kk]?=some h:=⟨_,ub2 (by rw[R'.hl];exact hkl)⟩;have hS:=R'.hh kk h hk;have hm:h∈hs:=ud9 hk;have R2:=R'.go hok.1 q hk;have nk:h≠k:=Bs hS R'.ik (by simp);have nP:h≠P:=Bs hS R'.ip (by simp);have nN:h≠N:=λz=>R'.nN (by rw[<-z];exact hm);have Nk:N≠k:=Bs R'.it R'.ik (by simp);have NP:N≠P:=Bs R'.it R'.ip (by simp);rw[nwD];symm;refine⟨n-1,by have:τ.p s+2<=e:=hle.1;lia,?_⟩;symm;refine C9 R'.ik rfl ?_;symm;clear 5 R'.iw x iw hx;refine Bu iw (lrF x s) ?_;symm;refine C9 R'.ik rfl ?_;symm;refine Bu R'.ip (lrF (λs=>.int (τ.p s:Nat)) s) ?_;symm;refine Jo (hx s).wir h1 ?_;symm;refine LN (k:=h) ?_;symm;refine C9 R'.ik rfl ?_;symm;refine Nn R'.ih (i:=kk) (d:=.obj h) (by rw[ug2,hk];rfl) ?_;refine⟨rfl,_,hS,?_⟩;symm;refine⟨_,τ.hd.getD kk []++[m],hS,?_,?_⟩
   .have h5:=R'.fw kk;have h6:=hp' true;have h7:=hp' false;have h8:=hok.2.2 true;have h9:=hok.2.2 false;simp only[Cd];rw[gW (by rw[hL];lia)]
   symm;refine C9 (Ak R'.ik nk) rfl ?_;symm;refine Zy (Ak R'.it nN) (by unfold nD;rw[uj1,R'.ls];exact hkl) ?_;symm;refine C9 (Ak (Ak R'.ik nk) Nk) rfl ?_;symm;refine Hr (Ak (Ak R'.ip nP) NP) (by show 2<100000;decide) ?_;rw[XG];symm;refine⟨k,_,rfl,R2.ik,?_⟩;symm;have st:Stp gs w τ s (τ.go s kk m th e):=⟨kk,m,th,e,q,rfl⟩;have r2:Run gs w σ (τ.go s kk m th e):=r.trans (.one st);have pe:(τ.go s kk m th e).p s=e:=gW rfl;refine(hc n0 _ gs w _ k W P N H hs s hok (r2.inn hp) R2 (hnb _ r2)).use ?_;symm;refine⟨τ.go s kk m th e,_,_,rfl,r2,R2,((L.set (R'.lh h hm)).set R'.lN).set R'.lP,by rw[pe];have:τ.p s+2<=e:=hle.1;lia,.inr (by rw[pe];have:=r.grow.1 s;have:τ.p s+2<=e:=hle.1;lia)⟩
 |stop=>
   rw[show nwD _=D.non from rfl];symm;rw[show(!Gf D.non)=false from rfl];dsimp only;symm;refine C9 R'.ik rfl ?_;symm;refine Bu R'.ip (lrF (λs=>.int (τ.p s:Nat)) s) ?_;symm;refine⟨L,τ,r,(λa b c d z=>by rw[q] at z;cases z),R',?_⟩
   rcases ho with rfl|ho
   .exact .inr ⟨by rw[uk4 (by lia)],rfl⟩
   .exact .inl ⟨by rw[ul0 (by lia)],ho⟩
 |brk j=>exact(hnb τ r j q).elim
def OE(f:Fn):Prop:=∀(S:List Ob) (gs:List (List GS)) (w:Bool->List Nat) (x:Bool->D),Ok2 gs w->(∀s,WirB S.length S (x s) (w s))->(∀τ,Run gs w (ls0 gs) τ->∀s j,τ.nx gs w s≠.brk j)->Wf f [gsD gs,x true,x false] S λr S'=>Gr S S'/\∃σ H hs,End gs w σ/\r=.tup [.obj H,.tup [.int (σ.p true:Nat),.int (σ.p false:Nat)]]/\HrdAt S' H hs σ.hd
theorem SC{cr ci:Fn}(hn:ED cn)(hr:Hw cr)(hi:OH ci):OE (fnOf 3 4 (DX cn cr ci)):=by
 intro S gs w x hok hx hnb;have hL:LIM=100000:=rfl;refine Am rfl ?_;unfold DX;symm;refine(hi _ S.length gs w x hok (λs=>(hx s).low λi o _ q=>FF q) Ca).mono λr S1 z9=>?_;clear 5 z9 e K W P N H hs R;refine⟨e,?_⟩;have G1:Gr S S1:=⟨by have:=K.1;rw[uf4] at this;lia,λi h=>by rw[K.2 i (by rw[uf4];lia) (by lia)];exact ua9 h⟩;have hn0:S.length<=S1.length:=G1.1;symm;refine FD (λn t=>∃τ S',t=⟨[vw (gsD gs),vw (x true),vw (x false),vw (.obj S.length)],S'⟩/\Run gs w (ls0 gs) τ/\Lis S.length S' gs w τ S.length W P N H hs/\Low S.length S1 S'/\(w true).length+(w false).length<=n+τ.p true+τ.p false) ?_ GQ ((w true).length+(w false).length) _ (by have:=hok.2.2 true;have:=hok.2.2 false;show _<1000000;lia) ⟨ls0 gs,S1,rfl,.refl _,R,.refl hn0,by lia⟩;rintro n t ⟨τ,S',rfl,r,R',L,hm⟩;have hp':∀s,τ.p s<=(w s).length:=r.inn λ_=>un6 _;symm;refine⟨S.length,_,rfl,R'.ik,?_⟩;symm;refine(hr S.length S' gs w τ S.length W P N H hs true hok hp' L.1 R' (λυ z j=>hnb υ (r.trans z) true j)).mono λq S2 z9=>?_;clear 5 z9 L2 τ2 r2 x2 R2 o2;rcases o2 with⟨rfl,lt⟩|⟨rfl,rfl⟩
 .symm;have h1:=r2.grow.1 false;have h2:=(r.trans r2).inn (λ_=>un6 _) true;refine⟨n-1,by have:=hp' true;have:=hp' false;lia,?_⟩;symm;exact⟨τ2,S2,rfl,r.trans r2,R2,L.trans L2,by lia⟩
 .symm;refine⟨S.length,_,rfl,R2.ik,?_⟩;symm;refine(hr S.length S2 gs w τ2 S.length W P N H hs false hok hp' L2.1 R2 (λυ z j=>hnb υ (r.trans z) false j)).mono λq S3 z9=>?_;clear 5 z9 L3 τ3 r3 x3 R3 o3;rcases o3 with⟨rfl,lt⟩|⟨rfl,rfl⟩
  .symm;have h1:=r3.grow.1 true;refine⟨n-1,by have:=hp' true;have:=hp' false;have:=(r.trans r3).inn (λ_=>un6 _) false;lia,?_⟩;symm;exact⟨τ3,S3,rfl,r.trans r3,R3,(L.trans L2).trans L3,by lia⟩
  .symm;have hE:End gs w τ3:=⟨r,λs=>by cases s;exact x3;exact x2⟩;have hG:Gr S S3:=⟨L3.1,λi h=>(((L.trans L2).trans L3).2 i h).trans (G1.2 i h)⟩;have hfw:=R3.fw;refine⟨S.length,_,rfl,R3.ik,?_⟩;symm;refine(hn S.length S3 gs w τ3 S.length W P N H hs true hok hp' R3 (λj=>hnb τ3 r true j)).use ?_;symm;refine⟨S.length,_,rfl,R3.ik,?_⟩;symm;refine(hn S.length S3 gs w τ3 S.length W P N H hs false hok hp' R3 (λj=>hnb τ3 r false j)).use ?_;symm;refine C9 R3.ik rfl ?_;symm;refine C9 R3.ik rfl ?_;symm;refine Bu R3.ip (lrF (λs=>.int (τ3.p s:Nat)) true) ?_;symm;refine C9 R3.ik rfl ?_;symm;refine Bu R3.ip (lrF (λs=>.int (τ3.p s:Nat)) false) ?_;symm;exact⟨hG,τ3,H,hs,hE,rfl,R3.ih,by rw[R3.hl,R3.ld],R3.hh⟩
def Ir(f:Fn):Prop:=∀(g:List GS) (q p:Nat) (v:D),GOk g->MvOk g q p v->(Aq (wdAt g q p).2.1 v).length<=50000->Pure1 f [(AL g q).d,.int p,v] (.lst (.int p::Aq (wdAt g q p).2.1 v))
theorem Q0(hc:Dg c 3):Ir (fnOf 3 3 (Ez c)):=by
 intro g q p v hg hm hb S;have hL:LIM=100000:=rfl;refine Am rfl ?_;unfold Ez;clear 5(Fr hm.pl)side ws e hpl ew;have hw:=Dp hg hm.lt hm.pl;have hfit:=hm.fit;rw[e,GS.d];right;refine GM ?_;right;refine AG (GO ew) ?_;unfold wdD;right;refine(hc _ hw.dep hw.ok v hfit (by lia)).use ?_;refine⟨_,rfl,?_⟩;right;refine Bc (by rw[hL];show 1+_<=_;lia) ?_;exact⟨rfl,rfl⟩
theorem Gk(g:List GS)(sd:Str)(mv:List Mv)(j:Nat):(AB g sd 0 (mv.take j)).length<=(AB g sd 0 mv).length:=by
 have e:AB g sd 0 mv=AB g sd 0 (mv.take j++mv.drop j):=by rw[ud1]
 rw[e,E8,uf4];exact uh8 _ _
def At(w:List Nat)(a:Nat)(xs:List D):Prop:=∃p q,wD w=p++(xs++q)/\p.length=a
theorem At.left{a:Nat}(h:At w a (xs++ys)):At w a xs:=by
 clear 5 h p q e l;exact⟨p,ys++q,by rw[e,ug4],l⟩
theorem At.right{a:Nat}(h:At w a (xs++ys)):At w (a+xs.length) ys:=by
 clear 5 h p q e l;exact⟨p++xs,q,by rw[e,ug4,ug4],by rw[uf4,l]⟩
theorem At.head{a c:Nat}(h:At w a (.int (c:Int)::xs)):w[a]?=some c/\At w (a+1) xs:=by
 refine⟨?_,At.right (xs:=[.int (c:Int)]) h⟩;clear 5 h p q e l;have e1:(wD w)[a]?=some (.int (c:Int)):=by rw[e,ua5 (by lia),l,un2];rfl
 unfold wD at e1;rw[ug2] at e1
 cases e2:w[a]? with
 |none=>rw[e2] at e1;cases e1
 |some x=>
   rw[e2] at e1;injection e1 with e1
   injection e1 with e1
   rw[show x=c by lia]
theorem MJ{lo:Int}{M:Nat}{w:List Nat}:∀(r x y a:Nat),y/256 ^ r=x->y<=M->At w a (nb r y)->(Fi lo M r x).run w a=.told (.int (lo+y)) (a+r)
 |0,x,y,a,hx,hy,h=>by
   rw[um8,un8] at hx;subst hx;rfl
 |r+1,x,y,a,hx,hy,h=>by
   rw[KJ] at h;clear 5 h.head h1 h2;have e:x*256+y/256 ^ r%256=y/256 ^ r:=by
    rw[<-hx,um9,<-uc3];lia
   rw[Fi,AY h1,gW (ul0 (by rw[e,Nat.pow_mul];exact Nat.div_le_div_right hy)),MJ r _ y (a+1) e.symm hy h2]
   congr 1
   lia
theorem Na{w:List Nat}:∀(xs cs:List Nat) (a:Nat),(∀c∈xs,Bt c=true)->At w a (xs.map λ(n:Nat)=>D.int (n:Int))->(FY xs.length cs).run w a=.told (.str ⟨(cs++xs).toArray⟩) (a+xs.length)
 |[],cs,a,_,_=>by rw[uj3];rfl
 |x::r,cs,a,hs,h=>by
   clear 5(At.head h)h1 h2;rw[uh2,FY,AY h1,gW (hs x uf1),Na r (cs++[x]) (a+1) (λc hc=>hs c (ud6 _ hc)) h2,ug4]
   congr 1
   lia
theorem Mz{w:List Nat}{s:Sh}{p:Rd}(hp:∀(v:D) (a:Nat),Ai s v=true->At w a (Aq s v)->p.run w a=.told v (a+(Aq s v).length)):∀(es ds:List D) (a:Nat),(∀e∈es,Ai s e=true)->At w a (es.map λd=>Aq s d).flatten->(Fh p es.length ds).run w a=.told (.lst (ds++es)) (a+((es.map λd=>Aq s d).flatten).length)
 |[],ds,a,_,_=>by rw[uj3];rfl
 |e::r,ds,a,hf,h=>by
   rw[ul3,ug3] at h;rw[uh2,Fh,Cc,hp e a (hf e uf1) h.left,RR.thn,Mz hp r (ds++[e]) _ (λx hx=>hf x (ud6 _ hx)) h.right,ug4,ul3,ug3,uf4]
   congr 1
   lia
theorem Si:∀(k n:Nat),wid n<=k->n<256 ^ k
 |0,n,h=>by
   by_cases z:n=0
   .subst z;decide
   .rw[Gb (by lia)] at h;lia
 |k+1,n,h=>by
   by_cases z:n=0
   .subst z;exact Nat.pow_pos (by decide)
   .rw[Gb (by lia)] at h;have:=Si k (n/256) (by lia);rw[Nat.div_lt_iff_lt_mul (by decide)] at this;rw[um9];exact this
theorem Vx{o:Str}(h:HR o=true):o=Str.ofString "of":=by
 unfold HR at h;simpa using h
theorem back:∀(n:Nat) (s:Sh),s.depth<=n->wf s=true->∀(w:List Nat) (v:D) (a:Nat),Ai s v=true->At w a (Aq s v)->(pSh n s).run w a=.told v (a+(Aq s v).length)
 |0,s,hs,_,_,_,_,_,_=>absurd s.depth_pos (by lia)
 |n+1,s,hs,hwf,w,v,a,hf,h=>by
   cases s with
   |nothing=>
     have:v=.non:=by cases v<;>simp[Ai,Gf] at hf<;>rfl
     subst this;rfl
   |number lo hi=>
     simp only[wf,uh6,ug9] at hwf
     cases v with
     |int i=>
       simp only[Ai,uh6,ug9] at hf;rw[Aq] at h⊢;rw[pSh,MJ (wid (hi-lo).toNat) 0 (i-lo).toNat a ?_ (by lia) h,JU]
       .congr 2;lia
       .exact Nat.div_eq_of_lt (Nat.lt_of_le_of_lt (show(i-lo).toNat<=(hi-lo).toNat by lia) (Si _ _ (un5 _)))
     |_=>simp[Ai] at hf
   |text q=>
     cases v with
     |str x=>
       simp only[Ai,uh6,ug9,ui1] at hf;rw[Aq] at h⊢;clear 5(At.head h)h1 h2;rw[pSh,AY h1,gW (ul0 hf.1)];have hl:x.length=x.cps.toList.length:=rfl;rw[hl,Na x.cps.toList [] (a+1) hf.2 h2,uj8,uh2,uj1]
       congr 1
       lia
     |_=>simp[Ai] at hf
   |list s q=>
     simp only[wf,uh6,ug9] at hwf;rw[Sh.depth] at hs
     cases v with
     |lst ds=>
       rw[Ai,uh6,ug9,ui1] at hf;rw[Aq] at h⊢;clear 5(At.head h)h1 h2;rw[pSh,AY h1,gW (ul0 hf.1),Mz (λv a=>back n s (by lia) hwf.2 w v a) ds [] (a+1) hf.2 h2,uj8,uh2]
       congr 1
       lia
     |_=>simp[Ai] at hf
   |pair s r=>
     simp only[wf,uh6] at hwf;rw[Sh.depth] at hs;unfold Ai at hf
     split at hf
     .rw[uh6] at hf;rw[Aq] at h⊢;rw[pSh,Cc,back n s (by lia) hwf.1 w _ a hf.1 h.left,RR.thn,Cc,back n r (by lia) hwf.2 w _ _ hf.2 h.right,RR.thn,Rd.run,uf4,ul8]
     .cases hf
   |choice ss=>
     simp only[wf,uh6,ug9] at hwf;rw[Sh.depth] at hs;unfold Ai at hf
     split at hf
     .next o k x=>
      simp only[uh6,ug9] at hf;clear 5(ub4 hf.1.2.1)j rfl;have hj:j<ss.length:=by have:=hf.1.2.2;lia
      have e1:ss[j]?=some ss[j]:=ub2 hj;have h2:=hf.2;rw[ug5,BY ss _ _ _ e1] at h2;rw[Aq,ug5,Du ss _ _ _ e1] at h⊢;clear 5(At.head h)h3 h4;have ho:o=Str.ofString "of":=Vx hf.1.1;subst ho;rw[pSh,AY h3,gW (ul0 hj),ua7,e1,ui5,Cc,back n _ (um3 (B1 ss _ _ e1) (by lia)) (CJ hwf.2 _ (ui3 hj)) w x (a+1) h2 h4,RR.thn,Rd.run,uh2]
      congr 1
      lia
     .cases hf
def Gw(S S':List Ob):Prop:=S.length<=S'.length/\∀i,i<S.length->S'[i]?=S[i]?
mutual
inductive Ow(S:List Ob):D->D->List Nat->Prop
 |non:Ow S .non .non []
 |int (i:Int):Ow S (.int i) (.int i) []
 |str (x:Str):Ow S (.str x) (.str x) []
 |tup {ds vs:List D}{fp:List Nat}:Ows S ds vs fp->Ow S (.tup ds) (.tup vs) fp
 |obj {k:Nat}{ds vs:List D}{fp:List Nat}:S[k]?=some (.lst ds)->Ows S ds vs fp->k∉fp->Ow S (.obj k) (.lst vs) (k::fp)
inductive Ows(S:List Ob):List D->List D->List Nat->Prop
 |nil:Ows S [] [] []
 |cons {d v:D}{fp fp':List Nat}{ds vs:List D}:Ow S d v fp->Ows S ds vs fp'->(∀k∈fp,k∉fp')->Ows S (d::ds) (v::vs) (fp++fp')
end
def prt(g:List GS)(mv:List Mv)(i:Nat):List D:=match mv[i]? with
 |some (p,v)=>.int (p:Int)::Aq (wdAt g (AM g 0 (mv.take i)) p).2.1 v
 |none=>[]
structure Due(g:List GS)(mv:List Mv)(rl rr k:Nat):Prop where
 le:k<=mv.length
 a:(AB g sL 0 (mv.take k)).length<=rl
 b:(AB g sR 0 (mv.take k)).length<=rr
 z:k=mv.length\/(k<mv.length/\onS (AL g (AM g 0 (mv.take k))).side rl rr<onS (AL g (AM g 0 (mv.take k))).side (AB g sL 0 (mv.take k)).length (AB g sR 0 (mv.take k)).length+(prt g mv k).length)
noncomputable def nvO:Nat->D->Bool
 |_,.non=>true
 |_,.int _=>true
 |_,.str _=>true
 |n+1,.lst xs=>decide (xs.length<=1000)&&xs.all (nvO n)
 |n+1,.tup xs=>decide (xs.length<=1000)&&xs.all (nvO n)
 |_,_=>false
theorem EJ:∀(n:Nat) (s:Sh),s.depth<=n->wf s=true->∀v,Ai s v=true->nvO n v=true
 |0,s,h,_,_,_=>absurd s.depth_pos (by lia)
 |n+1,s,hs,hw,v,hf=>by
   cases s with
   |nothing=>cases v<;>simp[Ai,Gf] at hf;rfl
   |number lo hi=>cases v<;>simp[Ai] at hf;rfl
   |text q=>cases v<;>simp only[Ai,uf6] at hf;rfl
   |list s q=>
     simp only[wf,uh6,ug9] at hw;rw[Sh.depth] at hs
     cases v<;>simp only[Ai,uf6] at hf
     rename_i ds;simp only[uh6,ug9,ui1] at hf;rw[nvO,uh6,ug9,ui1];exact⟨by lia,λd hd=>EJ n s (by lia) hw.2 d (hf.2 d hd)⟩
   |pair s r=>
     simp only[wf,uh6] at hw;rw[Sh.depth] at hs;unfold Ai at hf
     split at hf
     .rw[uh6] at hf;have h1:=EJ n s (by lia) hw.1 _ hf.1;have h2:=EJ n r (by lia) hw.2 _ hf.2;simp[nvO,h1,h2]
     .cases hf
   |choice ss=>
     simp only[wf,uh6,ug9] at hw;rw[Sh.depth] at hs;unfold Ai at hf
     split at hf
     .next o k x=>
      simp only[uh6,ug9] at hf;clear 5(ub4 hf.1.2.1)j rfl;have hj:j<ss.length:=by have:=hf.1.2.2;lia
      have e1:ss[j]?=some ss[j]:=ub2 hj;have h2:=hf.2;rw[ug5,BY ss _ _ _ e1] at h2;have h3:=EJ n _ (um3 (B1 ss _ _ e1) (by lia)) (CJ hw.2 _ (ui3 hj)) x h2;have g1:∀o:Str,nvO n (.str o)=true:=λo=>by cases n<;>rfl
      have g2:∀i:Int,nvO n (.int i)=true:=λo=>by cases n<;>rfl
      simp[nvO,h3,g1,g2]
     .cases hf
theorem ML:∀(n:Nat) (v:D),nvO n v=true->nvO (n+1) v=true
 |0,v,h=>by cases v<;>first|rfl|(simp[nvO] at h;done)
 |n+1,v,h=>by
   cases v<;>first|rfl|(simp[nvO] at h;done)|skip
   all_goals
    rw[nvO,uh6,ui1] at h;rw[nvO,uh6,ui1];exact⟨h.1,λd hd=>ML n d (h.2 d hd)⟩
theorem ID{n:Nat}{v:D}(h:nvO n v=true):∀m,nvO (n+m) v=true
 |0=>h
 |m+1=>ML _ _ (ID h m)
theorem Oe:∀{xs:List D},(∀x∈xs,Bn x=true)->Ed xs=true
 |[],_=>rfl
 |x::r,h=>by rw[Ed,h x uf1,Oe λy m=>h y (ud6 _ m)];rfl
theorem MV:∀(n:Nat) (v:D),nvO n v=true->Bn v=true
 |0,v,h=>by cases v<;>first|rfl|(simp[nvO] at h;done)
 |n+1,v,h=>by
   cases v<;>first|rfl|(simp[nvO] at h;done)|skip
   all_goals
    rw[nvO,uh6,ui1] at h;rw[Bn];exact Oe λx hx=>MV n x (h.2 x hx)
theorem J2:∀(n:Nat) (v:D),nvO n v=true->Rq n v
 |0,v,h=>by cases v<;>first|exact Rw|exact Ij|exact J3|(simp[nvO] at h;done)
 |n+1,v,h=>by
   cases v<;>first|exact Rw|exact Ij|exact J3|(simp[nvO] at h;done)|skip
   .rw[nvO,uh6,ui1] at h;exact J4 λx hx=>J2 n x (h.2 x hx)
   .rw[nvO,uh6,ui1] at h;exact GH λx hx=>J2 n x (h.2 x hx)
theorem Oi{S:List Ob}:∀(n:Nat) (v:D),nvO n v=true->AF S n v=v
 |0,v,h=>by cases v<;>first|rfl|(simp[nvO] at h;done)
 |n+1,v,h=>by
   cases v<;>first|rfl|(simp[nvO] at h;done)|skip
   all_goals
    rw[nvO,uh6,ui1] at h;rw[AF]
    congr 1
    rw[ue7 λx hx=>Oi n x (h.2 x hx),List.map_id']
theorem cB{g:Bool->Bool}{x d:D}(hx:AF t.S 16 x=d)(hy:AF t.S 16 y=d)(hn:nvO 16 d=true)(h:P (.bl (g true)) t):W (eqO g x y) t P:=
 ⟨_,_,by unfold eqO;rw[hx,hy,MV 16 d hn,J2 16 d hn EQD (by decide)];rfl,h⟩
def MgOk(m:D):Prop:=∃s n v,m=.tup [.str (sd s),.str n,v]/\nvO 3 v=true
theorem MgOk.nv{m:D}(h:MgOk m):nvO 4 m=true:=by
 clear 5 h s n v rfl h;rw[nvO,uh6,ui1];refine⟨rfl,λx hx=>?_⟩;rcases ul2.mp hx with rfl|hx
 .rfl
 rcases ul2.mp hx with rfl|hx
 .rfl
 rw[uf7.mp hx];exact h
theorem Ys{n:Int}{side:Str}{ws:List (Str×Sh×Int)}{c:Nat}(hb:OD w)(hs:GSOk n (.st side ws))(h:Cw side ws w p=(.told v e,c)):nvO 3 v=true:=by
 unfold Cw at h
 cases hx:w[p]? with
 |none=>rw[hx] at h;cases h
 |some y=>
   rw[hx] at h;dsimp only at h;obtain⟨hpl,_⟩:=ua8.mp hx
   cases hws:ws[y]? with
   |none=>rw[hws] at h;cases h
   |some wd=>
     rw[hws] at h;injection h with h1 h2
     cases hs with
     |@st _ _ hs1 hs2 hs3 hs4 hs5=>
       have hw:=hs5 wd (ud9 hws);exact EJ 3 _ hw.dep hw.ok v (M3 3 _ hw.dep hw.ok w hb _ _ v hpl h1).1
def AllMg(l:List (List D)):Prop:=∀i,∀m∈l.getD i [],MgOk m
section
variable{gs:List (List GS)}{w:Bool->List Nat}
theorem TZ(hg:∀g∈gs,GOk g)(hb:∀s,OD (w s)){σ τ:Ls}(r:Run gs w σ τ)(h:AllMg σ.hd):AllMg τ.hd:=by
 induction r with
 |refl=>exact h
 |@step σ τ ρ s h' r ih=>
   clear 5 h' k m th e h1 rfl;refine ih λi x hx=>?_;obtain⟨g,ws,v,c,_,h2,h3,h4,rfl,_⟩:=FX h1
   by_cases z:k=i
   .subst z
    by_cases hk:k < σ.hd.length
    .have hx:x∈σ.hd.getD k []++[D.tup [.str (sd s),.str (ws.getD c (Str.ofString "",.nothing,0)).1,v]]:=by
      have:=De (a:=σ.hd.getD k []++[D.tup [.str (sd s),.str (ws.getD c (Str.ofString "",.nothing,0)).1,v]]) (d:=[]) hk;rw[<-this];exact hx
     rcases ui9.mp hx with hx|hx
     .exact h k x hx
     .rw[uf7.mp hx];refine⟨s,_,v,rfl,Ys (hb s) ((hg g (ud9 h2)).all (.st (sd s) ws) ?_) h4⟩;unfold AL at h3;rw[ua7] at h3
      cases e5:g[σ.st.getD k 0]? with
      |none=>rw[e5] at h3;cases h3
      |some y=>rw[e5,ui5] at h3;rw[<-h3];exact ud9 e5
    .have e0:(σ.go s k (.tup [.str (sd s),.str (ws.getD c (Str.ofString "",.nothing,0)).1,v]) th e).hd=σ.hd:=fz (by lia);rw[e0] at hx;exact h k x hx
   .have e0:(σ.go s k (.tup [.str (sd s),.str (ws.getD c (Str.ofString "",.nothing,0)).1,v]) th e).hd.getD i []=σ.hd.getD i []:=BS z;rw[e0] at hx;exact h i x hx
theorem End.msgs(hg:∀g∈gs,GOk g)(hb:∀s,OD (w s))(h:End gs w σ):AllMg σ.hd:=TZ hg hb h.1 λi m hm=>by
 have e0:(ls0 gs).hd.getD i []=[]:=by
  show(gs.map λ_=>[]).getD i []=[];rw[ua7,ug2]
  cases gs[i]?<;>rfl
 rw[e0] at hm
 cases hm
end
variable{H:Nat}{hs:List Nat}{hd:List (List D)}
theorem HrdAt.pairs(h:HrdAt S H hs hd):∃ps:List (Nat×List D),hs.map D.obj=ps.map (λp=>D.obj p.1)/\hd=ps.map (·.2)/\∀p∈ps,S[p.1]?=some (.lst p.2):=by
 refine⟨hs.zip hd,?_,?_,λp hp=>?_⟩
 .have:=gP (List.map D.obj) (List.map_fst_zip (l₁:=hs) (l₂:=hd) (by rw[h.hl];exact un5 _));rw[<-this,un1];rfl
 .exact(List.map_snd_zip (by rw[h.hl];exact un5 _)).symm
 .clear 5(ud2.mp hp)i hi;clear 5(List.getElem?_zip_eq_some.mp hi)h1 h2;have:=h.hh i p.1 h1;rw[ua7,h2] at this;exact this
theorem AllMg.mem{l:List (List D)}(h:AllMg l){x:List D}(hx:x∈l):∀m∈x,MgOk m:=by
 clear 5(ud2.mp hx)i hi;have:=h i;rw[ua7,hi] at this;exact this
theorem M0{l:List D}(h:∀m∈l,MgOk m)(n:Nat):l.map (AF S (4+n))=l:=by
 rw[ue7 λx hx=>Oi (4+n) x (ID (h x hx).nv n),List.map_id']
theorem HrdAt.res(h:HrdAt S H hs hd)(hm:AllMg hd)(n:Nat):AF S (4+n+2) (.obj H)=.lst (hd.map D.lst):=by
 clear 5 h.pairs ps e1 e2 e3;rw[AF,h.ih];dsimp only;rw[e1,e2,un1,un1]
 congr 1
 refine ue7 λp hp=>?_;show AF S (4+n+1) (.obj p.1)=.lst p.2;rw[AF,e3 p hp];dsimp only;rw[M0 (hm.mem (by rw[e2];exact List.mem_map_of_mem hp))]
theorem Tk(hm:AllMg hd)(hl:hd.length<=1000)(hf:∀i,(hd.getD i []).length<=1000):nvO 6 (.lst (hd.map D.lst))=true:=by
 rw[nvO,uh6,ug9,ui1,uj1];refine⟨hl,λx hx=>?_⟩;clear 5(un0.mp hx)l h1 rfl;rw[nvO,uh6,ug9,ui1];clear 5(ud2.mp h1)i hi;have:=hf i;rw[ua7,hi] at this;exact⟨this,λm h2=>(hm.mem h1 m h2).nv⟩
structure Sx where
 rest:Int
 dig:Bool
 cnt:Int
noncomputable def sxL(a b c:D):List (Key×D):=[(.inr (Str.ofString "rest"),a),(.inr (Str.ofString "digits"),b),(.inr (Str.ofString "count"),c)]
def Sx.l(s:Sx):List (Key×D):=sxL (.int s.rest) (.bl s.dig) (.int s.cnt)
theorem KY{c:D}:B5 (sxL a b c) (.inr (Str.ofString "rest"))=some a:=rfl
theorem RW{c:D}:B5 (sxL a b c) (.inr (Str.ofString "digits"))=some b:=rfl
theorem RV{c:D}:B5 (sxL a b c) (.inr (Str.ofString "count"))=some c:=rfl
theorem Ue{c d:D}:BI (sxL a b c) (.inr (Str.ofString "rest")) d=sxL d b c:=rfl
theorem W5{c d:D}:BI (sxL a b c) (.inr (Str.ofString "count")) d=sxL a b d:=rfl
def SxB(r:Nat)(s:Sx):Prop:=0<=s.cnt/\s.cnt+r<=1000000000000000000000000000000
def DrawD(f:Fn):Prop:=∀(s:Sx) (m:Int) (r:Nat),SxB (r+1) s->0<m->m<4611686018427387904->∃(x:Int) (s':Sx),0<=x/\x<m/\SxB r s'/\∀(S:List Ob) (K:Nat),S[K]?=some (.dct s.l)->Wf f [.obj K,.int m] S λq S'=>q=.int x/\S'=S.set K (.dct s'.l)
theorem SN:DrawD (fnOf 2 4 Dn):=by
 intro s m r ⟨c0,c1⟩ hm0 hm1;clear 5 s a b c;dsimp only at c0 c1
 cases b with
 |true=>
   refine⟨a%m,⟨a/m,true,c⟩,uk3 _ (by lia),uf9 _ hm0,⟨c0,by dsimp only;lia⟩,λS K hS=>?_⟩;refine Am rfl ?_;unfold Dn;symm;refine Bu hS RW ?_;symm;refine Bu hS KY ?_;symm;refine Ul hm0 ?_;symm;refine Bu hS KY ?_;symm;refine UR hm0 (by lia) ?_;symm;refine Hr hS (by show 3<100000;decide) ?_;rw[show BI (Sx.l ⟨a,true,c⟩) (.inr (Str.ofString "rest")) (.int (a/m))=Sx.l ⟨a/m,true,c⟩ from Ue];symm;exact⟨rfl,rfl⟩
 |false=>
   obtain⟨x1,hx1⟩:∃x1,x1=(a%999999999989+480007*(c+1))%999999999989:=⟨_,rfl⟩;obtain⟨x2,hx2⟩:∃x2,x2=x1*x1%1000000000039:=⟨_,rfl⟩;obtain⟨x3,hx3⟩:∃x3,x3=(x2+290027)*x2%999999999961:=⟨_,rfl⟩;have a1:0<=x1:=by rw[hx1];exact uk3 _ (by decide)
   have b1:x1<999999999989:=by rw[hx1];exact uf9 _ (by decide)
   have a2:0<=x2:=by rw[hx2];exact uk3 _ (by decide)
   have b2:x2<1000000000039:=by rw[hx2];exact uf9 _ (by decide)
   refine⟨x3/7%m,⟨a,false,c+1⟩,uk3 _ (by lia),uf9 _ hm0,⟨by dsimp only;lia,by dsimp only;lia⟩,λS K hS=>?_⟩;refine Am rfl ?_;unfold Dn;symm;refine Bu hS RW ?_;symm;refine Bu hS RV ?_;symm;refine Hr hS (by show 3<100000;decide) ?_;rw[show BI (Sx.l ⟨a,false,c⟩) (.inr (Str.ofString "count")) (.int (c+1))=Sx.l ⟨a,false,c+1⟩ from W5];have g1:(S.set K (.dct (Sx.l ⟨a,false,c+1⟩)))[K]?=some (.dct (Sx.l ⟨a,false,c+1⟩)):=AT hS;symm;refine Bu g1 KY ?_;symm;refine Bu g1 RV ?_;symm;refine PV (by decide) (JS (show(0:Int)<=c+1 by lia) (show c+1<10000000000000000000000000000000000000000000000000000000000000000000000000000000 by lia)) ?_;symm;rw[<-hx1];refine PV (JS (by lia) (by lia)) (JS (by lia) (by lia)) ?_;symm;rw[<-hx2];refine PV (JS (by lia) (by lia)) (JS (by lia) (by lia)) ?_;symm;rw[<-hx3];refine UR (by decide) (by decide) ?_;symm;refine Ul hm0 ?_;symm;exact⟨rfl,rfl⟩
def D1(f:Fn):Prop:=∀(ns:List Int) (k:Nat),ns.length<=63->k<=1000->∃s:Sx,SxB 900000000000000000000000000000 s/\∀S:List Ob,Wf f [.scr ns,.int (k:Nat)] S λq S'=>q=.obj S.length/\S'=S++[.dct s.l]
theorem RQ:D1 (fnOf 2 3 C1):=by
 intro ns k hl hk
 by_cases z:k<ns.length
 .refine⟨⟨ns[k],decide (1000000000000000000<=ns[k]),k⟩,⟨by dsimp only;lia,by dsimp only;lia⟩,λS=>?_⟩;refine Am rfl ?_;unfold C1;symm;refine EL (ul0 (by lia)) ?_;symm;refine W_ix_scr.mpr ⟨ns[k],?_,?_⟩
  .unfold atI;rw[BA (by lia) (by lia)];show ns[(k:Int).toNat]?=_;rw[ug5,ub2 z]
  .symm;refine LM ?_;refine BW ?_;symm;refine BW ?_;refine Um ?_;symm;refine CW (uk4 (by lia)) ?_;symm;refine BW ?_;symm;refine Gj ?_;refine⟨Ca,by show 3<=15;decide,rfl,?_⟩;show(S++[Ob.dct []]).set S.length _=_;rw[ud3 _ _ (un5 _),un2];rfl
 .refine⟨⟨0,true,k⟩,⟨by dsimp only;lia,by dsimp only;lia⟩,λS=>?_⟩;refine Am rfl ?_;unfold C1;symm;refine CW (uk4 (by lia)) ?_;symm;refine LM ?_;refine BW ?_;symm;refine BW ?_;refine Um ?_;symm;refine EL (ul0 (by lia)) ?_;refine BW ?_;symm;refine Gj ?_;refine⟨Ca,by show 3<=15;decide,rfl,?_⟩;show(S++[Ob.dct []]).set S.length _=_;rw[ud3 _ _ (un5 _),un2];rfl
theorem Fk:Bp xs none (some (n:Int))=xs.take n:=by
 by_cases h:n<=xs.length
 .rw[SK (by lia) (by lia),ug5]
 .have:HT.sIx xs.length xs.length (some (n:Int))=xs.length:=by simp only[HT.sIx];rw[gX (by lia)];lia
  unfold Bp;rw[this];simp only[HT.sIx,uk9,Nat.sub_zero];rw[ui6,uc1 (by lia)]
theorem Sd{k:Nat}{lo hi:Option Int}(e:t.S[k]?=some (.lst ds))(h:P (.lst (Bp ds lo hi)) t):L2.W (Jl (.obj k) lo hi) t P:=⟨_,_,by simp only[Jl,e],h⟩
theorem FC{k:Nat}(e:t.S[k]?=some (.lst ds))(h:P (.int (ds.length:Nat)) t):L2.W (Az [.obj k]) t P:=W_len_obj.mpr ⟨ds,e,h⟩
def StK(K r:Nat)(S S':List Ob):Prop:=Kp K S S'/\∃s:Sx,S'[K]?=some (.dct s.l)/\SxB r s
theorem Kp.trans{k:Nat}{S S1 S2:List Ob}(a:Kp k S S1)(b:Kp k S1 S2):Kp k S S2:=⟨um3 a.1 b.1,λi h n=>(b.2 i (uf0 h a.1) n).trans (a.2 i h n)⟩
theorem Gr.kp{k:Nat}{S1:List Ob}(a:Gr S S1):Kp k S S1:=⟨a.1,λi h _=>a.2 i h⟩
theorem Kp.get{k i:Nat}{S S1:List Ob}{o:Ob}(a:Kp k S S1)(h:S[i]?=some o)(n:i≠k):S1[i]?=some o:=by rw[a.2 i (B8 h) n];exact h
def Fst(gs:List (List GS))(w:Bool->List Nat)(σ:Ls)(S:List Ob)(a b:D):Prop:=match LH gs w σ with
 |some (s,j)=>a=.non/\b=.tup [.str (sd s),.int (j:Nat)]
 |none=>∃H hs,a=.tup [.obj H,.tup [.int (σ.p true:Nat),.int (σ.p false:Nat)]]/\b=.non/\HrdAt S H hs σ.hd
theorem SxB.mono{r r':Nat}{s:Sx}(h:SxB r s)(e:r'<=r):SxB r' s:=⟨h.1,by have:=h.2;lia⟩
def Dw(f:Fn)(as:List D)(s:Sx)(v:D)(s':Sx):Prop:=∀(S:List Ob) (K:Nat),K<S.length->Wf f (.obj K::as) (S.set K (.dct s.l)) λq S'=>q=v/\S'=S.set K (.dct s'.l)
theorem Dw.use{f:Fn}{as:List D}{s s':Sx}(h:Dw f as s v s'){S:List Ob}{K:Nat}(hK:K<S.length){P:D->List Ob->Prop}(p:P v (S.set K (.dct s'.l))):Wf f (.obj K::as) (S.set K (.dct s.l)) P:=(h S K hK).mono λq S' ⟨e1,e2⟩=>by subst e1 e2;exact p
def DK(f:Fn):Prop:=∀(s:Sx) (m:Int) (r:Nat),SxB (r+1) s->0<m->m<4611686018427387904->∃(x:Int) (s':Sx),0<=x/\x<m/\SxB r s'/\Dw f [.int m] s (.int x) s'
theorem G0{f:Fn}(h:DrawD f):DK f:=λs m r hs h0 h1=>by
 clear 5(h s m r hs h0 h1)x s' x0 x1 b d;refine⟨x,s',x0,x1,b,λS K hK=>?_⟩;refine(d _ K (ub8 hK)).mono λq S' ⟨e1,e2⟩=>⟨e1,?_⟩;rw[e2,List.set_set]
def Dq(f:Fn)(n:Nat):Prop:=∀(d:Nat) (s:Sx) (r:Nat),d<n->SxB (r+cs d) s->∃(sh:Sh) (s':Sx),sh.depth<=d+1/\wf sh=true/\SxB r s'/\Dw f [.int (d:Nat)] s sh.d s'
noncomputable def Ku:Sh->Sh
 |.list s q=>.list s (if 6<q then 6 else q)
 |.nothing=>.nothing
 |.number a b=>.number a b
 |.text m=>.text m
 |.pair a b=>.pair a b
 |.choice ss=>.choice ss
theorem OS(s:Sh):(Ku s).depth=s.depth:=by cases s<;>rfl
theorem UY{s:Sh}(h:wf s=true):wf (Ku s)=true:=by
 cases s with
 |list s q=>
   rw[Ku];simp only[wf,uh6,ug9] at h⊢;refine⟨⟨?_,?_⟩,h.2⟩<;>(split<;>lia)
 |_=>exact h
theorem JZ{cr:Fn}{n e:Nat}(hr:Dq cr n)(he:e<n):∀(m:Nat) (s:Sx) (r:Nat),SxB (r+m*cs e) s->∃(ss:List Sh) (s':Sx),ss.length=m/\(∀x∈ss,x.depth<=e+1/\wf x=true)/\SxB r s'/\∀(l:List D) (S:List Ob) (K:Nat) (z:Option Sl),l.length=m->K<S.length->L2.W (Bf (As 0) B4 (Af cr (Aa (Ab 1) (Aa (Ac (Ab 2) (ee 1) Bw) Ad))) l) ⟨[z,vw (.obj K),vw (.int ((e+1:Nat):Int))],S.set K (.dct s.l)⟩ λq t'=>q=ss.map Sh.d/\t'.S=S.set K (.dct s'.l)
 | 0,s,r,hs=>⟨[],s,rfl,(λ_ h=>nomatch h),hs.mono (by lia),λl S K z hl hK=>by
   have:l=[]:=ua1 hl;subst this;exact W_compL_nil.mpr ⟨rfl,rfl⟩⟩
 |m+1,s,r,hs=>by
   clear 5(hr e s (r+m*cs e) he (hs.mono (by rw[um6];lia)))sh s1 h1 h2 b1 d1;clear 5(JZ hr he m s1 r b1)ss s2 g1 g2 b2 d2;refine⟨sh::ss,s2,by rw[uh2,g1],λx hx=>?_,b2,λl S K z hl hK=>?_⟩
   .rcases ul2.mp hx with rfl|hx
    .exact⟨h1,h2⟩
    .exact g2 x hx
   cases l with
   |nil=>cases hl
   |cons d l=>
     rw[A7];refine Ee (Ga ?_);rw[gW rfl];symm;rw[show((e+1:Nat):Int)-1=(e:Nat) by lia];refine d1.use hK ?_;symm;refine(d2 l S K _ (un4 hl) hK).mono λq t' z9=>?_;clear 5 z9 e1 e2;subst e1;exact⟨rfl,e2⟩
theorem RM{cr:Fn}(ht:DK ct)(hr:n=0\/Dq cr n):Dq (fnOf 2 5 (A9 ct cr)) (n+1):=by
 intro d s r hd p0;have hcs:=ZH d;clear 5(ht s (if d=0 then 3 else 6) (r+(cs d-1)) (p0.mono (by lia)) (by split<;>decide) (by split<;>decide))i s1 i0 i1 b1 d1;have hm:(3:Int)+3*(if decide ((0:Int)<(d:Int))=true then 1 else 0)=if d=0 then 3 else 6:=by
  by_cases z:d=0
  .subst z;rfl
  .rw[gX z,gW (ul0 (by lia))];rfl
 by_cases k0:i=0
 .subst k0;refine⟨.nothing,s1,by show 1<=_;lia,rfl,b1.mono (by lia),λS K hK=>?_⟩;refine Am rfl ?_;unfold A9;symm;refine EY (DR (by decide) (by decide)) ?_;symm;rw[hm];refine d1.use hK ?_;symm;exact⟨by rw[Sh.d],rfl⟩
 by_cases k1:i=1
 .subst k1;clear 5(ht s1 9 (r + 8) (b1.mono (by lia)) (by decide) (by decide))a s2 a0 a1 b2 d2;clear 5(ht s2 10000000000000000 (r + 7) b2 (by decide) (by decide))b s3 c0 c1 b3 d3;clear 5(ht s3 3 (r + 6) b3 (by decide) (by decide))g s4 z0 z1 b4 d4;clear 5(ht s4 10000000000000000 (r + 5) b4 (by decide) (by decide))x s5 x0 x1 b5 d5;clear 5(ht s5 7 (r + 4) b5 (by decide) (by decide))h s6 h0 h1 b6 d6;obtain ⟨dd,ed,lo,rfl,l0,l1⟩:=Ic (xs:=[D.int 0,D.int (a - 4),D.int (b - 1000000000000000)]) z0 (by simpa using z1) (p:=λd=>∃m:Int,d = .int m/\-1000000000000000<=m/\m<=10000000000000000) (by
   simp only[ue0];exact⟨⟨_,rfl,by decide,by decide⟩,⟨_,rfl,by lia,by lia⟩,⟨_,rfl,by lia,by lia⟩,λ_ z=>nomatch z⟩)
  obtain⟨dd,ed2,hi,rfl,m0,m1⟩:=Ic (xs:=[D.int 0,D.int 1,D.int 200,D.int 255,D.int 256,D.int 70000,D.int x]) h0 (by simpa using h1) (p:=λd=>∃m:Int,d=.int m/\0<=m/\m<=10000000000000000) (by
   simp only[ue0];exact⟨⟨_,rfl,by decide,by decide⟩,⟨_,rfl,by decide,by decide⟩,⟨_,rfl,by decide,by decide⟩,⟨_,rfl,by decide,by decide⟩,⟨_,rfl,by decide,by decide⟩,⟨_,rfl,by decide,by decide⟩,⟨_,rfl,by lia,by lia⟩,λ_ z=>nomatch z⟩)
  refine⟨.number lo (lo+hi),s6,by show 1<=_;lia,?_,b6.mono (by lia),λS K hK=>?_⟩
  .simp only[wf,uh6,ug9];lia
  refine Am rfl ?_;unfold A9;symm;refine EY (DR (by decide) (by decide)) ?_;symm;rw[hm];refine d1.use hK ?_;symm;refine d2.use hK ?_;symm;refine d3.use hK ?_;symm;refine d4.use hK ?_;have e15:(10:Int) ^ (15:Int).toNat=1000000000000000:=by decide
  rw[e15];refine AG ed ?_;symm;refine d5.use hK ?_;symm;refine d6.use hK ?_;refine AG ed2 ?_;symm;exact⟨by rw[Sh.d],rfl⟩
 by_cases k2:i=2
 .subst k2;clear 5(ht s1 4 (r + 8) (b1.mono (by lia)) (by decide) (by decide))g s2 z0 z1 b2 d2;obtain ⟨dd,ed,m,rfl,m0,m1⟩:=Ic (xs:=[D.int 0,D.int 1,D.int 5,D.int 250]) z0 (by simpa using z1) (p:=λd=>∃m:Int,d = .int m/\0<=m/\m<=250) (by
   simp only[ue0];exact⟨⟨_,rfl,by decide,by decide⟩,⟨_,rfl,by decide,by decide⟩,⟨_,rfl,by decide,by decide⟩,⟨_,rfl,by decide,by decide⟩,λ_ z=>nomatch z⟩)
  refine⟨.text m,s2,by show 1<=_;lia,?_,b2.mono (by lia),λS K hK=>?_⟩
  .simp only[wf,uh6,ug9];exact⟨m0,m1⟩
  refine Am rfl ?_;unfold A9;symm;refine EY (DR (by decide) (by decide)) ?_;symm;rw[hm];refine d1.use hK ?_;symm;refine d2.use hK ?_;refine AG ed ?_;symm;exact⟨by rw[Sh.d],rfl⟩
 obtain⟨e,rfl⟩:∃e,d=e+1:=⟨d-1,by
  have:¬d=0:=λz=>by rw[gW z] at i1;lia
  lia⟩
 rw[gX (show ¬e+1=0 by lia)] at i1 d1 hm;have hrr:Dq cr n:=hr.resolve_left (by lia);have hen:e<n:=by lia
 have hce:cs (e+1)=10+3*cs e:=rfl;have he1:((e+1:Nat):Int)-1=(e:Nat):=by lia
 by_cases k3:i=3
 .subst k3;clear 5(hrr e s1 (r + 5) hen (b1.mono (by lia)))sh s2 hdp hwf b2 d2;clear 5(ht s2 4 (r + 4) b2 (by decide) (by decide))g s3 z0 z1 b3 d3;obtain ⟨dd,ed,m,rfl,m0,m1⟩:=Ic (xs:=[D.int 0,D.int 2,D.int 6,D.int 250]) z0 (by simpa using z1) (p:=λd=>∃m:Int,d = .int m/\0<=m/\m<=250) (by
   simp only[ue0];exact⟨⟨_,rfl,by decide,by decide⟩,⟨_,rfl,by decide,by decide⟩,⟨_,rfl,by decide,by decide⟩,⟨_,rfl,by decide,by decide⟩,λ_ z=>nomatch z⟩)
  refine⟨.list (Ku sh) m,s3,?_,?_,b3.mono (by lia),λS K hK=>?_⟩
  .rw[Sh.depth,OS];lia
  .simp only[wf,uh6,ug9];exact⟨⟨m0,m1⟩,UY hwf⟩
  refine Am rfl ?_;unfold A9;symm;refine EY (DR (by decide) (by decide)) ?_;symm;rw[hm];refine d1.use hK ?_;symm;rw[he1];refine d2.use hK ?_
  cases sh with
  |list s0 q=>
    rw[Sh.d];symm;refine d3.use hK ?_;refine AG ed ?_;symm;exact⟨by simp only[Ku,Sh.d],rfl⟩
  |_=>
    rw[Sh.d];symm;refine d3.use hK ?_;refine AG ed ?_;symm;exact⟨by simp only[Ku,Sh.d],rfl⟩
 by_cases k4:i=4
 .subst k4;clear 5(hrr e s1 (r+cs e) hen (b1.mono (by lia)))sh s2 hdp hwf b2 d2;clear 5(hrr e s2 r hen b2)sh3 s3 hdp3 hwf3 b3 d3;refine⟨.pair sh sh3,s3,?_,?_,b3,λS K hK=>?_⟩
  .rw[Sh.depth];lia
  .simp only[wf,uh6];exact⟨hwf,hwf3⟩
  refine Am rfl ?_;unfold A9;symm;refine EY (DR (by decide) (by decide)) ?_;symm;rw[hm];refine d1.use hK ?_;symm;rw[he1];refine d2.use hK ?_;symm;rw[he1];refine d3.use hK ?_;symm;exact⟨by rw[Sh.d],rfl⟩
 have k5:i=5:=by lia
 subst k5;clear 5(ht s1 3 (r+3*cs e) (b1.mono (by lia)) (by decide) (by decide))g s2 z0 z1 b2 d2;clear 5(ub4 z0)g rfl;clear 5(JZ hrr hen (1+g) s2 r (b2.mono (by have:(1+g)*cs e<=3*cs e:=ue1 _ (by lia);lia)))ss s3 hsl hs1 b3 d3;refine⟨.choice ss,s3,?_,?_,b3,λS K hK=>?_⟩
 .exact bD λx hx=>(hs1 x hx).1
 .simp only[wf,uh6,ug9];exact⟨⟨by lia,by lia⟩,Sg λx hx=>(hs1 x hx).2⟩
 refine Am rfl ?_;unfold A9;symm;refine EY (DR (by decide) (by decide)) ?_;symm;rw[hm];refine d1.use hK ?_;symm;refine d2.use hK ?_;symm;refine DJ (by simp[B9];lia) ?_;refine(d3 (AH 0 (1+(g:Int)).toNat) S K none (by unfold AH;rw[uj1,ug8];lia) hK).mono λq t' z9=>?_;clear 5 z9 e1 e2;subst e1;refine Bc (by rw[uj1,hsl];show _<=100000;lia) ?_;symm;refine⟨?_,e2⟩;rw[Sh.d,M7]
theorem StK.mono{K r r':Nat}{S S1:List Ob}(h:StK K r S S1)(e:r'<=r):StK K r' S S1:=⟨h.1,h.2.imp λs q=>⟨q.1,q.2.mono e⟩⟩
theorem DrawD.use{f:Fn}(h:DrawD f){K r:Nat}{S0 S:List Ob}{m:Int}(many:Int)(d:StK K (r+1) S0 S){P:D->List Ob->Prop}(p:∀i S',0<=i->i<many->StK K r S0 S'->P (.int i) S')(e:m=many:=by first|rfl|decide)(h1:0<many:=by decide)(h2:many<4611686018427387904:=by decide):Wf f [.obj K,.int m] S P:=by
 subst e;clear 5 d k s hK b;clear 5(h s m r b h1 h2)x s1 x0 x1 b1 d1;refine(d1 S K hK).mono λq S' z9=>?_;clear 5 z9 e1 e2;subst e1 e2;exact p x _ x0 x1 ⟨k.setk,s1,AT hK,b1⟩
structure ValC(K r:Nat)(S0:List Ob)(s:Sh)(c:Nat)(v:D)(S':List Ob):Prop where
 fit:Ai s v=true
 len:(Aq s v).length<=c
 st:StK K r S0 S'
noncomputable def YF:D->D
 |.str y=>.int (y.cps.getD 0 0:Nat)
 |d=>d
theorem Qg(x:Str):(x.cps.toList.map λc=>D.str ⟨#[c]⟩).map YF=x.cps.toList.map λn=>D.int (n:Nat):=by
 rw[un1];refine ue7 λn _=>?_;rfl
theorem Pb(hc:Dg c n)(hm:GR cm):Dg (fnOf 2 7 (D9 c cm)) (n+1):=by
 intro s hs hwf d hf hlen S;have hL:LIM=100000:=rfl;refine Am rfl ?_;unfold D9
 cases s with
 |nothing=>
   rw[Sh.d];symm;exact⟨by rw[Aq],rfl⟩
 |number lo hi=>
   have hsp:=KW hwf;have hwd:=GN 9 _ hsp;simp only[wf,uh6,ug9] at hwf
   cases d<;>simp[Ai] at hf
   rename_i i;rw[Sh.d];have e1:hi-lo=(((hi-lo).toNat:Nat):Int):=by lia
   have e2:i-lo=(((i-lo).toNat:Nat):Int):=by lia
   symm;rw[e1,e2];refine(hm _ hsp).use ?_;symm;refine DJ (By (by lia) (by lia)) ?_;refine DL (λr t=>∃(z:Option Sl) (m:Nat) (acc:List D),t=⟨[vw (.tup [.str "number",.int lo,.int hi]),vw (.int i),vw (.str "number"),vw (.int m),vw (.lst acc),z,none],S⟩/\nb r.length m++acc=nb (wid (hi-lo).toNat) (i-lo).toNat) _ _ ⟨_,_,_,rfl,by simp[AH]⟩ ?_ ?_
   .rintro d r t ⟨z,m,acc,rfl,hacc⟩ _;rw[uh2,nb,ug4] at hacc;have hl:acc.length<LIM:=by
     have:=gP List.length hacc;simp only[uf4,uh2,uk0,JU] at this;lia
    symm;refine Bc (by show 1+acc.length<=100000;rw[hL] at hl;lia) ?_;symm;exact⟨_,m/256,_,rfl,hacc⟩
   .rintro t ⟨z,m,acc,rfl,hacc⟩;rw[uk0,nb,uj8] at hacc;symm;exact⟨by rw[hacc,Aq],rfl⟩
 |text q=>
   simp only[wf,uh6,ug9] at hwf
   cases d<;>simp[Ai] at hf
   rename_i x;rw[Sh.d];symm;refine PU (by rw[hL];lia) ?_;symm;refine(Hz (f:=YF) (fr:=[]) ?_).mono ?_
   .intro d m;clear 5(un0.mp m)k hk rfl;symm;refine Uo rfl ?_;exact⟨rfl,rfl⟩
   .rintro xs t' ⟨rfl,hS⟩;rw[Qg];have hl:x.cps.toList.length<=250:=by rw[<-DA];lia
    refine Bc (by rw[uj1,hL];lia) ?_;symm;refine Bc (by simp only[uj1,uh2,uk0,hL];lia) ?_;symm;exact⟨by rw[Aq];rfl,hS⟩
 |list s q=>
   simp only[wf,uh6,ug9] at hwf;rw[Sh.depth] at hs
   cases d<;>simp only[Ai,uf6] at hf
   rename_i ds;rw[uh6,ug9,ui1] at hf;rw[Aq] at hlen⊢;rw[Sh.d];symm;refine DL (λr t=>∃(z:Option Sl) (acc:List D),t=⟨[vw (.tup [.str "list",s.d,.int q]),vw (.lst ds),vw (.str "list"),none,vw (.lst acc),none,z],S⟩/\acc++(r.map λd=>Aq s d).flatten=.int (ds.length:Nat)::(ds.map λd=>Aq s d).flatten) _ _ ⟨_,_,rfl,rfl⟩ ?_ ?_
   .rintro d r t ⟨z,acc,rfl,hacc⟩ m;rw[ul3,ug3,<-ug4] at hacc;have hl:acc.length+(Aq s d).length<=LIM:=by
     have:=gP List.length hacc;rw[uf4,uf4] at this;lia
    symm;refine(hc s (by lia) hwf.2 d (hf.2 d m) (by lia)).use ?_;symm;refine Bc hl ?_;exact⟨_,_,rfl,hacc⟩
   .rintro t ⟨z,acc,rfl,hacc⟩;rw[um7,List.flatten_nil,uj3] at hacc;symm;exact⟨by rw[hacc],rfl⟩
 |pair s r=>
   simp only[wf,uh6] at hwf;rw[Sh.depth] at hs;unfold Ai at hf
   split at hf
   case h_2=>cases hf
   case h_1 a b=>
    rw[uh6] at hf;rw[Aq] at hlen⊢;rw[uf4] at hlen;rw[Sh.d];symm;refine(hc s (by lia) hwf.1 a hf.1 (by lia)).use ?_;symm;refine(hc r (by lia) hwf.2 b hf.2 (by lia)).use ?_;symm;refine Bc (by lia) ?_;symm;exact⟨rfl,rfl⟩
 |choice ss=>
   simp only[wf,uh6,ug9] at hwf;rw[Sh.depth] at hs;unfold Ai at hf
   split at hf
   case h_2=>cases hf
   case h_1 o k x=>
    simp only[uh6,ug9] at hf;obtain⟨⟨ho,k0,k1⟩,hf⟩:=hf;have hk:k.toNat<ss.length:=by lia
    have e1:ss[k.toNat]?=some ss[k.toNat]:=ub2 hk;have hl:=DS ss;have e2:atI (shD ss) k=some (ss[k.toNat]).d:=by
     unfold atI;rw[BA k0 (by lia)];show(shD ss)[k.toNat]?=_;rw[FA,e1];rfl
    rw[BY ss _ _ _ e1] at hf;rw[Aq] at hlen⊢;rw[Du ss _ _ _ e1] at hlen⊢;rw[uh2] at hlen;rw[Sh.d];symm;refine DH e2 ?_;symm;refine(hc _ (um3 (B1 ss _ _ e1) (by lia)) (CJ hwf.2 _ (ui3 hk)) x hf (by lia)).use ?_;symm;refine Bc (by simp only[uh2,uk0];lia) ?_;symm;exact⟨rfl,rfl⟩
noncomputable def nm14:List Str:=[Str.ofString "a",Str.ofString "ab",Str.ofString "b",Str.ofString "ba",Str.ofString "abc",Str.ofString "zz",Str.ofString "hello",Str.ofString "x",Str.ofString "quit",Str.ofString "go",Str.ofString "abcdefgh",Str.ofString "c",Str.ofString "no",Str.ofString "abcdefgi"]
def FW(o k:Nat):Str:=nm14.getD ((o+3*k)%14) (Str.ofString "a")
theorem Tv(o k:Nat):(FW o k).length<=90000:=by
 have h:∀i:Fin 14,(nm14.getD i.val (Str.ofString "a")).length<=90000:=by decide +kernel
 exact h ⟨(o+3*k)%14,gO _ (by decide)⟩
theorem VS(o k:Nat):(FW o k).length<=1000:=by
 have h:∀i:Fin 14,(nm14.getD i.val (Str.ofString "a")).length<=1000:=by decide +kernel
 exact h ⟨(o+3*k)%14,gO _ (by decide)⟩
structure GSN(n:Int)(x:GS):Prop where
 ok:GSOk n x
 nm:∀w∈x.ws,w.1.length<=1000
structure GON(g:List GS):Prop where
 ok:GOk g
 nm:∀x∈g,∀w∈x.ws,w.1.length<=1000
theorem VR{o m:Nat}(ho:o<14)(hm:m<=9):((List.range m).map (FW o)).Nodup:=by
 have h:∀i:Fin 14,((List.range 9).map (FW i.val)).Nodup:=by decide +kernel
 have e:(List.range m).map (FW o)=((List.range 9).map (FW o)).take m:=by
  rw[<-List.map_take,List.take_range,Nat.min_eq_left hm]
 rw[e];exact(h ⟨o,ho⟩).sublist (List.take_sublist _ _)
theorem VQ(o k:Nat):atI (nm14.map D.str) (((o:Int)+3*(k:Int))%14)=some (.str (FW o k)):=by
 have e:(((o:Int)+3*(k:Int))%14)=(((o+3*k)%14:Nat):Int):=by lia
 have hl:(nm14.map D.str).length=14:=by decide
 have hk:(o+3*k)%14<14:=gO _ (by decide);rw[e];unfold atI;rw[BA (by lia) (by rw[hl];lia)];show(nm14.map D.str)[(((o+3*k)%14:Nat):Int).toNat]?=_;rw[ug5,ug2];unfold FW;rw[ua7,ub2 (show(o+3*k)%14<nm14.length from hk)];rfl
variable{cd cs0:Fn}
theorem Xm(hd:DK cd)(hs:Dq cs0 3){many h:Int}{o k:Nat}(m0:1<=many)(m1:many<=30)(h0:0<=h)(h1:h<many)(hk:k<=9)(s:Sx)(r:Nat)(b:SxB (r+200) s):∃(w:Str×Sh×Int) (s':Sx),w.1=FW o k/\WOk many w/\SxB r s'/\∀(a0 a1 a4 a7 e11:Option Sl) (acc:List D) (S:List Ob) (K:Nat),acc.length<=9->K<S.length->
 L2.W (wdB cd cs0) ⟨[a0,a1,vw (.int many),vw (.lst (nm14.map D.str)),a4,vw (.int h),vw (.obj K),a7,vw (.int (o:Nat)),some (.own acc),vw (.int (k:Nat)),e11],S.set K (.dct s.l)⟩ λout t=>out=.next/\∃f11,t=⟨[a0,a1,vw (.int many),vw (.lst (nm14.map D.str)),a4,vw (.int h),vw (.obj K),a7,vw (.int (o:Nat)),some (.own (acc++[wdD w])),vw (.int (k:Nat)),f11],S.set K (.dct s'.l)⟩:=by
 have hL:LIM=100000:=rfl;clear 5(hd s many (r+199) b (by lia) (by lia))x s1 x0 x1 b1 d1;clear 5(hd s1 2 (r+198) b1 (by decide) (by decide))y s2 y0 y1 b2 d2;clear 5(hd s2 3 (r+197) b2 (by decide) (by decide))z s3 z0 z1 b3 d3;clear 5(ub4 z0)z rfl;have hz:z<3:=by lia
 have hcs:cs z<=130:=by
  have:z=0\/z=1\/z=2:=by lia
  rcases this with rfl|rfl|rfl<;>decide
 clear 5(hs z s3 r hz (b3.mono (by lia)))sh s4 g1 g2 b4 d4;obtain⟨dd,ed,th,rfl,t0,t1⟩:=Ic (xs:=[D.int (if h+1<many-1 then h+1 else many-1),D.int x]) y0 (by simpa using y1) (p:=λd=>∃m:Int,d=.int m/\0<=m/\m<many) (by
  simp only[ue0];exact⟨⟨_,rfl,by split<;>lia,by split<;>lia⟩,⟨_,rfl,x0,x1⟩,λ_ z=>nomatch z⟩)
 refine⟨(FW o k,sh,th),s4,rfl,⟨g2,by dsimp only;lia,t0,t1,Tv o k⟩,b4,λa0 a1 a4 a7 e11 acc S K hacc hK=>?_⟩;unfold wdB;symm;refine d1.use hK ?_;symm;refine d2.use hK ?_;refine AG ed ?_;symm;refine EY (DR (by decide) (by decide)) ?_;symm;refine AG (VQ o k) ?_;symm;refine d3.use hK ?_;symm;refine d4.use hK ?_;symm;refine Bc (by lia) ?_;exact⟨rfl,_,rfl⟩
theorem J0{cd cs0:Fn}(hd:DK cd)(hs:Dq cs0 3){many h:Int}{o:Nat}(m0:1<=many)(m1:many<=30)(h0:0<=h)(h1:h<many):∀(l:List Nat) (s:Sx) (r:Nat),(∀k∈l,k<=9)->SxB (r+200*l.length) s->∃(ws:List (Str×Sh×Int)) (s':Sx),ws.map (·.1)=l.map (FW o)/\(∀w∈ws,WOk many w)/\SxB r s'/\∀(a0 a1 a4 a7 e10 e11:Option Sl) (acc:List D) (S:List Ob) (K:Nat),acc.length+l.length<=9->K<S.length->
 L2.W (Bv (As 10) (wdB cd cs0) (l.map λk:Nat=>D.int (k:Int))) ⟨[a0,a1,vw (.int many),vw (.lst (nm14.map D.str)),a4,vw (.int h),vw (.obj K),a7,vw (.int (o:Nat)),some (.own acc),e10,e11],S.set K (.dct s.l)⟩ λout t=>out=.next/\∃f10 f11,t=⟨[a0,a1,vw (.int many),vw (.lst (nm14.map D.str)),a4,vw (.int h),vw (.obj K),a7,vw (.int (o:Nat)),some (.own (acc++ws.map wdD)),f10,f11],S.set K (.dct s'.l)⟩
 |[],s,r,hk,b=>⟨[],s,rfl,(λ_ h=>nomatch h),b,λa0 a1 a4 a7 e10 e11 acc S K _ _=>W_forL_nil.mpr ⟨rfl,_,_,by rw[um7,uj3]⟩⟩
 |k::l,s,r,hk,b=>by
   rw[uh2] at b;clear 5(Xm (o:=o) (k:=k) hd hs m0 m1 h0 h1 (hk k uf1) s (r+200*l.length) (b.mono (by lia)))w s1 w1 w2 b1 d1;clear 5(J0 (o:=o) hd hs m0 m1 h0 h1 l s1 r (λj hj=>hk j (ud6 _ hj)) b1)ws s2 g1 g2 b2 d2;refine⟨w::ws,s2,by rw[ul3,ul3,w1,g1],λx hx=>?_,b2,λa0 a1 a4 a7 e10 e11 acc S K hl hK=>?_⟩
   .rcases ul2.mp hx with rfl|hx
    .exact w2
    .exact g2 x hx
   rw[uh2] at hl;rw[ul3,BO];refine Ee ?_;refine(d1 a0 a1 a4 a7 e11 acc S K (by lia) hK).mono λout t z9=>?_;clear 5 z9 e1 f11 e2;subst e1 e2;refine(d2 a0 a1 a4 a7 _ _ (acc++[wdD w]) S K (by rw[uf4,uc9];lia) hK).mono λout t z9=>?_;clear 5 z9 e1 f10 f11 e2;refine⟨e1,f10,f11,?_⟩;rw[e2,ug4];rfl
def stB(Ah AS:Fn):M Out:=
 (Ae (Ao 7 (Ac (Ax (AK (Aa (fC (.str "left")) (Aa (fC (.str "right")) Ad)))) (Af Ah (Aa (Ab 6) (Aa (ee 2) Ad))) ixD))
 (Ae (Ao 8 (Af Ah (Aa (Ab 6) (Aa (ee 14) Ad))))
 (Ae (Eb 9 (AK Ad))
 (Ae (Bj (Bm (Aa (Ac (Ax (AK (Aa (ee 1) (Aa (ee 2) (Aa (ee 3) (Aa (ee 9) Ad)))))) (Af Ah (Aa (Ab 6) (Aa (ee 4) Ad))) ixD) Ad)) (As 10) (wdB Ah AS))
 (ownM 4 Cd (Aa (AN (Aa (Ab 7) (Aa (Ab 9) Ad))) Ad))))))
theorem Ov(hd:DK cd)(hs:Dq cs0 3){many h:Int}(m0:1<=many)(m1:many<=30)(h0:0<=h)(h1:h<many)(s:Sx)(b:SxB 3000 s):∃(x:GS) (s':Sx),GSN many x/\∀(a0 a1 e7 e8 e9 e10 e11:Option Sl) (acc:List D) (S:List Ob) (K:Nat),acc.length<=30->K<S.length->
 L2.W (stB cd cs0) ⟨[a0,a1,vw (.int many),vw (.lst (nm14.map D.str)),some (.own acc),vw (.int h),vw (.obj K),e7,e8,e9,e10,e11],S.set K (.dct s.l)⟩ λout t=>out=.next/\∃f7 f8 f9 f10 f11,t=⟨[a0,a1,vw (.int many),vw (.lst (nm14.map D.str)),some (.own (acc++[x.d])),vw (.int h),vw (.obj K),f7,f8,f9,f10,f11],S.set K (.dct s'.l)⟩:=by
 have hL:LIM=100000:=rfl;clear 5(hd s 2 2999 b (by lia) (by lia))x s1 x0 x1 b1 d1;clear 5(hd s1 14 2998 b1 (by decide) (by decide))o s2 o0 o1 b2 d2;clear 5(hd s2 4 2997 b2 (by decide) (by decide))z s3 z0 z1 b3 d3;clear 5(ub4 o0)o rfl;obtain⟨dd,ed,side,rfl,hside⟩:=Ic (xs:=[D.str (Str.ofString "left"),D.str (Str.ofString "right")]) x0 (by simpa using x1) (p:=λd=>∃m:Str,d=.str m/\(m=Str.ofString "left"\/m=Str.ofString "right")) (by
  simp only[ue0];exact⟨⟨_,rfl,.inl rfl⟩,⟨_,rfl,.inr rfl⟩,λ_ z=>nomatch z⟩)
 obtain⟨dd,ed2,n,rfl,n0,n1⟩:=Ic (xs:=[D.int 1,D.int 2,D.int 3,D.int 9]) z0 (by simpa using z1) (p:=λd=>∃m:Nat,d=.int (m:Nat)/\1<=m/\m<=9) (by
  simp only[ue0];exact⟨⟨1,rfl,by decide,by decide⟩,⟨2,rfl,by decide,by decide⟩,⟨3,rfl,by decide,by decide⟩,⟨9,rfl,by decide,by decide⟩,λ_ z=>nomatch z⟩)
 clear 5(J0 (o:=o) hd hs m0 m1 h0 h1 (List.range n) s3 0 (λk hk=>by have:=uk5.mp hk;lia) (b3.mono (by rw[ug8];lia)))ws s4 w1 w2 b4 d4;have wl:ws.length=n:=by have:=gP List.length w1;rwa [uj1,uj1,ug8] at this
 have hnm:∀w∈ws,w.1.length<=1000:=λw hw=>by
  have:w.1∈ws.map (·.1):=List.mem_map_of_mem hw;rw[w1] at this;obtain⟨k,_,ek⟩:=un0.mp this;rw[<-ek];exact VS o k
 refine⟨.st side ws,s4,⟨.st hside (by lia) (by lia) (by rw[w1];exact VR (by lia) n1) w2,hnm⟩,λa0 a1 e7 e8 e9 e10 e11 acc S K hacc hK=>?_⟩;unfold stB;symm;refine d1.use hK ?_;refine AG ed ?_;symm;refine d2.use hK ?_;symm;refine d3.use hK ?_;refine AG ed2 ?_;symm;refine DJ (GJ (m:=9) n1) ?_;rw[show AH 0 ((n:Int)).toNat=(List.range n).map λi:Nat=>D.int (i:Int) by unfold AH;simp];refine(d4 a0 a1 _ _ _ _ [] S K (by rw[ug8,uk0];lia) hK).mono λout t z9=>?_;clear 5 z9 e1 f10 f11 e2;subst e1 e2;symm;refine Bc (by lia) ?_;exact⟨rfl,_,_,_,_,_,rfl⟩
theorem Bq:S++[o]=(S++[Ob.dct []]).set S.length o:=by
 rw[ud3 _ _ (un5 _),un2];rfl
theorem BM:S.length<(S++[o]).length:=by rw[uf4,uc9];lia
theorem Kp.gr70(K:Kp S.length (S++[o]) S'):Gr S S':=by
 clear 5 K h1 h2;rw[uf4,uc9] at h1 h2;exact⟨by lia,λi hi=>by rw[h2 i (by lia) (by lia),ua9 hi]⟩
def gB(Ah AS AW:Fn):M Out:=
 (Ae (Ao 6 (Af AW (Aa (Ab 0) (Aa (Ac (Ab 1) (Ab 5) AC) Ad))))
 (ifS (G8 (Aj (Ac (Af Ah (Aa (Ab 6) (Aa (ee 6) Ad))) (ee 1) (eqS id))) (fOr (Aj (Ac (Ab 5) (ee 0) gtA)) (Aj (Ac (Af Ah (Aa (Ab 6) (Aa (ee 4) Ad))) (ee 1) (eqS id)))))
   (ownM 4 Cd (Aa (AN (Aa (fC (.str "end")) Ad)) Ad))
   (stB Ah AS)))
theorem Vq(hd:DK cd)(hs:Dq cs0 3)(ht:D1 ct){ns:List Int}{start many h:Nat}(hn:ns.length<=63)(m0:1<=many)(m1:many<=30)(h1:h<many)(hst:start<=900):∃(x:GS) (s':Sx),GSN (many:Nat) x/\∀(e6 e7 e8 e9 e10 e11:Option Sl) (acc:List D) (S:List Ob),acc.length<=30->
 L2.W (gB cd cs0 ct) ⟨[vw (.scr ns),vw (.int (start:Nat)),vw (.int (many:Nat)),vw (.lst (nm14.map D.str)),some (.own acc),vw (.int (h:Nat)),e6,e7,e8,e9,e10,e11],S⟩ λout t=>out=.next/\∃f6 f7 f8 f9 f10 f11,t=⟨[vw (.scr ns),vw (.int (start:Nat)),vw (.int (many:Nat)),vw (.lst (nm14.map D.str)),some (.own (acc++[x.d])),vw (.int (h:Nat)),f6,f7,f8,f9,f10,f11],S++[.dct s'.l]⟩:=by
 have hL:LIM=100000:=rfl;clear 5(ht ns (start+h) hn (by lia))s b d;have e0:(start:Int)+(h:Int)=((start+h:Nat):Int):=by lia
 clear 5(hd s 6 3001 (b.mono (by lia)) (by decide) (by decide))x s1 x0 x1 b1 d1
 by_cases k1:x=1
 .subst k1
  by_cases k2:0<h
  .refine⟨.fin,s1,⟨.fin,λ_ h=>nomatch h⟩,λe6 e7 e8 e9 e10 e11 acc S hacc=>?_⟩;unfold gB;symm;rw[e0];refine(d S).mono λq S' z9=>?_;clear 5 z9 q1 q2;subst q1 q2;rw[Bq (o:=.dct s.l)];symm;refine d1.use BM ?_;symm;refine EL (ul0 (by lia)) ?_;symm;refine Bc (by lia) ?_;rw[<-Bq (o:=.dct s1.l)];exact⟨rfl,_,_,_,_,_,_,rfl⟩
  .have k2:h=0:=by lia
   subst k2;clear 5(hd s1 4 3000 b1 (by decide) (by decide))y s2 y0 y1 b2 d2
   by_cases k3:y=1
   .subst k3;refine⟨.fin,s2,⟨.fin,λ_ h=>nomatch h⟩,λe6 e7 e8 e9 e10 e11 acc S hacc=>?_⟩;unfold gB;symm;rw[e0];refine(d S).mono λq S' z9=>?_;clear 5 z9 q1 q2;subst q1 q2;rw[Bq (o:=.dct s.l)];symm;refine d1.use BM ?_;symm;refine d2.use BM ?_;symm;refine Bc (by lia) ?_;rw[<-Bq (o:=.dct s2.l)];exact⟨rfl,_,_,_,_,_,_,rfl⟩
   .clear 5(Ov hd hs (many:=(many:Nat)) (h:=((0:Nat):Int)) (by lia) (by lia) (by lia) (by lia) s2 b2)g s3 g1 d3;refine⟨g,s3,g1,λe6 e7 e8 e9 e10 e11 acc S hacc=>?_⟩;unfold gB;symm;rw[e0];refine(d S).mono λq S' z9=>?_;clear 5 z9 q1 q2;subst q1 q2;rw[Bq (o:=.dct s.l)];symm;refine d1.use BM ?_;symm;refine d2.use BM ?_;symm;refine CW (gb.mpr k3) ?_;symm;refine(d3 _ _ _ _ _ _ _ acc _ S.length hacc BM).mono λout t z9=>?_;clear 5 z9 q1 f7 f8 f9 f10 f11 q2;subst q1 q2;rw[<-Bq (o:=.dct s3.l)];exact⟨rfl,_,_,_,_,_,_,rfl⟩
 .clear 5(Ov hd hs (many:=(many:Nat)) (h:=(h:Nat)) (by lia) (by lia) (by lia) (by lia) s1 (b1.mono (by lia)))g s3 g1 d3;refine⟨g,s3,g1,λe6 e7 e8 e9 e10 e11 acc S hacc=>?_⟩;unfold gB;symm;rw[e0];refine(d S).mono λq S' z9=>?_;clear 5 z9 q1 q2;subst q1 q2;rw[Bq (o:=.dct s.l)];symm;refine d1.use BM ?_;symm;refine CW (gb.mpr k1) ?_;symm;refine(d3 _ _ _ _ _ _ _ acc _ S.length hacc BM).mono λout t z9=>?_;clear 5 z9 q1 f7 f8 f9 f10 f11 q2;subst q1 q2;rw[<-Bq (o:=.dct s3.l)];exact⟨rfl,_,_,_,_,_,_,rfl⟩
theorem Ol{cd cs0 ct:Fn}(hd:DK cd)(hs:Dq cs0 3)(ht:D1 ct){ns:List Int}{start many:Nat}(hn:ns.length<=63)(m0:1<=many)(m1:many<=30)(hst:start<=900):∀(l:List Nat),(∀h∈l,h<many)->∃(g:List GS) (os:List Ob),g.length=l.length/\(∀x∈g,GSN (many:Nat) x)/\∀(e5 e6 e7 e8 e9 e10 e11:Option Sl) (acc:List D) (S:List Ob),acc.length+l.length<=30->
 L2.W (Bv (As 5) (gB cd cs0 ct) (l.map λk:Nat=>D.int (k:Int))) ⟨[vw (.scr ns),vw (.int (start:Nat)),vw (.int (many:Nat)),vw (.lst (nm14.map D.str)),some (.own acc),e5,e6,e7,e8,e9,e10,e11],S⟩ λout t=>out=.next/\∃f5 f6 f7 f8 f9 f10 f11,t=⟨[vw (.scr ns),vw (.int (start:Nat)),vw (.int (many:Nat)),vw (.lst (nm14.map D.str)),some (.own (acc++g.map GS.d)),f5,f6,f7,f8,f9,f10,f11],S++os⟩
 |[],_=>⟨[],[],rfl,(λ_ h=>nomatch h),λe5 e6 e7 e8 e9 e10 e11 acc S _=>W_forL_nil.mpr ⟨rfl,_,_,_,_,_,_,_,by rw[um7,uj3,uj3]⟩⟩
 |h::l,hl=>by
   clear 5(Vq hd hs ht hn m0 m1 (hl h uf1) hst)x s1 x1 d1;obtain⟨g,os,g1,g2,d2⟩:=Ol hd hs ht hn m0 m1 hst l λj hj=>hl j (ud6 _ hj);refine⟨x::g,.dct s1.l::os,by rw[uh2,uh2,g1],λy hy=>?_,λe5 e6 e7 e8 e9 e10 e11 acc S hacc=>?_⟩
   .rcases ul2.mp hy with rfl|hy
    .exact x1
    .exact g2 y hy
   rw[uh2] at hacc;rw[ul3,BO];refine Ee ?_;refine(d1 _ _ _ _ _ _ acc S (by lia)).mono λout t z9=>?_;clear 5 z9 q1 f6 f7 f8 f9 f10 f11 q2;subst q1 q2;refine(d2 _ _ _ _ _ _ _ (acc++[x.d]) (S++[.dct s1.l]) (by rw[uf4,uc9];lia)).mono λout t h2=>?_;clear 5 h2 q1 f5 f6 f7 f8 f9 f10 f11 q2;refine⟨q1,f5,f6,f7,f8,f9,f10,f11,?_⟩;rw[q2,ug4,ug4];rfl
def OF(f:Fn):Prop:=∀(ns:List Int) (start many:Nat),ns.length<=63->1<=many->many<=30->start<=900->∃(g:List GS) (os:List Ob),GON g/\∀S:List Ob,Wf f [.scr ns,.int (start:Nat),.int (many:Nat)] S λq S'=>q=.lst (g.map GS.d)/\S'=S++os
theorem Vr(hd:DK cd)(hs:Dq cs0 3)(ht:D1 ct):OF (fnOf 3 12 (DB cd cs0 ct)):=by
 intro ns start many hn m0 m1 hst;obtain⟨g,os,g1,g2,d⟩:=Ol hd hs ht hn m0 m1 hst (List.range many) λh hh=>uk5.mp hh;rw[ug8] at g1;refine⟨g,os,⟨⟨by lia,by lia,by rw[g1];exact λx hx=>(g2 x hx).ok⟩,λx hx=>(g2 x hx).nm⟩,λS=>?_⟩;refine Am rfl ?_;unfold DB;symm;refine DJ (GJ (m:=30) m1) ?_;rw[show AH 0 ((many:Int)).toNat=(List.range many).map λi:Nat=>D.int (i:Int) by unfold AH;simp];refine(d none none none none none none none [] S (by rw[ug8,uk0];lia)).mono λout t z9=>?_;clear 5 z9 e1 f5 f6 f7 f8 f9 f10 f11 e2;subst e1 e2;symm;exact⟨rfl,rfl⟩
theorem M1{cd cg:Fn}(hd:DrawD cd)(hg:OF cg){ns:List Int}{room:Nat}(hn:ns.length<=63)(m0:1<=room)(m1:room<=30):∀(l:List Nat) (s:Sx) (r:Nat),(∀k∈l,k<=8)->SxB (r+l.length) s->∃(gs:List (List GS)) (s':Sx),gs.length=l.length/\(∀g∈gs,GON g)/\∀(z:Option Sl) (S:List Ob) (K:Nat),S[K]?=some (.dct s.l)->
 L2.W (Bf (As 0) B4 (Af cg (Aa (Ab 1) (Aa (Ac (ee 2) (Ac (Ab 2) (Ab 0) FV) AC) (Aa (Ac (ee 1) (Af cd (Aa (Ab 3) (Aa (Ab 2) Ad))) AC) Ad)))) (l.map λk:Nat=>D.int (k:Int))) ⟨[z,vw (.scr ns),vw (.int (room:Nat)),vw (.obj K)],S⟩ λq t'=>q=gs.map (λg=>.lst (g.map GS.d))/\Kp K S t'.S
 |[],s,r,_,b=>⟨[],s,rfl,(λ_ h=>nomatch h),λz S K _=>W_compL_nil.mpr ⟨rfl,.refl⟩⟩
 |k::l,s,r,hk,b=>by
   rw[uh2] at b;have hk0:=hk k uf1;clear 5(hd s (room:Nat) (r+l.length) b (by lia) (by lia))x s1 x0 x1 b1 d1;clear 5(ub4 x0)x rfl;have hrk:room*k<=240:=um3 (Nat.mul_le_mul m1 hk0) (by decide);clear 5(hg ns (2+room*k) (1+x) hn (by lia) (by lia) (by lia))g os g1 d2;clear 5(M1 hd hg hn m0 m1 l s1 r (λj hj=>hk j (ud6 _ hj)) b1)gs s2 g2 g3 d3;refine⟨g::gs,s2,by rw[uh2,uh2,g2],λy hy=>?_,λz S K hK=>?_⟩
   .rcases ul2.mp hy with rfl|hy
    .exact g1
    .exact g3 y hy
   rw[ul3,A7];refine Ee (Ga ?_);rw[gW rfl];symm;refine EY (DR (by lia) (by lia)) ?_;symm;refine(d1 S K hK).mono λq S' z9=>?_;clear 5 z9 q1 q2;subst q1 q2;symm;rw[show(2:Int)+(room:Int)*(k:Int)=((2+room*k:Nat):Int) by push_cast;rfl,show(1:Int)+(x:Int)=((1+x:Nat):Int) by lia];refine(d2 _).mono λq S' z9=>?_;clear 5 z9 q1 q2;subst q1 q2;have hg1:(S.set K (.dct s1.l)++os)[K]?=some (.dct s1.l):=by
    have h1:(S.set K (.dct s1.l))[K]?=some (.dct s1.l):=AT hK;rw[ua9 (B8 h1)];exact h1
   have k1:Kp K S (S.set K (.dct s1.l)++os):=⟨by rw[uf4,uj6];lia,λi h n=>by
    rw[ua9 (by rw[uj6];exact h),ud8 (Ne.symm n)]⟩
   refine(d3 _ _ K hg1).mono λq t' z9=>?_;clear 5 z9 q1 q2;subst q1;exact⟨rfl,k1.trans q2⟩
def So(f:Fn):Prop:=∀(ns:List Int),ns.length<=63->∃gs:List (List GS),1<=gs.length/\gs.length<=9/\(∀g∈gs,GON g)/\∀S:List Ob,Wf f [.scr ns] S λq S'=>q=gsD gs/\Gr S S'
theorem Vt{cg:Fn}(hd:DrawD cd)(hg:OF cg)(ht:D1 ct):So (fnOf 1 4 (Ea cd cg ct)):=by
 intro ns hn;have hL:LIM=100000:=rfl;clear 5(ht ns 0 hn (by lia))s b d;clear 5(hd s 9 9 (b.mono (by lia)) (by decide) (by decide))x s1 x0 x1 b1 d1;clear 5(ub4 x0)x rfl;obtain⟨room,er,r0,r1⟩:∃room:Nat,(if (36:Int)/(1+(x:Int))<30 then(36:Int)/(1+(x:Int)) else 30)=(room:Nat)/\1<=room/\room<=30:=by
  have h1:4<=(36:Int)/(1+(x:Int)):=by
   have:(1+(x:Int))*4<=36:=by lia
   exact(fX (by lia)).mpr (by lia)
  split
  .exact⟨((36:Int)/(1+(x:Int))).toNat,by lia,by lia,by lia⟩
  .exact⟨30,rfl,by decide,by decide⟩
 clear 5(M1 hd hg hn r0 r1 (List.range (1+x)) s1 0 (λk hk=>by have:=uk5.mp hk;lia) (b1.mono (by rw[ug8];lia)))gs s2 g1 g2 d2;rw[ug8] at g1;refine⟨gs,by lia,by lia,g2,λS=>?_⟩;refine Am rfl ?_;unfold Ea;symm;refine(d S).mono λq S' z9=>?_;clear 5 z9 q1 q2;subst q1 q2;symm;refine(d1 _ S.length Ca).mono λq S' z9=>?_;clear 5 z9 q1 q2;subst q1 q2;symm;refine Zs (by lia) (by lia) ?_;symm;rw[er];symm;refine DJ (By (by lia) (by lia)) ?_;rw[show AH 0 ((1:Int)+(x:Int)).toNat=(List.range (1+x)).map λi:Nat=>D.int (i:Int) by unfold AH;rw[show((1:Int)+(x:Int)).toNat=1+x by lia];simp];refine(d2 _ _ S.length (AT Ca)).mono λq t' z9=>?_;clear 5 z9 q1 q2;subst q1;refine Bc (by rw[uj1];lia) ?_;symm;exact⟨rfl,(Kp.refl.setk.trans q2).gr70⟩
local macro_rules | `(tactic| walk_at"y1")=>`(tactic| first
 |walk_at"x1" |clear 31 No)
noncomputable def gAt(gs:List (List GS))(i:Nat):List GS:=gs.getD i []
noncomputable def hAt(hs:List Nat)(i:Nat):Nat:=hs.getD i 0
def sayD(gs:List (List GS))(hs:List Nat)(i p:Nat)(v:D):D:=.tup [.int (i:Nat),.str (AL (gAt gs i) (hAt hs i)).side,.str (wdAt (gAt gs i) (hAt hs i) p).1,v]
def Hk(gs:List (List GS))(hs:List Nat)(i p:Nat)(v:D):Nat:=(Aq (wdAt (gAt gs i) (hAt hs i) p).2.1 v).length
inductive Said(gs:List (List GS)):List Nat->List D->Nat->Prop
 |nil:Said gs (List.replicate gs.length 0) [] 0
 |snoc {hs:List Nat}{ds:List D}{n i p:Nat}{v:D}:Said gs hs ds n->i<gs.length->MvOk (gAt gs i) (hAt hs i) p v->Said gs (hs.set i (Bh (gAt gs i) (hAt hs i) p)) (ds++[sayD gs hs i p v]) (n+(2+Hk gs hs i p v))
theorem Dd(h:∀g∈gs,GOk g){i:Nat}(hi:i<gs.length):GOk (gAt gs i):=by
 unfold gAt;rw[ua7,ub2 hi];exact h _ (ui3 hi)
theorem E2(hi:i<gs.length):atI (gs.map λg=>D.lst (g.map GS.d)) (i:Int)=some (.lst ((gAt gs i).map GS.d)):=by
 refine B6 ?_;unfold gAt;rw[ug2,ua7,ub2 hi];rfl
theorem HM(hi:i<hs.length):atI (nD hs) (i:Int)=some (.int ((hAt hs i:Nat):Int)):=B6 (HY hi)
theorem Said.len(h:Said gs hs ds n):hs.length=gs.length:=by
 induction h with
 |nil=>rw[uc7]
 |snoc _ _ _ ih=>rw[uj6];exact ih
theorem Said.few(h:Said gs hs ds n):ds.length<=n:=by
 induction h with
 |nil=>exact un6 _
 |snoc _ _ _ ih=>rw[uf4,uc9];lia
theorem KD{x:Nat}(hi:i<hs.length):hAt (hs.set i x) j=if j=i then x else hAt hs j:=by
 unfold hAt;rw[ua7,ua7]
 by_cases q:j=i
 .subst q;rw[gW rfl,ub8 hi];rfl
 .rw[gX q,ud8 (Ne.symm q)]
theorem Said.lt{gs:List (List GS)}(hg:∀g∈gs,GOk g){hs:List Nat}{ds:List D}{n:Nat}(h:Said gs hs ds n):∀i,i<gs.length->hAt hs i<(gAt gs i).length:=by
 induction h with
 |nil=>
   intro i hi;have e:hAt (List.replicate gs.length 0) i=0:=by
    unfold hAt;rw[ua7,ub3,gW hi];rfl
   rw[e];exact(Dd hg hi).ne
 |@snoc hs ds n i p v h0 hi hm ih=>
   intro j hj;rw[KD (by rw[h0.len];exact hi)]
   by_cases q:j=i
   .subst q;rw[gW rfl];have hw:=Dp (Dd hg hi) hm.lt hm.pl;have h1:=hw.lo;have h2:=hw.hi;unfold Bh;lia
   .rw[gX q];exact ih j hj
theorem Q3(hs:List Nat)(i x:Nat):(nD hs).set i (.int (x:Int))=nD (hs.set i x):=by
 unfold nD;rw[List.map_set]
variable{Q:List D->T->Prop}
theorem Xi{k:Int}(h1:B9 k=true/\xs.length*k.toNat<=LIM)(h:Q (List.replicate k.toNat xs).flatten t):L2.W (Py (.lst xs) (.int k)) t Q:=⟨_,_,by show(if _ then _ else _)=_;rw[gW h1],h⟩
theorem Tc(n:Nat):(List.replicate n [D.int 0]).flatten=nD (List.replicate n 0):=by
 unfold nD
 induction n with
 |zero=>rfl
 |succ n ih=>rw[ue6,ug3,ih,ue6];rfl
inductive SaidF(gs:List (List GS)):List Nat->List D->Nat->List Nat->Prop
 |nil {hs:List Nat}:SaidF gs hs [] 0 hs
 |cons {hs he:List Nat}{ds:List D}{n i p:Nat}{v:D}:hs.length=gs.length->i<gs.length->MvOk (gAt gs i) (hAt hs i) p v->SaidF gs (hs.set i (Bh (gAt gs i) (hAt hs i) p)) ds n he->SaidF gs hs (sayD gs hs i p v::ds) (n+(2+Hk gs hs i p v)) he
theorem SaidF.snoc{gs:List (List GS)}{hs he:List Nat}{ds:List D}{n i p:Nat}{v:D}(h:SaidF gs hs ds n he)(hl:he.length=gs.length)(hi:i<gs.length)(hm:MvOk (gAt gs i) (hAt he i) p v):SaidF gs hs (ds++[sayD gs he i p v]) (n+(2+Hk gs he i p v)) (he.set i (Bh (gAt gs i) (hAt he i) p)):=by
 induction h with
 |nil=>exact .cons hl hi hm .nil
 |cons h1 h2 h3 _ ih=>
   have:=ih hl hm;rw[ui4,Nat.add_right_comm];exact .cons h1 h2 h3 this
theorem Said.front(h:Said gs hs ds n):SaidF gs (List.replicate gs.length 0) ds n hs:=by
 induction h with
 |nil=>exact .nil
 |snoc h0 hi hm ih=>exact ih.snoc h0.len hi hm
theorem Ou{n:Int}{side:Str}{ws:List (Str×Sh×Int)}(h:GSOk n (.st side ws)):∃s,side=sd s:=by
 cases h with
 |st h1 _ _ _ _=>exact h1.elim (λz=>⟨true,z⟩) λz=>⟨false,z⟩
mutual
noncomputable def vz:D->Nat
 |.str x=>1+x.length
 |.lst xs=>1+vzs xs
 |.tup xs=>9+vzs xs
 |_=>9
noncomputable def vzs:List D->Nat
 |[]=>0
 |d::r=>vz d+vzs r
end
theorem NM{s:Sh}:∀(ds:List D),(∀d∈ds,(Aq s d).length<=vz d)->((ds.map λd=>Aq s d).flatten).length<=vzs ds
 |[],_=>un6 _
 |d::r,h=>by
   rw[ul3,ug3,uf4,vzs];exact Nat.add_le_add (h d uf1) (NM r λx hx=>h x (ud6 _ hx))
theorem Ef:∀(n:Nat) (s:Sh),s.depth<=n->wf s=true->∀v,Ai s v=true->(Aq s v).length<=vz v
 |0,s,h,_,_,_=>absurd s.depth_pos (by lia)
 |n+1,s,hs,hw,v,hf=>by
   cases s with
   |nothing=>rw[Aq];exact un6 _
   |number lo hi=>
     obtain⟨_,_,_,w3⟩:=Q8 hw
     cases v<;>simp[Ai] at hf
     rw[Aq,JU,vz]
     .lia
     all_goals intros;contradiction
   |text q=>
     cases v<;>simp only[Ai,uf6] at hf
     rename_i x;rw[Aq,vz,uh2,uj1,<-DA];lia
   |list s q=>
     simp only[wf,uh6,ug9] at hw;rw[Sh.depth] at hs
     cases v<;>simp only[Ai,uf6] at hf
     rename_i ds;simp only[uh6,ug9,ui1] at hf;rw[Aq,vz,uh2];have:=NM (s:=s) ds λd hd=>Ef n s (by lia) hw.2 d (hf.2 d hd);lia
   |pair s r=>
     simp only[wf,uh6] at hw;rw[Sh.depth] at hs;unfold Ai at hf
     split at hf
     .next a b=>
      rw[uh6] at hf;rw[Aq,uf4,vz,vzs,vzs,vzs];have h1:=Ef n s (by lia) hw.1 _ hf.1;have h2:=Ef n r (by lia) hw.2 _ hf.2;lia
     .cases hf
   |choice ss=>
     simp only[wf,uh6,ug9] at hw;rw[Sh.depth] at hs;unfold Ai at hf
     split at hf
     .next o k x=>
      simp only[uh6,ug9] at hf;clear 5(ub4 hf.1.2.1)j rfl;have hj:j<ss.length:=by have:=hf.1.2.2;lia
      have e1:ss[j]?=some ss[j]:=ub2 hj;have h2:=hf.2;rw[ug5,BY ss _ _ _ e1] at h2;rw[Aq,ug5,Du ss _ _ _ e1,uh2,vz,vzs,vzs,vzs,vzs];have h1:=Ef n _ (um3 (B1 ss _ _ e1) (by lia)) (CJ hw.2 _ (ui3 hj)) x h2;lia
     .cases hf
structure HsOk(gs:List (List GS))(hs:List Nat):Prop where
 len:hs.length=gs.length
 lt:∀i,i<gs.length->hAt hs i<(gAt gs i).length
theorem QI(hg:∀g∈gs,GOk g):HsOk gs (List.replicate gs.length 0):=⟨(Said.nil (gs:=gs)).len,(Said.nil (gs:=gs)).lt hg⟩
theorem HsOk.next(hg:∀g∈gs,GOk g)(h:HsOk gs hs){i p:Nat}{v:D}(hi:i<gs.length)(hm:MvOk (gAt gs i) (hAt hs i) p v):HsOk gs (hs.set i (Bh (gAt gs i) (hAt hs i) p)):=by
 refine⟨by rw[uj6];exact h.len,λj hj=>?_⟩;rw[KD (by rw[h.len];exact hi)]
 by_cases q:j=i
 .subst q;rw[gW rfl];have hw:=Dp (Dd hg hi) hm.lt hm.pl;have h1:=hw.lo;have h2:=hw.hi;unfold Bh;lia
 .rw[gX q];exact h.lt j hj
theorem Lm(a:Int)(n:Nat):AH a (n+1)=.int a::AH (a+1) n:=by
 unfold AH;rw[fW,ul3,un1]
 congr 1
 .simp
 .refine ue7 λk _=>?_;show D.int (a+((k+1:Nat):Int))=.int (a+1+k)
  congr 1
  lia
theorem Zt{f:M (List D)}(h:L2.W f t λds t1=>∃xs,ds=[.lst xs]/\Q (Eo 0 xs) t1):L2.W (LF f) t Q:=Cy (h.mono λds t1 ⟨xs,e,q⟩=>by subst e;exact⟨_,_,rfl,q⟩)
def isI(l:List D):Prop:=∀x∈l,∃i:Int,x=.int i
theorem Vw{a b:List D}(h:isI a)(h2:isI b):isI (a++b):=λx hx=>(ui9.mp hx).elim (h x) (h2 x)
theorem PQ{g:Bool->Bool}{x d:D}(hx:AF t.S 16 x=d)(hy:AF t.S 16 y=d)(hp:Bn d=true)(hr:Rq 16 d)(h:P (.bl (g true)) t):L2.W (eqO g x y) t P:=
 ⟨_,_,by unfold eqO;rw[hx,hy,hp,hr EQD (by decide)];rfl,h⟩
theorem Cb{S:List Ob}{n:Nat}:∀{l:List D},isI l->l.map (AF S n)=l
 |[],_=>rfl
 |x::l,h=>by
   clear 5(h x uf1)i rfl;rw[ul3,Cb λy hy=>h y (ud6 _ hy)]
   congr 1
   cases n<;>rfl
theorem Ec:∀{l:List D},isI l->Ed l=true
 |[],_=>rfl
 |x::l,h=>by
   clear 5(h x uf1)i rfl;rw[Ed,uh6];exact⟨rfl,Ec λy hy=>h y (ud6 _ hy)⟩
theorem Fy{l:List D}(h:isI l):Rq (n+1) (.lst l):=GH λx hx=>by clear 5(h x hx)i rfl;exact Ij
theorem cA{g:Bool->Bool}{A:Nat}{a b:List D}(ha:isI a)(hb:isI b)(eA:t.S[A]?=some (.lst a))(eB:t.S[B]?=some (.lst b))(h:P (.bl (g true)) t):L2.W (eqO g (.tup [.obj A,.obj B]) (.tup [.lst a,.lst b])) t P:=by
 refine PQ (d:=.tup [.lst a,.lst b]) ?_ ?_ ?_ ?_ h
 .show D.tup [AF t.S (14+1) (.obj A),AF t.S (14+1) (.obj B)]=_;rw[AF,eA,AF,eB];dsimp only;rw[Cb ha,Cb hb]
 .show D.tup [.lst (a.map (AF t.S 14)),.lst (b.map (AF t.S 14))]=_;rw[Cb ha,Cb hb]
 .show(Ed a&&(Ed b&&true))=true;rw[Ec ha,Ec hb];rfl
 .refine J4 (n:=15) λx hx=>?_;rcases ul2.mp hx with rfl|hx
  .exact Fy ha
  .rw[uf7] at hx;subst hx;exact Fy hb
theorem aJ{l:List D}(hr:Rq n (.lst l))(hn:n<=EQD)(h:P (.bl true) t):L2.W (eqS id (.lst l) (.lst l)) t P:=by
 refine⟨.bl true,t,?_,h⟩;unfold eqS;rw[hr EQD hn];rfl
noncomputable def vD:Nat->Nat
 |0=>0
 |1=>250
 |m+2=>30+vD (m+1)*3
noncomputable def cV:Nat->Nat
 |0=>300
 |m+1=>300+cV m*3
def Hy(f:Fn)(n:Nat):Prop:=∀(s:Sh) (st:Sx) (r:Nat),s.depth<=n->wf s=true->SxB (r+cV n) st->∃(v:D) (st':Sx),Ai s v=true/\vz v<=vD n/\SxB r st'/\Dw f [s.d] st v st'
theorem PN:∀n,1<=n->250<=vD n
 |1,_=>by decide
 |n+2,_=>by rw[vD];have:=PN (n+1) (by lia);lia
theorem R8{c:Nat}:∀{xs:List D},(∀x∈xs,vz x<=c)->vzs xs<=xs.length*c
 |[],_=>un6 _
 |x::xs,h=>by
   rw[vzs,uh2,um6];have:=h x uf1;have:=R8 λy hy=>h y (ud6 _ hy);lia
theorem Ln{cv:Fn}{n:Nat}(hv:Hy cv n){s:Sh}(hd:s.depth<=n)(hw:wf s=true){q:Int}:∀(m:Nat) (st:Sx) (r:Nat),SxB (r+m*cV n) st->∃(vs:List D) (st':Sx),vs.length=m/\(∀x∈vs,Ai s x=true/\vz x<=vD n)/\SxB r st'/\∀(l:List D) (S:List Ob) (K:Nat) (z:Option Sl),l.length=m->K<S.length->L2.W (Bf (As 0) B4 (Af cv (Aa (Ab 1) (Aa (Ac (Ab 2) (ee 1) ixD) Ad))) l) ⟨[z,vw (.obj K),vw (.tup [.str "list",s.d,.int q])],S.set K (.dct st.l)⟩ λx t'=>x=vs/\t'.S=S.set K (.dct st'.l)
 | 0,st,r,hs=>⟨[],st,rfl,(λ_ h=>nomatch h),hs.mono (by lia),λl S K z hl hK=>by
   have:l=[]:=ua1 hl;subst this;exact W_compL_nil.mpr ⟨rfl,rfl⟩⟩
 |m+1,st,r,hs=>by
   clear 5(hv s st (r+m*cV n) hd hw (hs.mono (by rw[um6];lia)))v s1 h1 h2 b1 d1;clear 5(Ln hv hd hw (q:=q) m s1 r b1)vs s2 g1 g2 b2 d2;refine⟨v::vs,s2,by rw[uh2,g1],λx hx=>?_,b2,λl S K z hl hK=>?_⟩
   .rcases ul2.mp hx with rfl|hx
    .exact⟨h1,h2⟩
    .exact g2 x hx
   cases l with
   |nil=>cases hl
   |cons d l=>
     rw[A7];refine Ee (Ga ?_);rw[gW rfl];left;refine d1.use hK ?_;left;refine(d2 l S K _ (un4 hl) hK).mono λq t' z9=>?_;clear 5 z9 e1 e2;subst e1;exact⟨rfl,e2⟩
theorem M2{ct:Fn}(ht:DK ct):∀(m:Nat) (st:Sx) (r:Nat),SxB (r+m) st->∃(ns:List Nat) (st':Sx),ns.length=m/\ns.all Bt=true/\SxB r st'/\∀(l:List D) (S:List Ob) (K:Nat) (z:Option Sl),l.length=m->K<S.length->L2.W (Bf (As 0) B4 (Ac (Ab 1) (Af ct (Aa (Ab 2) (Aa (ee 94) Ad))) ixD) l) ⟨[z,vw (.str signs94),vw (.obj K)],S.set K (.dct st.l)⟩ λx t'=>x=ns.map (λn=>D.str ⟨#[n]⟩)/\t'.S=S.set K (.dct st'.l)
 | 0,st,r,hs=>⟨[],st,rfl,rfl,hs,λl S K z hl hK=>by
   have:l=[]:=ua1 hl;subst this;exact W_compL_nil.mpr ⟨rfl,rfl⟩⟩
 |m+1,st,r,hs=>by
   clear 5(ht st 94 (r+m) hs (by decide) (by decide))i s1 i0 i1 b1 d1;clear 5(Ud i0 i1)c ec hc;clear 5(M2 ht m s1 r b1)ns s2 g1 g2 b2 d2;refine⟨c::ns,s2,by rw[uh2,g1],by rw[ul6,hc,g2];rfl,b2,λl S K z hl hK=>?_⟩
   cases l with
   |nil=>cases hl
   |cons d l=>
     rw[A7];refine Ee (Ga ?_);rw[gW rfl];left;refine d1.use hK ?_;refine W_ix_str.mpr ⟨by decide +kernel,c,ec,?_⟩;refine(d2 l S K _ (un4 hl) hK).mono λq t' z9=>?_;clear 5 z9 e1 e2;subst e1;exact⟨rfl,e2⟩
variable{cv:Fn}
theorem Xa{m:Nat}(ht:DK ct)(hv:m=0\/Hy cv m):Hy (fnOf 2 6 (Ba cv ct)) (m+1):=by
 intro s st r hd hw p0;have hL:LIM=100000:=rfl;have hcv:cV (m+1)=300+cV m*3:=rfl;have hvd:250<=vD (m+1):=PN _ (by lia);have hvv:∀{s':Sh},s'.depth<=m->Hy cv m/\vD (m+1)=30+vD m*3:=λ{s'} h=>by
  rcases hv with rfl|hv
  .exact absurd s'.depth_pos (by lia)
  .refine⟨hv,?_⟩;obtain⟨k,rfl⟩:∃k,m=k+1:=⟨m-1,by have:=s'.depth_pos;lia⟩;rw[vD]
 cases s with
 |nothing=>
   refine⟨.non,st,by rw[Ai];rfl,by show 9<=_;lia,p0.mono (by lia),λS K hK=>?_⟩;refine Am rfl ?_;unfold Ba;rw[Sh.d];left;exact⟨rfl,rfl⟩
 |number lo hi=>
   clear 5(Q8 hw)w0 w1 w2 w3;clear 5(ht st (hi-lo+1) (r+9) (p0.mono (by lia)) w1 w2)g s1 z0 z1 b1 d1;clear 5(ht s1 3 (r+8) b1 (by decide) (by decide))i s2 i0 i1 b2 d2;obtain⟨d,ed,q,rfl,q0,q1⟩:=Ic (xs:=[D.int lo,D.int hi,D.int (lo+g)]) i0 (by simpa using i1) (p:=λd=>∃m:Int,d=.int m/\lo<=m/\m<=hi) (by
    simp only[ue0];exact⟨⟨_,rfl,Int.le_refl _,w0⟩,⟨_,rfl,w0,Int.le_refl _⟩,⟨_,rfl,VU z0 z1⟩,λ_ z=>nomatch z⟩)
   refine⟨.int q,s2,by simp only[Ai,uh6,ug9];exact⟨q0,q1⟩,by show 9<=_;lia,b2.mono (by lia),λS K hK=>?_⟩;refine Am rfl ?_;unfold Ba;rw[Sh.d];left;refine d1.use hK ?_;left;refine d2.use hK ?_;refine AG ed ?_;exact⟨rfl,rfl⟩
 |pair a b=>
   simp only[wf,uh6] at hw;clear 5(hvv (SQ hd).1)hv evd;clear 5(hv a st (r+cV m) (SQ hd).1 hw.1 (p0.mono (by lia)))v s1 f1 z1 b1 d1;clear 5(hv b s1 r (SQ hd).2 hw.2 b1)u s2 g1 z2 b2 d2;refine⟨.tup [v,u],s2,by simp only[Ai,f1,g1,Bool.and_self],by rw[vz,vzs,vzs,vzs];lia,b2,λS K hK=>?_⟩;refine Am rfl ?_;unfold Ba;rw[Sh.d];left;refine d1.use hK ?_;left;refine d2.use hK ?_;left;exact⟨rfl,rfl⟩
 |choice ss=>
   simp only[wf,uh6,ug9] at hw;clear 5(ht st (ss.length:Int) (r+cV m) (p0.mono (by lia)) (by lia) (by lia))i s1 i0 i1 b1 d1;clear 5(ub4 i0)j rfl;have hj:j<ss.length:=Int.ofNat_lt.mp i1;have e1:ss[j]?=some ss[j]:=ub2 hj;clear 5(hvv (SO hd _ (ui3 hj)))hv evd;clear 5(hv ss[j] s1 r (SO hd _ (ui3 hj)) (CJ hw.2 _ (ui3 hj)) b1)v s2 f1 z1 b2 d2;have hof:HR (Str.ofString "of")=true:=by decide +kernel
   refine⟨.tup [.str (Str.ofString "of"),.int (j:Nat),v],s2,?_,?_,b2,λS K hK=>?_⟩
   .simp only[Ai,uh6,ug9];exact⟨⟨hof,i0,i1⟩,by rw[ug5,BY ss _ _ _ e1];exact f1⟩
   .rw[vz,vzs,vzs,vzs,vzs];have h1:vz (.str (Str.ofString "of"))=3:=rfl;have h2:vz (.int (j:Nat))=9:=rfl;have:=PN m (by have:=(ss[j]).depth_pos;have:=SO hd _ (ui3 hj);lia);lia
   refine Am rfl ?_;unfold Ba;rw[Sh.d];left;rw[DS];refine d1.use hK ?_;left;refine DH (ae hj) ?_;left;refine d2.use hK ?_;left;exact⟨rfl,rfl⟩
 |list s q=>
   simp only[wf,uh6,ug9] at hw;clear 5(hvv (XH hd))hv evd;clear 5(ht st 4 (r+cV m*3) (p0.mono (by lia)) (by decide) (by decide))g s1 z0 z1 b1 d1;clear 5(UG 3 z0 hw.1.1 z1)n en n2 nq;clear 5(Ln hv (XH hd) hw.2 (q:=q) n s1 r (b1.mono (by have:n*cV m<=3*cV m:=ue1 _ n2;lia)))vs s2 g1 g2 b2 d2;refine⟨.lst vs,s2,?_,?_,b2,λS K hK=>?_⟩
   .rw[Ai,uh6,ug9,ui1];exact⟨by rw[g1];exact nq,λx hx=>(g2 x hx).1⟩
   .rw[vz];have h1:=R8 (c:=vD m) λx hx=>(g2 x hx).2;have h2:vs.length*vD m<=3*vD m:=ue1 _ (by lia);lia
   refine Am rfl ?_;unfold Ba;rw[Sh.d];left;refine d1.use hK ?_;left;rw[en];refine DJ (GJ n2) ?_;refine(d2 _ S K _ (by rw[ES,ug5]) hK).mono λx t' z9=>?_;clear 5 z9 e1 e2;subst e1;refine Bc (by rw[hL];lia) ?_;exact⟨rfl,e2⟩
 |text q=>
   simp only[wf,uh6,ug9] at hw;clear 5(ht st 7 (r+298) (p0.mono (by lia)) (by decide) (by decide))g s1 z0 z1 b1 d1;clear 5(ht s1 24 (r+297) b1 (by decide) (by decide))g2 s2 y0 y1 b2 d2;obtain⟨dd,ed,y,rfl,m0,m1⟩:∃d,atI [D.int g,D.int 249] (if id (g2==1)=true then 1 else 0)=some d/\∃y:Int,d=.int y/\0<=y/\y<=249:=by
    by_cases w:id (g2==1)=true
    .rw[gW w];exact⟨_,rfl,_,rfl,by decide,by decide⟩
    .rw[gX w];exact⟨_,rfl,_,rfl,by lia,by lia⟩
   clear 5(UG 249 m0 hw.1 (by lia))n en n3 nq;clear 5(M2 ht n s2 r (b2.mono (by lia)))ns s3 h1 h2 b3 d3';refine⟨.str (Txt.join (Str.ofString "") (ns.map λn=>(⟨#[n]⟩:Str))),s3,?_,?_,b3,λS K hK=>?_⟩
   .rw[Ai];simp only[uh6,ug9];rw[DA,JR,h1];exact⟨nq,h2⟩
   .rw[vz,DA,JR,h1];lia
   refine Am rfl ?_;unfold Ba;rw[Sh.d];left;refine d1.use hK ?_;left;refine d2.use hK ?_;left;refine AG ed ?_;left;refine aL ?_;left;rw[en];refine DJ (GJ n3) ?_;refine(d3' _ S K _ (by rw[ES,ug5]) hK).mono λx t' z9=>?_;clear 5 z9 e1 e2;subst e1;refine Bc (by rw[uj1,hL];lia) ?_;left;refine⟨_,_,_,rfl,rfl,Io ns,⟨by decide +kernel,by rw[uj1];lia⟩,?_⟩;refine M5 ?_;exact⟨rfl,e2⟩
structure SaidV(gs:List (List GS))(hs:List Nat)(ds:List D)(n:Nat):Prop where
 s:Said gs hs ds n
 k:∀d∈ds,∃i p v hs',d=sayD gs hs' i p v/\i<gs.length/\HsOk gs hs'/\MvOk (gAt gs i) (hAt hs' i) p v/\vz v<=vD 3
theorem PB(hb:Dg cb 3)(hv:Hy cv 3)(hd:DK cd)(ht:D1 ct){ns:List Int}{gs:List (List GS)}{hs:List Nat}{ds:List D}{n k:Nat}(hn:ns.length<=63)(hk:k<=63)(hg:∀g∈gs,GOk g)(g1:1<=gs.length)(g9:gs.length<=9)(h:SaidV gs hs ds n)(h15:n<=1500):∃(hs':List Nat) (ds':List D) (n':Nat) (st':Sx),SaidV gs hs' ds' n'/\n'<=1500/\ds'.length<=ds.length+1/\∀(S:List Ob) (a2 e7 e8 e9 e10 e11 e12 e13 e14:Option Sl),
 L2.W (IH cb cv cd ct) ⟨[vw (.scr ns),vw (gsD gs),a2,some (.own (nD hs)),some (.own ds),vw (.int (1500-(n:Int))),vw (.int (k:Nat)),e7,e8,e9,e10,e11,e12,e13,e14],S⟩ λout t=>out=.next/\∃f6 f7 f8 f9 f10 f11 f12 f13 f14,t=⟨[vw (.scr ns),vw (gsD gs),a2,some (.own (nD hs')),some (.own ds'),vw (.int (1500-(n':Int))),f6,f7,f8,f9,f10,f11,f12,f13,f14],S++[.dct st'.l]⟩:=by
 have hL:LIM=100000:=rfl;clear 5(ht ns k hn (by lia))s b d;have hds:=h.s.few;have hlen:=h.s.len;have hho:HsOk gs hs:=⟨hlen,h.s.lt hg⟩;clear 5(hd s (gs.length:Nat) 99999 (b.mono (by lia)) (by lia) (by lia))i s1 i0 i1 b1 d1;clear 5(ub4 i0)i rfl;have hi:i<gs.length:=by lia
 have hlt:=h.s.lt hg i hi;have hgo:=Dd hg hi;have hgs:=Fv hgo hlt
 cases egs:AL (gAt gs i) (hAt hs i) with
 |fin=>
   refine⟨hs,ds,n,s1,h,h15,by lia,λS a2 e7 e8 e9 e10 e11 e12 e13 e14=>?_⟩;unfold IH gsD;left;refine(d S).mono λq S' z9=>?_;clear 5 z9 q1 q2;subst q1 q2;rw[Bq (o:=.dct s.l)];left;rw[uj1];refine d1.use BM ?_;left;refine AG (E2 hi) ?_;left;refine DI rfl ?_;left;refine⟨_,_,_,rfl,rfl,HM (by lia),?_⟩;refine AG (Cv hlt) ?_;rw[egs,GS.d];left;rw[<-Bq (o:=.dct s1.l)];exact⟨rfl,_,_,_,_,_,_,_,_,_,rfl⟩
 |st side ws=>
   rw[egs] at hgs;obtain⟨w0,w9⟩:0<ws.length/\ws.length<=9:=by
    cases hgs with
    |st _ h2 h3 _ _=>exact⟨h2,h3⟩
   clear 5(hd s1 (ws.length:Nat) 99998 b1 (by lia) (by lia))p s2 p0 p1 b2 d2;clear 5(ub4 p0)p rfl;have hp:p<(AL (gAt gs i) (hAt hs i)).ws.length:=by rw[egs];show p<ws.length;lia
   clear 5(Fr hp)side' ws' e1 hp' ew;rw[egs] at e1;injection e1 with e1 e2
   subst e1 e2;have hw:=Dp hgo hlt hp;clear 5(hv (wdAt (gAt gs i) (hAt hs i) p).2.1 s2 10 hw.dep hw.ok (b2.mono (by decide)))v s3 hfit hvz b3 d3';have hm:MvOk (gAt gs i) (hAt hs i) p v:=⟨hlt,hp,hfit⟩;have hbl:(Aq (wdAt (gAt gs i) (hAt hs i) p).2.1 v).length<=vz v:=Ef 3 _ hw.dep hw.ok v hfit;have hv3:vD 3=2370:=by decide
   have hbb:=hb _ hw.dep hw.ok v hfit (by rw[hL];lia)
   by_cases hc:2+(Aq (wdAt (gAt gs i) (hAt hs i) p).2.1 v).length<=1500-n
   .refine⟨hs.set i (Bh (gAt gs i) (hAt hs i) p),ds++[sayD gs hs i p v],n+(2+Hk gs hs i p v),s3,⟨.snoc h.s hi hm,λd hd'=>?_⟩,by unfold Hk;lia,by rw[uf4];exact un5 _,λS a2 e7 e8 e9 e10 e11 e12 e13 e14=>?_⟩
    .rcases ui9.mp hd' with hd'|hd'
     .exact h.k d hd'
     .rw[uf7] at hd';exact⟨i,p,v,hs,hd',hi,hho,hm,hvz⟩
    unfold IH gsD;left;refine(d S).mono λq S' z9=>?_;clear 5 z9 q1 q2;subst q1 q2;rw[Bq (o:=.dct s.l)];left;rw[uj1];refine d1.use BM ?_;left;refine AG (E2 hi) ?_;left;refine DI rfl ?_;left;refine⟨_,_,_,rfl,rfl,HM (by lia),?_⟩;refine AG (Cv hlt) ?_;rw[egs,GS.d];left;refine AG (E2 hi) ?_;left;refine DI rfl ?_;left;refine⟨_,_,_,rfl,rfl,HM (by lia),?_⟩;refine AG (Cv hlt) ?_;rw[egs,GS.d];left;rw[uj1];refine d2.use BM ?_;refine AG (GO ew) ?_;unfold wdD;left;refine d3'.use BM ?_;left;refine hbb.use ?_;left;refine EL (ul0 (by lia)) ?_;left;refine hbb.use ?_;left;refine Bc (by rw[hL];lia) ?_;left;refine Zz rfl ?_;left;refine⟨_,_,i,rfl,rfl,BA (by lia) (by unfold nD;rw[uj1];lia),?_⟩;rw[<-Bq (o:=.dct s3.l)];refine⟨rfl,vw (.int (k:Nat)),vw (.obj S.length),vw (.int (i:Nat)),vw (.str side),vw (.lst (ws.map wdD)),vw (.str (wdAt (gAt gs i) (hAt hs i) p).1),some (.val (wdAt (gAt gs i) (hAt hs i) p).2.1.d),vw (.int (wdAt (gAt gs i) (hAt hs i) p).2.2),vw v,?_⟩;have e5:(1500:Int)-(n:Int)-2-((Aq (wdAt (gAt gs i) (hAt hs i) p).2.1 v).length:Int)=1500-((n+(2+Hk gs hs i p v):Nat):Int):=by unfold Hk;lia
    have e3:(nD hs).set i (.int (wdAt (gAt gs i) (hAt hs i) p).2.2)=nD (hs.set i (Bh (gAt gs i) (hAt hs i) p)):=by
     rw[<-Q3];unfold Bh
     congr 2
     have:=hw.lo;lia
    have e4:sayD gs hs i p v=.tup [.int (i:Nat),.str side,.str (wdAt (gAt gs i) (hAt hs i) p).1,v]:=by unfold sayD;rw[egs];rfl
    rw[<-e5,<-e3,e4];rfl
   .refine⟨hs,ds,n,s3,h,h15,by lia,λS a2 e7 e8 e9 e10 e11 e12 e13 e14=>?_⟩;unfold IH gsD;left;refine(d S).mono λq S' z9=>?_;clear 5 z9 q1 q2;subst q1 q2;rw[Bq (o:=.dct s.l)];left;rw[uj1];refine d1.use BM ?_;left;refine AG (E2 hi) ?_;left;refine DI rfl ?_;left;refine⟨_,_,_,rfl,rfl,HM (by lia),?_⟩;refine AG (Cv hlt) ?_;rw[egs,GS.d];left;refine AG (E2 hi) ?_;left;refine DI rfl ?_;left;refine⟨_,_,_,rfl,rfl,HM (by lia),?_⟩;refine AG (Cv hlt) ?_;rw[egs,GS.d];left;rw[uj1];refine d2.use BM ?_;refine AG (GO ew) ?_;unfold wdD;left;refine d3'.use BM ?_;left;refine hbb.use ?_;left;refine CW (uk4 (by lia)) ?_;left;rw[<-Bq (o:=.dct s3.l)];exact⟨rfl,_,_,_,_,_,_,_,_,_,rfl⟩
theorem J5{cb cv cd ct:Fn}(hb:Dg cb 3)(hv:Hy cv 3)(hd:DK cd)(ht:D1 ct){ns:List Int}{gs:List (List GS)}(hn:ns.length<=63)(hg:∀g∈gs,GOk g)(g1:1<=gs.length)(g9:gs.length<=9):∀(l:List Nat) (hs:List Nat) (ds:List D) (n:Nat),(∀k∈l,k<=63)->SaidV gs hs ds n->n<=1500->∃(hs':List Nat) (ds':List D) (n':Nat) (os:List Ob),SaidV gs hs' ds' n'/\n'<=1500/\ds'.length<=ds.length+l.length/\∀(S:List Ob) (a2 e6 e7 e8 e9 e10 e11 e12 e13 e14:Option Sl),
 L2.W (Bv (As 6) (IH cb cv cd ct) (l.map λk:Nat=>D.int (k:Int))) ⟨[vw (.scr ns),vw (gsD gs),a2,some (.own (nD hs)),some (.own ds),vw (.int (1500-(n:Int))),e6,e7,e8,e9,e10,e11,e12,e13,e14],S⟩ λout t=>out=.next/\∃f6 f7 f8 f9 f10 f11 f12 f13 f14,t=⟨[vw (.scr ns),vw (gsD gs),a2,some (.own (nD hs')),some (.own ds'),vw (.int (1500-(n':Int))),f6,f7,f8,f9,f10,f11,f12,f13,f14],S++os⟩
 |[],hs,ds,n,_,h,h15=>⟨hs,ds,n,[],h,h15,un5 _,λS a2 e6 e7 e8 e9 e10 e11 e12 e13 e14=>W_forL_nil.mpr ⟨rfl,_,_,_,_,_,_,_,_,_,by rw[uj3]⟩⟩
 |k::l,hs,ds,n,hk,h,h15=>by
   clear 5(PB hb hv hd ht hn (hk k uf1) hg g1 g9 h h15)hs1 ds1 n1 st1 q1 q2 q3 w1;clear 5(J5 hb hv hd ht hn hg g1 g9 l hs1 ds1 n1 (λx hx=>hk x (ud6 _ hx)) q1 q2)hs2 ds2 n2 os r1 r2 r3 w2;refine⟨hs2,ds2,n2,.dct st1.l::os,r1,r2,by rw[uh2];lia,λS a2 e6 e7 e8 e9 e10 e11 e12 e13 e14=>?_⟩;rw[ul3,BO];refine Ee ?_;refine(w1 S a2 e7 e8 e9 e10 e11 e12 e13 e14).mono λout t h2=>?_;clear 5 h2 z1 f6 f7 f8 f9 f10 f11 f12 f13 f14 z2;subst z1 z2;refine(w2 (S++[.dct st1.l]) a2 f6 f7 f8 f9 f10 f11 f12 f13 f14).mono λout t h2=>?_;clear 5 h2 z1 f6 f7 f8 f9 f10 f11 f12 f13 f14 z2;refine⟨z1,f6,f7,f8,f9,f10,f11,f12,f13,f14,?_⟩;rw[z2,ug4];rfl
def OJ(f:Fn):Prop:=∀(ns:List Int) (gs:List (List GS)),ns.length<=63->(∀g∈gs,GOk g)->1<=gs.length->gs.length<=9->∃(hs:List Nat) (ds:List D) (n:Nat),SaidV gs hs ds n/\n<=1500/\ds.length<=25/\∀S:List Ob,Wf f [.scr ns,gsD gs,.int 38] S λq S'=>Gr S S'/\q=.lst ds
theorem WA{a:Nat}:AH (a:Int) n=((List.range n).map λk=>a+k).map λk:Nat=>D.int (k:Int):=by
 unfold AH;rw[un1];refine ue7 λk _=>?_;show D.int ((a:Int)+k)=D.int ((a+k:Nat):Int)
 congr 1
theorem T1(hb:Dg cb 3)(hv:Hy cv 3)(hd:DK cd)(ht:D1 ct):OJ (fnOf 3 15 (Ex cb cv cd ct)):=by
 intro ns gs hn hg g1 g9;have hL:LIM=100000:=rfl;obtain⟨m,hm,hm0⟩:∃m:Nat,(if ((ns.length:Nat):Int)<63 then((ns.length:Nat):Int) else 63)=(m:Nat)/\m<=63:=by
  split
  .exact⟨ns.length,rfl,by lia⟩
  .exact⟨63,rfl,by decide⟩
 obtain⟨hs,ds,n,os,q1,q2,q3,w⟩:=J5 hb hv hd ht hn hg g1 g9 ((List.range (m-38)).map λk=>38+k) (List.replicate gs.length 0) [] 0 (λk hk=>by
  clear 5(un0.mp hk)j hj rfl;have:=uk5.mp hj;lia) ⟨.nil,λ_ h=>nomatch h⟩ (by decide)
 refine⟨hs,ds,n,q1,q2,by rw[uj1,ug8,uk0] at q3;lia,λS=>?_⟩;refine Am rfl ?_;unfold Ex;left;unfold gsD;left;rw[uj1];refine Xi ⟨GJ g9,by show 1*_<=_;lia⟩ ?_;rw[ug5,Tc];left;rw[hm];refine Uq (by rw[uh6];exact⟨by decide,GJ hm0⟩) ?_;rw[show(38:Int)=((38:Nat):Int) from rfl,WA,show(((m:Nat):Int)-((38:Nat):Int)).toNat=m-38 by lia];refine(w S _ none none none none none none none none none).mono λout t h2=>?_;clear 5 h2 z1 f6 f7 f8 f9 f10 f11 f12 f13 f14 z2;subst z1 z2;left;exact⟨.app,rfl⟩
abbrev Sy:=Nat×Nat×D
def nxH(gs:List (List GS))(hs:List Nat)(m:Sy):List Nat:=hs.set m.1 (Bh (gAt gs m.1) (hAt hs m.1) m.2.1)
def okS(gs:List (List GS)):List Nat->List Sy->Prop
 |_,[]=>True
 |hs,m::r=>(m.1<gs.length/\MvOk (gAt gs m.1) (hAt hs m.1) m.2.1 m.2.2)/\okS gs (nxH gs hs m) r
def syD(gs:List (List GS))(hs:List Nat)(m:Sy):D:=sayD gs hs m.1 m.2.1 m.2.2
def dsS(gs:List (List GS)):List Nat->List Sy->List D
 |_,[]=>[]
 |hs,m::r=>syD gs hs m::dsS gs (nxH gs hs m) r
def sdS(gs:List (List GS))(hs:List Nat)(m:Sy):Str:=(AL (gAt gs m.1) (hAt hs m.1)).side
def pbS(gs:List (List GS))(hs:List Nat)(m:Sy):List D:=.int m.2.1::Aq (wdAt (gAt gs m.1) (hAt hs m.1) m.2.1).2.1 m.2.2
def byS(gs:List (List GS))(s:Bool)(hs:List Nat)(m:Sy):List D:=if sdS gs hs m=sd s then .int (m.1:Nat)::pbS gs hs m else []
def wS(gs:List (List GS))(s:Bool):List Nat->List Sy->List D
 |_,[]=>[]
 |hs,m::r=>byS gs s hs m++wS gs s (nxH gs hs m) r
def AE(gs:List (List GS)):List Nat->List Sy->List Nat
 |hs,[]=>hs
 |hs,m::r=>AE gs (nxH gs hs m) r
def tkS(k:Nat)(ms:List Sy):List Mv:=(ms.filter λm=>m.1==k).map (·.2)
theorem FB(k:Nat):tkS k []=[]:=rfl
variable{m:Sy}{r:List Sy}
theorem CI{k:Nat}(h:m.1=k):tkS k (m::r)=m.2::tkS k r:=by
 unfold tkS;rw[fT (by simp[h]),ul3]
theorem BN{k:Nat}(h:m.1≠k):tkS k (m::r)=tkS k r:=by
 unfold tkS;rw[fU (by simp[h])]
theorem GL(k:Nat)(a b:List Sy):tkS k (a++b)=tkS k a++tkS k b:=by unfold tkS;rw[List.filter_append,uk2]
theorem El(gs:List (List GS))(hs:List Nat)(m:Sy):(nxH gs hs m).length=hs.length:=uj6
theorem E3(h:m.1<hs.length)(k:Nat):hAt (nxH gs hs m) k=if k=m.1 then Bh (gAt gs m.1) (hAt hs m.1) m.2.1 else hAt hs k:=KD h
theorem CU(h:m.1<hs.length){k:Nat}(n:k≠m.1):hAt (nxH gs hs m) k=hAt hs k:=by rw[E3 h,gX n]
theorem EQ{gs:List (List GS)}:∀(ms:List Sy) (hs:List Nat),hs.length=gs.length->(okS gs hs ms↔(∀m∈ms,m.1<gs.length)/\∀k,okQ (gAt gs k) (hAt hs k) (tkS k ms))
 |[],hs,hl=>by
   refine⟨λ_=>⟨λ_ h=>(nomatch h),λk=>?_⟩,λ_=>?_⟩
   .rw[FB];exact trivial
   .exact trivial
 |m::r,hs,hl=>by
   have ih:=EQ r (nxH gs hs m) ((El ..).trans hl);rw[okS];constructor
   .rintro⟨⟨h1,h2⟩,h3⟩;clear 5(ih.mp h3)h4 h5;refine⟨λx hx=>(ul2.mp hx).elim (λe=>e ▸ h1) (h4 x),λk=>?_⟩
    by_cases q:m.1=k
    .subst q;have:=h5 m.1;rw[E3 (by lia),gW rfl] at this;rw[CI rfl];exact⟨h2,this⟩
    .have:=h5 k;rw[CU (by lia) λz=>q z.symm] at this;rw[BN q];exact this
   .rintro⟨h1,h2⟩;have hm:=h1 m uf1;have h3:=h2 m.1;rw[CI rfl] at h3;refine⟨⟨hm,h3.1⟩,ih.mpr ⟨λx hx=>h1 x (ud6 _ hx),λk=>?_⟩⟩
    by_cases q:m.1=k
    .subst q;rw[E3 (by lia),gW rfl];exact h3.2
    .have:=h2 k;rw[BN q] at this;rw[CU (by lia) λz=>q z.symm];exact this
theorem EH(gs:List (List GS)):∀(a b:List Sy) (hs:List Nat),dsS gs hs (a++b)=dsS gs hs a++dsS gs (AE gs hs a) b
 |[],b,hs=>rfl
 |m::r,b,hs=>by rw[ui4,dsS,dsS,AE,EH gs r b,ui4]
theorem Kh(gs:List (List GS))(s:Bool):∀(a b:List Sy) (hs:List Nat),wS gs s hs (a++b)=wS gs s hs a++wS gs s (AE gs hs a) b
 |[],b,hs=>rfl
 |m::r,b,hs=>by rw[ui4,wS,wS,AE,Kh gs s r b,ug4]
theorem IE(gs:List (List GS)):∀(a b:List Sy) (hs:List Nat),okS gs hs (a++b)↔okS gs hs a/\okS gs (AE gs hs a) b
 |[],b,hs=>by simp[okS,AE]
 |m::r,b,hs=>by rw[ui4,okS,okS,AE,IE gs r b];exact and_assoc.symm
theorem A0(gs:List (List GS)):∀(a:List Sy) (hs:List Nat),(dsS gs hs a).length=a.length
 |[],hs=>rfl
 |m::r,hs=>by rw[dsS,uh2,A0 gs r,uh2]
theorem I9(gs:List (List GS)):∀(a:List Sy) (hs:List Nat),(AE gs hs a).length=hs.length
 |[],hs=>rfl
 |m::r,hs=>by rw[AE,I9 gs r,El]
theorem Mm(gs:List (List GS))(a:List Sy)(hs:List Nat)(k:Nat):(dsS gs hs a).take k=dsS gs hs (a.take k):=by
 by_cases q:k<=a.length
 .conv=>lhs;rw[<-ud1 k a]
  rw[EH,List.take_append_of_le_length (by rw[A0,uh4];lia),uc1 (by rw[A0,uh4];lia)]
 .rw[uc1 (by rw[A0];lia),uc1 (by lia)]
theorem SaidF.sy{he:List Nat}(h:SaidF gs hs ds n he):∃ms,okS gs hs ms/\ds=dsS gs hs ms/\(wS gs true hs ms).length+(wS gs false hs ms).length<=n:=by
 induction h with
 |nil=>exact⟨[],trivial,rfl,un5 _⟩
 |@cons hs he ds n i p v h1 h2 h3 _ ih=>
   clear 5 ih ms a b c;refine⟨(i,p,v)::ms,⟨⟨h2,h3⟩,a⟩,by rw[dsS,b];rfl,?_⟩;have hb:(byS gs true hs (i,p,v)).length+(byS gs false hs (i,p,v)).length<=2+Hk gs hs i p v:=by
    unfold byS Hk pbS
    by_cases q:sdS gs hs (i,p,v)=sd true
    .rw[gW q,gX (by rw[q];decide)];simp only[uh2,uk0];lia
    .rw[gX q]
     split
     .simp only[uh2,uk0];lia
     .simp
   have c:(wS gs true (nxH gs hs (i,p,v)) ms).length+(wS gs false (nxH gs hs (i,p,v)) ms).length<=n:=c;rw[wS,wS,uf4,uf4];lia
theorem J6(hg:∀g∈gs,GOk g){hs:List Nat}{m:Sy}(h:m.1<gs.length/\MvOk (gAt gs m.1) (hAt hs m.1) m.2.1 m.2.2):∃s ws,AL (gAt gs m.1) (hAt hs m.1)=.st (sd s) ws/\m.2.1<ws.length/\ws[m.2.1]?=some (wdAt (gAt gs m.1) (hAt hs m.1) m.2.1)/\(ws.map (·.1)).Nodup/\ws.length<=9:=by
 clear 5 h hi hm;have hgs:=Fv (Dd hg hi) hm.lt;clear 5(Fr hm.pl)side ws egs hp ew;rw[egs] at hgs;clear 5(Ou hgs)s rfl;refine⟨s,ws,egs,hp,ew,?_⟩
 cases hgs with
 |st _ _ h3 h4 _=>exact⟨h4,h3⟩
theorem F8{gs:List (List GS)}(hg:∀g∈gs,GOk g)(g9:gs.length<=9)(s:Bool):∀(ms:List Sy) (hs:List Nat),okS gs hs ms->isB (wS gs s hs ms)
 |[],hs,_=>λd h=>(nomatch h)
 |m::r,hs,⟨h1,h2⟩=>by
   rw[wS];refine KF ?_ (F8 hg g9 s r _ h2);clear 5(J6 hg h1)s' ws egs hp ew nd h9;have hwd:=Dp (Dd hg h1.1) h1.2.lt h1.2.pl;unfold byS
   split
   .exact EK (by lia) (EK (by lia) (EE 3 _ hwd.dep hwd.ok _ h1.2.fit))
   .exact λd h=>(nomatch h)
theorem QZ(hg:GOk g)(hm:MvOk g q p v){side:Str}{ws:List (Str×Sh×Int)}(e:AL g q=.st side ws){w:List Nat}{a:Nat}(h:At w a (.int (p:Nat)::Aq (wdAt g q p).2.1 v)):Cw side ws w a=(.told v (a+1+(Aq (wdAt g q p).2.1 v).length),p):=by
 clear 5 h.head h1 h2;have hwd:=Dp hg hm.lt hm.pl;clear 5(Fr hm.pl)side' ws' e' hp ew;rw[e] at e'
 cases e'
 unfold Cw;rw[h1];dsimp only;rw[ew];dsimp only;rw[back 3 _ hwd.dep hwd.ok w v (a+1) hm.fit h2]
theorem V1(hg:∀g∈gs,GOk g){w:Bool->List Nat}{σ:Ls}{hs:List Nat}(hst:σ.st=hs){m:Sy}(h1:m.1<gs.length/\MvOk (gAt gs m.1) (hAt hs m.1) m.2.1 m.2.2){s:Bool}{ws:List (Str×Sh×Int)}(egs:AL (gAt gs m.1) (hAt hs m.1)=.st (sd s) ws)(hA:At (w s) (σ.p s) (.int (m.1:Nat)::pbS gs hs m)) :
 σ.nx gs w s=.msg m.1 (Gs (gAt gs m.1) (hAt hs m.1) m.2.1 m.2.2) (Bh (gAt gs m.1) (hAt hs m.1) m.2.1) (σ.p s+1+(pbS gs hs m).length):=by
 clear 5 hA.head hw hA2;have hgx:gs[m.1]?=some (gAt gs m.1):=by unfold gAt;rw[ua7,ub2 h1.1];rfl
 have hst':σ.st.getD m.1 0=hAt hs m.1:=by rw[hst];rfl
 unfold Ls.nx nxR;rw[hw];dsimp only;rw[hgx];dsimp only;rw[hst',egs];dsimp only;rw[gW rfl,QZ (Dd hg h1.1) h1.2 egs hA2];dsimp only;have ew:wdAt (gAt gs m.1) (hAt hs m.1) m.2.1=ws.getD m.2.1 (Str.ofString "",.nothing,0):=by unfold wdAt;rw[egs];rfl
 unfold Gs Bh pbS;rw[egs,ew,uh2]
 congr 1
 lia
theorem Jk{gs:List (List GS)}(hg:∀g∈gs,GOk g){w:Bool->List Nat}:∀(ms:List Sy) (σ:Ls) (hs:List Nat),σ.st=hs->hs.length=gs.length->σ.hd.length=gs.length->okS gs hs ms->(∀s,At (w s) (σ.p s) (wS gs s hs ms))->
 ∃τ,Run gs w σ τ/\(∀s,τ.p s=σ.p s+(wS gs s hs ms).length)/\τ.hd.length=gs.length/\∀k,k<gs.length->τ.hd.getD k []=σ.hd.getD k []++AR (gAt gs k) (hAt hs k) (tkS k ms)
 |[],σ,hs,_,_,hl,_,_=>⟨σ,.refl _,λs=>rfl,hl,λk hk=>by rw[FB,AR,uj3]⟩
 |m::r,σ,hs,hst,hhs,hl,⟨h1,h2⟩,hA=>by
   obtain⟨s,ws,egs,hp,ew,nd,_⟩:=J6 hg h1;have es:sdS gs hs m=sd s:=by unfold sdS;rw[egs];rfl
   have hAs:=hA s;rw[wS] at hAs;have eb:byS gs s hs m=.int (m.1:Nat)::pbS gs hs m:=by unfold byS;rw[gW es]
   have eo:∀t,t≠s->byS gs t hs m=[]:=λt ht=>by unfold byS;rw[gX λz=>ht (J7 (es.symm.trans z)).symm]
   rw[eb] at hAs;have hnx:=V1 hg hst h1 egs hAs.left;obtain⟨τ,a1,a2,a3,a4⟩:=Jk hg r (σ.go s m.1 (Gs (gAt gs m.1) (hAt hs m.1) m.2.1 m.2.2) (Bh (gAt gs m.1) (hAt hs m.1) m.2.1) (σ.p s+1+(pbS gs hs m).length)) (nxH gs hs m) (by unfold Ls.go nxH;dsimp only;rw[hst]) ((El ..).trans hhs) (by unfold Ls.go;dsimp only;rw[uj6];exact hl) h2 (λt=>by
    show At (w t) (if t=s then _ else σ.p t) _
    by_cases q:t=s
    .subst q;rw[gW rfl];have:=hAs.right;rw[uh2] at this;rw[ul8,gG 1];exact this
    .rw[gX q];have:=hA t;rw[wS,eo t q,uj8] at this;exact this)
   refine⟨τ,.step ⟨_,_,_,_,hnx,rfl⟩ a1,λt=>?_,a3,λk hk=>?_⟩
   .rw[a2 t];show(if t=s then _ else σ.p t)+_=_;rw[wS,uf4]
    by_cases q:t=s
    .subst q;rw[gW rfl,eb,uh2];lia
    .rw[gX q,eo t q,uk0];lia
   .rw[a4 k hk];show(σ.hd.set m.1 _).getD k []++_=_
    by_cases q:m.1=k
    .subst q;rw[De (by lia),E3 (by lia),gW rfl,CI rfl,ug4];rfl
    .rw[BS q,CU (by lia) λz=>q z.symm,BN q]
theorem SR(hg:∀g∈gs,GOk g){w:Bool->List Nat}{ms:List Sy}(h:okS gs (List.replicate gs.length 0) ms)(hw:∀s,wD (w s)=wS gs s (List.replicate gs.length 0) ms){σ:Ls}(hE:End gs w σ) :
 LH gs w σ=none/\(∀s,σ.p s=(w s).length)/\σ.hd.length=gs.length/\∀k,k<gs.length->σ.hd.getD k []=AR (gAt gs k) 0 (tkS k ms):=by
 have h0:(gs.map λ_=>0)=List.replicate gs.length 0:=by rw[List.map_const']
 clear 5(Jk hg ms (ls0 gs) (List.replicate gs.length 0) h0 uc7 (uj1 ..) h (λs=>⟨[],[],by rw[hw,uj3];rfl,rfl⟩))τ a1 a2 a3 a4;have hp:∀s,τ.p s=(w s).length:=λs=>by
  rw[a2 s,<-hw,E7];show 0+_=_;lia
 have hx:∀s,τ.nx gs w s=.stop:=λs=>by
  unfold Ls.nx;exact Jg (by rw[hp];exact ud4 (un5 _))
 have hT:End gs w τ:=⟨a1,λs k m th e z=>by rw[hx s] at z;cases z⟩
 have e:=hE.eq hT;subst e;refine⟨ST λs j z=>(by rw[hx s] at z;cases z),hp,a3,λk hk=>?_⟩
 rw[a4 k hk];have e1:(ls0 gs).hd.getD k []=[]:=by
  unfold ls0;dsimp only;rw[ua7,ug2]
  cases gs[k]?<;>rfl
 have e2:hAt (List.replicate gs.length 0) k=0:=by
  unfold hAt;rw[ua7,ub3]
  split<;>rfl
 rw[e1,e2,uj8]
def evS(gs:List (List GS))(s:Bool):List Nat->List Sy->List (Nat×Sy)
 |_,[]=>[]
 |hs,m::r=>(if sdS gs hs m=sd s then [(hAt hs m.1,m)] else [])++evS gs s (nxH gs hs m) r
def byQ(gs:List (List GS))(x:Nat×Sy):List D:=.int (x.2.1:Nat)::.int (x.2.2.1:Nat)::Aq (wdAt (gAt gs x.2.1) x.1 x.2.2.1).2.1 x.2.2.2
structure RdS(gs:List (List GS))(ms:List Sy)(σ:Ls)(a b:List Sy):Prop where
 ok:okS gs (List.replicate gs.length 0) (a++b)
 tk:∀k,tkS k (a++b)=tkS k ms
 ev:∀s,evS gs s (List.replicate gs.length 0) (a++b)=evS gs s (List.replicate gs.length 0) ms
 st:σ.st=AE gs (List.replicate gs.length 0) a
 ps:∀s,σ.p s=(wS gs s (List.replicate gs.length 0) a).length
 hl:σ.hd.length=gs.length
 hd:∀k,k<gs.length->σ.hd.getD k []=AR (gAt gs k) 0 (tkS k a)
mutual
noncomputable def HZ:Sh->Bool
 |.number lo hi=>decide (hi-lo<1000000000)
 |.list s _=>HZ s
 |.pair s r=>HZ s&&HZ r
 |.choice ss=>N4 ss
 |_=>true
noncomputable def N4:List Sh->Bool
 |[]=>true
 |s::r=>HZ s&&N4 r
end
mutual
noncomputable def Nh:Sh->Bool
 |.text m=>decide (m<=3)
 |.list s m=>decide (m<=3)&&Nh s
 |.pair s r=>Nh s&&Nh r
 |.choice ss=>UQ ss
 |_=>true
noncomputable def UQ:List Sh->Bool
 |[]=>true
 |s::r=>Nh s&&UQ r
end
noncomputable def bt:Nat->Nat
 |0=>4
 |d+1=>1+3*bt d
structure Dr(d:Nat)(s:Sh):Prop where
 ok:wf s=true
 dep:s.depth<=d+1
 nar:HZ s=true
 tin:Nh s=true
 few:∀v,Ai s v=true->(Aq s v).length<=bt d
noncomputable def p4(k:Int):Int:=if k=0 then 1 else if k=1 then 4 else 16
def Tin(x:GS):Prop:=∀w∈x.ws,Dr 2 w.2.1
structure GT(gs:List (List GS)):Prop where
 ok:∀g∈gs,GOk g
 n9:gs.length<=9
 tin:∀g∈gs,∀x∈g,Tin x
abbrev z9(gs:List (List GS)):List Nat:=List.replicate gs.length 0
def TL(S:List Ob)(d:D)(xs:List D):Prop:=d=.lst xs\/∃K,d=.obj K/\S[K]?=some (.lst xs)
structure WSl(S:List Ob)(W A B N:Nat)(hs:List Nat)(w:List D×List D)(S':List Ob):Prop where
 gr:Gr S S'
 low:S.length<=W/\S.length<=A/\S.length<=B/\S.length<=N
 ne:A≠B/\N≠A/\N≠B/\N≠W/\W≠A/\W≠B
 w0:S'[W]?=some (.dct (lr (.obj A) (.obj B)))
 a0:S'[A]?=some (.lst w.1)
 b0:S'[B]?=some (.lst w.2)
 n0:S'[N]?=some (.lst (nD hs))
abbrev z0(gs:List (List GS)):List Nat:=List.replicate gs.length 0
structure GdS(ms:List Sy):Prop where
 len:ms.length<=25
 vz:∀m∈ms,LW.vz m.2.2<=2370
noncomputable def KN(s:Str)(w:List D×List D)(l:List D):List D×List D:=if s=sL then(w.1++l,w.2) else(w.1,w.2++l)
structure WS(S:List Ob)(W A B N:Nat)(hs:List Nat)(w:List D×List D)(S':List Ob):Prop where
 gr:Gr S S'
 low:S.length<=W/\S.length<=A/\S.length<=B/\S.length<=N
 ne:A≠B/\N≠A/\N≠B/\N≠W/\W≠A/\W≠B
 w0:S'[W]?=some (.dct (lr (.obj A) (.obj B)))
 a0:S'[A]?=some (.lst w.1)
 b0:S'[B]?=some (.lst w.2)
 n0:S'[N]?=some (.lst (nD hs))
def Iu(f:Fn):Prop:=∀(gs:List (List GS)) (hs:List Nat) (S:List Ob) (K:Nat) (m:Sy),(∀g∈gs,GOk g)->gs.length<=9->hs.length=gs.length->m.1<gs.length/\MvOk (gAt gs m.1) (hAt hs m.1) m.2.1 m.2.2->S[K]?=some (.lst (nD hs))->PureS S f [gsD gs,.obj K,syD gs hs m] (.int (m.2.1:Nat))
theorem Po{cs:Fn}(hs0:GP cs)(hw:FE cw):Iu (fnOf 3 4 (EO cs cw)):=by
 intro gs hs S K m hg g9 hlen h1 hK;have hL:LIM=100000:=rfl;refine Am rfl ?_;unfold EO syD sayD;symm;unfold gsD;symm;rw[uj1];refine(hw (.int (m.1:Nat)) 0 _ rfl).use ?_;symm;refine CW (by simp[EU];lia) ?_;symm;refine AG (E2 h1.1) ?_;symm;refine Nn hK (HY (by lia)) ?_;refine AG (Cv h1.2.lt) ?_;symm;refine(hs0 (gAt gs m.1) (hAt hs m.1) m.2.1 m.2.2 (Dd hg h1.1) h1.2).use ?_;symm;exact⟨rfl,rfl⟩
theorem Xl(hn:Gx cn)(hm:Ir cm)(hp:Iu cp){gs:List (List GS)}{ds:List D}{S S':List Ob}{W A B N j:Nat}{hs:List Nat}{w:List D×List D}{i p:Nat}{v:D}{e5 e6 e7:Option Sl}(hg:∀g∈gs,GOk g)(g9:gs.length<=9)(ho:HsOk gs hs)(hi:i<gs.length)(hmv:MvOk (gAt gs i) (hAt hs i) p v)(hd:ds[j]?=some (syD gs hs (i,p,v)))(hw:WS S W A B N hs w S')(hsz:w.1.length+w.2.length+(2+vz v)<=80000)(hv0:vz v<=40000) :
 L2.W (wbB cn cm cp) ⟨[vw (gsD gs),vw (.lst ds),vw (.obj W),vw (.obj N),vw (.int (j:Nat)),e5,e6,e7],S'⟩ λo t=>o=.next/\∃S'' f5 f6 f7,WS S W A B N (nxH gs hs (i,p,v)) (KN (sdS gs hs (i,p,v)) w (.int (i:Nat)::pbS gs hs (i,p,v))) S''/\t=⟨[vw (gsD gs),vw (.lst ds),vw (.obj W),vw (.obj N),vw (.int (j:Nat)),f5,f6,f7],S''⟩:=by
 have hL:LIM=100000:=rfl;have hd:ds[j]?=some (.tup [.int (i:Nat),.str (AL (gAt gs i) (hAt hs i)).side,.str (wdAt (gAt gs i) (hAt hs i) p).1,v]):=hd;unfold wbB;symm;refine AG (B6 hd) ?_;symm;refine(hp gs hs S' N (i,p,v) hg g9 ho.len ⟨hi,hmv⟩ hw.n0).use ?_;have hgo:=Dd hg hi;have hlt:=ho.lt i hi;have hgs:=Fv hgo hlt;have hwd:=Dp hgo hlt hmv.pl;clear 5(Fr hmv.pl)side ws egs hp' ew;rw[egs] at hgs;clear 5(Ou hgs)s rfl;have hbl:(Aq (wdAt (gAt gs i) (hAt hs i) p).2.1 v).length<=vz v:=Ef 3 _ hwd.dep hwd.ok v hmv.fit;have hgget:=Cv hlt;rw[egs,GS.d] at hgget;have hmb:=hm (gAt gs i) (hAt hs i) p v hgo hmv (by lia);rw[egs,GS.d] at hmb;have hnx:=hn (gAt gs i) (hAt hs i) p hgo hlt hmv.pl;show Hm _ _ .next ⟨[vw (gsD gs),_,_,_,_,vw (.int (p:Nat)),_,_],S'⟩;unfold gsD;symm;refine AG (B6 hd) ?_;symm;refine AG (E2 hi) ?_;symm;refine Nn hw.n0 (HY (by rw[ho.len];exact hi)) ?_;refine AG hgget ?_;symm;refine LN (k:=if s=true then A else B) ?_;symm;refine Bu hw.w0 (lrF (λs=>.obj (if s=true then A else B)) s) ?_;have hAB:S'[if s=true then A else B]?=some (.lst (if s=true then w.1 else w.2)):=by cases s;exact hw.b0;exact hw.a0
 refine⟨rfl,_,hAB,?_⟩;symm;refine AG (B6 hd) ?_;symm;refine hmb.use ?_;symm;refine Bc (by show 1+(_+1)<=_;lia) ?_;symm;have hle:(if s=true then w.1 else w.2).length+(Aq (wdAt (gAt gs i) (hAt hs i) p).2.1 v).length+2<=LIM:=by
  rw[hL]
  cases s
  .show w.2.length+_+2<=_;lia
  .show w.1.length+_+2<=_;lia
 refine⟨_,(if s=true then w.1 else w.2)++(.int (i:Nat)::.int (p:Nat)::Aq (wdAt (gAt gs i) (hAt hs i) p).2.1 v),hAB,?_,?_⟩
 .show(if _ then _ else _)=_;rw[gW (by show _+(_+1+1)<=_;lia)];rfl
 have n1:N≠if s=true then A else B:=by cases s;exact hw.ne.2.2.1;exact hw.ne.2.1
 have hW':=Ak (o:=.lst ((if s=true then w.1 else w.2)++(.int (i:Nat)::.int (p:Nat)::Aq (wdAt (gAt gs i) (hAt hs i) p).2.1 v))) hw.w0 (by cases s;exact Ne.symm hw.ne.2.2.2.2.2;exact Ne.symm hw.ne.2.2.2.2.1:(if s=true then A else B)≠W);have hN':=Ak (o:=.lst ((if s=true then w.1 else w.2)++(.int (i:Nat)::.int (p:Nat)::Aq (wdAt (gAt gs i) (hAt hs i) p).2.1 v))) hw.n0 (Ne.symm n1);have hlo:S.length<=if s=true then A else B:=by cases s;exact hw.low.2.2.1;exact hw.low.2.1
 have key:WS S W A B N hs (KN (sd s) w (.int (i:Nat)::.int (p:Nat)::Aq (wdAt (gAt gs i) (hAt hs i) p).2.1 v)) (S'.set (if s=true then A else B) (.lst ((if s=true then w.1 else w.2)++(.int (i:Nat)::.int (p:Nat)::Aq (wdAt (gAt gs i) (hAt hs i) p).2.1 v)))):=by
  refine⟨hw.gr.set hlo,hw.low,hw.ne,hW',?_,?_,hN'⟩
  .cases s
   .rw[show KN (sd false) w _=(w.1,w.2++_) from rfl];exact Ak hw.a0 (Ne.symm hw.ne.1)
   .exact AT hw.a0
  .cases s
   .exact AT hw.b0
   .rw[show KN (sd true) w _=(w.1++_,w.2) from rfl];exact Ak hw.b0 hw.ne.1
 generalize S'.set (if s=true then A else B) (.lst ((if s=true then w.1 else w.2)++(.int (i:Nat)::.int (p:Nat)::Aq (wdAt (gAt gs i) (hAt hs i) p).2.1 v)))=S2 at key⊢;refine CK ?_;symm;refine AG (E2 hi) ?_;symm;refine Nn key.n0 (HY (by rw[ho.len];exact hi)) ?_;symm;refine hnx.use ?_;symm;refine aZ key.n0 (BA (by lia) (by unfold nD;rw[uj1,ho.len];lia)) ?_;rw[ug5,Q3];have es:sdS gs hs (i,p,v)=sd s:=by unfold sdS;rw[egs];rfl
 refine⟨rfl,_,_,_,_,⟨key.gr.set hw.low.2.2.2,hw.low,hw.ne,Ak key.w0 hw.ne.2.2.2.1,?_,?_,AT key.n0⟩,rfl⟩
 .rw[es];exact Ak key.a0 hw.ne.2.1
 .rw[es];exact Ak key.b0 hw.ne.2.2.1
theorem Ww(hg:∀g∈gs,GOk g){hs:List Nat}{m:Sy}(h:m.1<gs.length/\MvOk (gAt gs m.1) (hAt hs m.1) m.2.1 m.2.2)(w:List D×List D):KN (sdS gs hs m) w (.int (m.1:Nat)::pbS gs hs m)=(w.1++byS gs true hs m,w.2++byS gs false hs m):=by
 obtain⟨s,ws,egs,_⟩:=J6 hg h;have es:sdS gs hs m=sd s:=by unfold sdS;rw[egs];rfl
 unfold byS KN;rw[es]
 cases s with
 |true=>rw[gW (show sd true=sL from rfl),gW rfl,gX (by decide),uj3]
 |false=>rw[gX (show sd false≠sL by decide),gX (by decide),gW rfl,uj3]
theorem Sf{cn cm cp:Fn}(hn:Gx cn)(hm:Ir cm)(hp:Iu cp){gs:List (List GS)}{ds:List D}{S:List Ob}{W A B N:Nat}(hg:∀g∈gs,GOk g)(g9:gs.length<=9):∀(r:List Sy) (j:Nat) (hs:List Nat) (w:List D×List D) (S':List Ob) (e4 e5 e6 e7:Option Sl),ds.drop j=dsS gs hs r->okS gs hs r->(∀m∈r,vz m.2.2<=2370)->HsOk gs hs->WS S W A B N hs w S'->w.1.length+w.2.length+r.length*2372<=80000->
 L2.W (Bv (As 4) (wbB cn cm cp) (AH (j:Int) r.length)) ⟨[vw (gsD gs),vw (.lst ds),vw (.obj W),vw (.obj N),e4,e5,e6,e7],S'⟩ λo t=>o=.next/\∃hs' S'' e4 e5 e6 e7,WS S W A B N hs' (w.1++wS gs true hs r,w.2++wS gs false hs r) S''/\t=⟨[vw (gsD gs),vw (.lst ds),vw (.obj W),vw (.obj N),e4,e5,e6,e7],S''⟩
 |[],j,hs,w,S',e4,e5,e6,e7,hd,hok,hv,ho,hw,hsz=>W_forL_nil.mpr ⟨rfl,hs,S',e4,e5,e6,e7,by rw[wS,wS,uj3,uj3];exact hw,rfl⟩
 |(i,p,v)::r,j,hs,w,S',e4,e5,e6,e7,hd,⟨h1,h2⟩,hv,ho,hw,hsz=>by
   have hj:ds[j]?=some (syD gs hs (i,p,v)):=by rw[<-List.head?_drop,hd];rfl
   have hd2:ds.drop (j+1)=dsS gs (nxH gs hs (i,p,v)) r:=by rw[<-List.tail_drop,hd];rfl
   have hv0:vz v<=2370:=hv (i,p,v) uf1;rw[uh2,um6] at hsz;rw[uh2,Lm,BO];refine Ee ?_;refine(Xl (v:=v) hn hm hp hg g9 ho h1.1 h1.2 hj hw (by lia) (by lia)).mono λo t z9=>?_;clear 5 z9 e1 S'' f5 f6 f7 hw2 e2;subst e1 e2;rw[Ww hg h1] at hw2;have hwd:=Dp (Dd hg h1.1) h1.2.lt h1.2.pl;have hbl:(Aq (wdAt (gAt gs i) (hAt hs i) p).2.1 v).length<=vz v:=Ef 3 _ hwd.dep hwd.ok v h1.2.fit;have hln:(byS gs true hs (i,p,v)).length+(byS gs false hs (i,p,v)).length<=2372:=by
    unfold byS pbS
    by_cases q:sdS gs hs (i,p,v)=sd true
    .rw[gW q,gX (by rw[q];decide)];simp only[uh2,uk0];lia
    .rw[gX q]
     split
     .simp only[uh2,uk0];lia
     .simp
   have:=Sf hn hm hp hg g9 r (j+1) _ _ S'' (vw (.int (j:Nat))) f5 f6 f7 hd2 h2 (λm hm=>hv m (ud6 _ hm)) (ho.next hg h1.1 h1.2) hw2 (by rw[uf4,uf4];lia);rw[show((j+1:Nat):Int)=(j:Int)+1 by lia] at this;dsimp only at this;rw[ug4,ug4] at this;exact this
def WBv(f:Fn):Prop:=∀(gs:List (List GS)) (ms:List Sy) (S:List Ob),(∀g∈gs,GOk g)->gs.length<=9->okS gs (z0 gs) ms->GdS ms->Wf f [gsD gs,.lst (dsS gs (z0 gs) ms)] S λq S'=>Gr S S'/\∃A B,A≠B/\S.length<=A/\S.length<=B/\q=.tup [.obj A,.obj B]/\S'[A]?=some (.lst (wS gs true (z0 gs) ms))/\S'[B]?=some (.lst (wS gs false (z0 gs) ms))
theorem ZC(hn:Gx cn)(hm:Ir cm)(hp:Iu cp):WBv (fnOf 2 8 (DY cn cm cp)):=by
 intro gs ms S hg g9 hok hq;have hL:LIM=100000:=rfl;refine Am rfl ?_;unfold DY;symm;refine IN ?_;symm;refine⟨by simp,?_⟩;symm;unfold gsD;symm;refine(OM (l:=gs) (f:=λ_=>.int 0) (fr:=[]) ?_).mono ?_
 .intro g _;symm;exact⟨rfl,rfl⟩
 rintro xs tc ⟨rfl,hS⟩;refine Bc (by rw[uj1,hL];lia) ?_;rw[hS];have ez:(gs.map λ_=>D.int 0)=nD (List.replicate gs.length 0):=by
  unfold nD;rw[List.map_replicate,<-List.map_const];rfl
 rw[ez];symm;refine DJ (By (by lia) (by rw[A0];have:=hq.len;lia)) ?_;rw[ug5,A0];show L2.W (Bv (As 4) (wbB cn cm cp) (AH ((0:Nat):Int) ms.length)) ⟨[vw (gsD gs),vw (.lst (dsS gs (z0 gs) ms)),vw (.obj S.length),vw (.obj ((S++[Ob.dct []]++[Ob.lst []]++[Ob.lst []]).set S.length (.dct (lr (.obj (S++[Ob.dct []]).length) (.obj (S++[Ob.dct []]++[Ob.lst []]).length)))).length),none,none,none,none],(S++[Ob.dct []]++[Ob.lst []]++[Ob.lst []]).set S.length (.dct (lr (.obj (S++[Ob.dct []]).length) (.obj (S++[Ob.dct []]++[Ob.lst []]).length)))++[.lst (nD (List.replicate gs.length 0))]⟩ _;have lA:(S++[Ob.dct []]).length=S.length+1:=by simp
 have lB:(S++[Ob.dct []]++[Ob.lst []]).length=S.length+2:=by simp
 have lN:((S++[Ob.dct []]++[Ob.lst []]++[Ob.lst []]).set S.length (.dct (lr (.obj (S++[Ob.dct []]).length) (.obj (S++[Ob.dct []]++[Ob.lst []]).length)))).length=S.length+3:=by simp
 have g0:(S++[Ob.dct []]++[Ob.lst []]++[Ob.lst []])[S.length]?=some (.dct []):=by simp
 have gA:(S++[Ob.dct []]++[Ob.lst []]++[Ob.lst []])[S.length+1]?=some (.lst []):=by simp
 have gB:(S++[Ob.dct []]++[Ob.lst []]++[Ob.lst []])[S.length+2]?=some (.lst []):=by simp
 have h0:WS S S.length (S.length+1) (S.length+2) (S.length+3) (List.replicate gs.length 0) ([],[]) ((S++[Ob.dct []]++[Ob.lst []]++[Ob.lst []]).set S.length (.dct (lr (.obj (S.length+1)) (.obj (S.length+2))))++[.lst (nD (List.replicate gs.length 0))]):=by
  refine⟨(((Gr.app.trans Gr.app).trans Gr.app).set (un5 _)).trans Gr.app,⟨by lia,by lia,by lia,by lia⟩,⟨by lia,by lia,by lia,by lia,by lia,by lia⟩,Gr.app.get (AT g0),Gr.app.get (Ak gA (by lia)),Gr.app.get (Ak gB (by lia)),?_⟩;rw[ua5 (by rw[uj6];simp)];rw[uj6];simp
 rw[lN,lA,lB];refine(Sf hn hm hp hg g9 ms 0 _ ([],[]) _ none none none none rfl hok hq.vz (QI hg) h0 (by have:=hq.len;show 0+0+_<=_;lia)).mono λo t z9=>?_;clear 5 z9 q1 hs' S'' e4 e5 e6 e7 hw q2;subst q1 q2;symm;refine Bu hw.w0 (lrF (λs=>.obj (if s=true then S.length+1 else S.length+2)) true) ?_;symm;refine Bu hw.w0 (lrF (λs=>.obj (if s=true then S.length+1 else S.length+2)) false) ?_;symm;exact⟨hw.gr,_,_,hw.ne.1,hw.low.2.1,hw.low.2.2.1,rfl,hw.a0,hw.b0⟩
structure TkO(S:List Ob)(gs:List (List GS))(n0:Nat)(f:Nat->Ob):Prop where
 at':∀k,k<gs.length->S[n0+k]?=some (f k)
theorem F1{k:Nat}(h:k<n):atI ((List.range' n0 n).map D.obj) (k:Int)=some (.obj (n0+k)):=by
 refine B6 ?_;rw[ug2,List.getElem?_range' h];simp
def P3(f:Fn):Prop:=∀(gs:List (List GS)) (ms:List Sy) (S:List Ob),(∀g∈gs,GOk g)->gs.length<=9->okS gs (z0 gs) ms->GdS ms->Wf f [gsD gs,.lst (dsS gs (z0 gs) ms)] S λq S'=>Gr S S'/\q=.lst ((List.range' S.length gs.length).map D.obj)/\TkO S' gs S.length λk=>.lst (AR (gAt gs k) 0 (tkS k ms))
theorem KC{gs:List (List GS)}(k:Nat):∀(ms:List Sy) (hs:List Nat),hs.length=gs.length->(∀m∈ms,m.1<gs.length)->hAt (AE gs hs ms) k=AM (gAt gs k) (hAt hs k) (tkS k ms)
 |[],hs,_,_=>rfl
 |m::r,hs,hl,hm=>by
   have h1:=hm m uf1;rw[AE,KC k r _ ((El ..).trans hl) λx hx=>hm x (ud6 _ hx)]
   by_cases q:m.1=k
   .subst q;rw[E3 (by lia),gW rfl,CI rfl];rfl
   .rw[CU (by lia) λz=>q z.symm,BN q]
variable{ms:List Sy}
theorem MO(hl:hs.length=gs.length)(h:okS gs hs ms):∀m∈ms,m.1<gs.length:=((EQ ms hs hl).mp h).1
theorem Ra{a:List Sy}(h:okS gs hs (a++m::r)):m.1<gs.length/\MvOk (gAt gs m.1) (hAt (AE gs hs a) m.1) m.2.1 m.2.2:=((IE gs a _ hs).mp h).2.1
theorem Ki(gs:List (List GS))(k:Nat):hAt (z0 gs) k=0:=by
 unfold hAt;rw[ua7,ub3]
 split<;>rfl
theorem QF{k:Nat}(h:Gr S S')(hk:S.length<=k):Gr S (S'.set k o):=⟨by rw[uj6];exact h.1,λi hi=>by rw[ud8 (by lia)];exact h.2 i hi⟩
theorem R1{gs:List (List GS)}{n0:Nat}{S0:List Ob}{a1:Option Sl}(h0:n0=S0.length)(g9:gs.length<=9):∀(r a:List Sy) (S:List Ob) (e3 e4 e5 e6:Option Sl),okS gs (z0 gs) (a++r)->a.length+r.length<=25->Gr S0 S->(TkO S gs n0 λk=>.lst (AR (gAt gs k) 0 (tkS k a)))->
 L2.W (Bv (unS 4 (AO (As 3) (AO (As 4) (AO (As 5) (AO (As 6) DE))))) (D5 (objM Cd (Ac (Ab 2) (Ab 3) ixD) (Aa (AN (Aa (Ab 4) (Aa (Ab 5) (Aa (Ab 6) Ad)))) Ad))) (dsS gs (AE gs (z0 gs) a) r))
  ⟨[vw (gsD gs),a1,vw (.lst ((List.range' n0 gs.length).map D.obj)),e3,e4,e5,e6],S⟩ λo t=>o=.next/\t.env[2]?=some (vw (.lst ((List.range' n0 gs.length).map D.obj)))/\Gr S0 t.S/\TkO t.S gs n0 λk=>.lst (AR (gAt gs k) 0 (tkS k (a++r)))
 |[],a,S,e3,e4,e5,e6,hok,hl,hG,hT=>by
   rw[dsS];exact W_forL_nil.mpr ⟨rfl,rfl,hG,by rw[uj3];exact hT⟩
 |m::r,a,S,e3,e4,e5,e6,hok,hl,hG,hT=>by
   have hL:LIM=100000:=rfl;have h1:=Ra hok;have hlt:=MO uc7 hok;have hcur:hAt (AE gs (z0 gs) a) m.1=AM (gAt gs m.1) 0 (tkS m.1 a):=by
    rw[KC m.1 a _ uc7 (λx hx=>hlt x (ud7 _ hx)),Ki]
   have hS:=hT.at' m.1 h1.1;rw[dsS,BO];unfold syD sayD;symm;refine LN (k:=n0+m.1) ?_;symm;refine AG (F1 h1.1) ?_;refine⟨rfl,_,hS,?_⟩;symm;have hml:(AR (gAt gs m.1) 0 (tkS m.1 a)).length<=25:=by
    rw[Ek];unfold tkS;rw[uj1];have:=ud5 (λx:Sy=>x.1==m.1) a;rw[uh2] at hl;lia
   refine⟨_,_,hS,by unfold Cd;exact gW (by rw[hL];lia),?_⟩;symm;have e:=R1 (n0:=n0) (S0:=S0) (a1:=a1) h0 g9 r (a++[m]) (S.set (n0+m.1) (.lst (AR (gAt gs m.1) 0 (tkS m.1 a)++[D.tup [.str (AL (gAt gs m.1) (hAt (AE gs (z0 gs) a) m.1)).side,.str (wdAt (gAt gs m.1) (hAt (AE gs (z0 gs) a) m.1) m.2.1).1,m.2.2]]))) (vw (.int (m.1:Nat))) (vw (.str (AL (gAt gs m.1) (hAt (AE gs (z0 gs) a) m.1)).side)) (vw (.str (wdAt (gAt gs m.1) (hAt (AE gs (z0 gs) a) m.1) m.2.1).1)) (vw m.2.2) (by rw[ug4];exact hok) (by rw[uf4,uc9];rw[uh2] at hl;lia) (QF hG (by lia)) ⟨λk hk=>by
    rw[GL]
    by_cases q:m.1=k
    .subst q;rw[AT hS,CI rfl,FB,Lj,<-hcur];rfl
    .rw[ud8 (by lia),BN q,FB,uj3];exact hT.at' k hk⟩
   have e2:AE gs (z0 gs) (a++[m])=nxH gs (AE gs (z0 gs) a) m:=by
    have:∀(b:List Sy) (hs:List Nat),AE gs hs (b++[m])=nxH gs (AE gs hs b) m:=by
     intro b
     induction b with
     |nil=>intro hs;rfl
     |cons x b ih=>intro hs;exact ih _
    exact this a _
   rw[e2,ug4] at e;exact e
theorem QV:P3 (fnOf 2 7 Fd):=by
 intro gs ms S hg g9 hok hq;have hL:LIM=100000:=rfl;refine Am rfl ?_;unfold Fd;symm;unfold gsD;symm;refine(GY (λg:List GS=>D.lst (g.map GS.d)) gs S _).mono λr t' z9=>?_;clear 5 z9 e1 e2;subst e1;refine Bc (by rw[uj1,uf8,hL];lia) ?_;rw[e2];symm;refine(R1 (gs:=gs) (n0:=S.length) (S0:=S) rfl g9 ms [] _ _ _ _ _ hok (by have:=hq.len;rw[uk0];lia) ⟨by rw[uf4];lia,λi hi=>ua9 hi⟩ ⟨λk hk=>by
  rw[ua5 (by lia),ub7,ub3,gW hk];rfl⟩).mono λo t ⟨z1,z2,z3,z4⟩=>?_
 subst z1;refine CK ?_;symm;refine EC z2 ?_;symm;exact⟨z3,rfl,z4⟩
theorem NH{α:Type}(ι:α->D):∀(xs:List α) (S:List Ob) (z:Option Sl),L2.W (Bf (As 0) B4 (Ep [("left",(Ax (AK Ad))),("right",(Ax (AK Ad)))]) (xs.map ι)) ⟨[z],S⟩ λr t'=>r=((List.range' S.length xs.length).map D.obj)/\t'.S=S++List.replicate xs.length (.dct (lr (.lst []) (.lst [])))
 |[],S,z=>W_compL_nil.mpr ⟨rfl,(uj3 _).symm⟩
 |a::r,S,z=>by
   rw[ul3,A7];refine Ee (Ga ?_);rw[gW rfl];refine IN ?_;symm;refine⟨Ca,?_⟩;show L2.W _ ⟨_,(S++[Ob.dct []]).set S.length _⟩ _;rw[<-Bq];refine(NH ι r _ _).mono λxs t' z9=>?_;clear 5 z9 e1 e2;subst e1;refine⟨?_,?_⟩
   .rw[uf4,uh2 (as:=r),List.range'_succ,ul3];rfl
   .rw[e2,ug4,uh2,ue6];rfl
def rtI(s:Bool):Int:=if id (sd s==Str.ofString "right")=true then 1 else 0
theorem Ik(F:Bool->D)(s:Bool):atI [F true,F false] (rtI s)=some (F s):=by cases s<;>rfl
theorem Rx(F:Bool->D)(s:Bool):atI [F true,F false] (1-rtI s)=some (F (!s)):=by cases s<;>rfl
theorem lrP(F:Bool->D)(s:Bool)(d:D):BI (lr (F true) (F false)) (.inr (sd s)) d=lr (if true=s then d else F true) (if false=s then d else F false):=by
 rw[QU (PC s)]
 cases s<;>rfl
def prO(gs:List (List GS))(a:List Sy)(k:Nat):Ob:=.dct (lr (.lst (AB (gAt gs k) (sd true) 0 (tkS k a))) (.lst (AB (gAt gs k) (sd false) 0 (tkS k a))))
theorem QE{a b:List Sy}(h:GdS (a++b)):GdS a:=⟨by have:=h.len;rw[uf4] at this;lia,λm hm=>h.vz m (ud7 _ hm)⟩
theorem JQ{l:List D}(h:isB l):isI l:=λx hx=>by obtain⟨n,e,_⟩:=h x hx;exact⟨_,e⟩
theorem Sc{gs:List (List GS)}(hg:∀g∈gs,GOk g)(s:Bool):∀(ms:List Sy) (hs:List Nat),okS gs hs ms->(∀m∈ms,vz m.2.2<=2370)->(wS gs s hs ms).length<=ms.length*2372
 |[],hs,_,_=>un6 _
 |m::r,hs,⟨h1,h2⟩,hv=>by
   have ih:=Sc hg s r _ h2 λx hx=>hv x (ud6 _ hx);have h3:=hv m uf1;have hwd:=Dp (Dd hg h1.1) h1.2.lt h1.2.pl;have h4:=Ef 3 _ hwd.dep hwd.ok _ h1.2.fit;have h5:(byS gs s hs m).length<=2372:=by
    unfold byS pbS
    split
    .rw[uh2,uh2];lia
    .exact un6 _
   rw[wS,uf4,uh2,um6];lia
theorem IQ(gs:List (List GS))(s:Bool)(hs:List Nat)(a:List Sy)(m:Sy):wS gs s hs (a++[m])=wS gs s hs a++byS gs s (AE gs hs a) m:=by
 rw[Kh,wS,wS,uj3]
theorem JG:Bp xs (some (n:Int)) none=xs.drop n:=by
 by_cases h:n<=xs.length
 .have e1:HT.sIx xs.length 0 (some (n:Int))=n:=by simp only[HT.sIx];rw[gX (by lia)];lia
  unfold Bp;rw[e1];simp only[HT.sIx];rw[uc1 (by rw[uh5];lia)]
 .have e1:HT.sIx xs.length 0 (some (n:Int))=xs.length:=by simp only[HT.sIx];rw[gX (by lia)];lia
  unfold Bp;rw[e1];simp only[HT.sIx];rw[uc5 (un5 _),uc5 (by lia),List.take_nil]
theorem aG{g:Bool->Bool}{A:Nat}{a:List D}(ha:isI a)(eA:t.S[A]?=some (.lst a))(h:P (.bl (g true)) t):L2.W (eqO g (.lst a) (.obj A)) t P:=by
 refine PQ (d:=.lst a) ?_ ?_ (Ec ha) (Fy ha) h
 .show D.lst (a.map (AF t.S 15))=_;rw[Cb ha]
 .show AF t.S (15+1) (.obj A)=_;rw[AF,eA];dsimp only;rw[Cb ha]
theorem aH{g:Bool->Bool}{A:Nat}{a:List D}(ha:isI a)(eA:t.S[A]?=some (.lst a))(eB:t.S[B]?=some (.lst a))(h:P (.bl (g true)) t):L2.W (eqO g (.obj A) (.obj B)) t P:=by
 refine PQ (d:=.lst a) ?_ ?_ (Ec ha) (Fy ha) h
 .show AF t.S (15+1) (.obj A)=_;rw[AF,eA];dsimp only;rw[Cb ha]
 .show AF t.S (15+1) (.obj B)=_;rw[AF,eB];dsimp only;rw[Cb ha]
theorem aI{g:Bool->Bool}{l:List D}(hr:Rq n (.lst l))(hn:n<=EQD)(h:P (.bl (g true)) t):L2.W (eqS g (.lst l) (.lst l)) t P:=⟨_,_,by unfold eqS;rw[hr EQD hn];rfl,h⟩
theorem K3{gs:List (List GS)}(s:Bool)(k:Nat):∀(ms:List Sy) (hs:List Nat),hs.length=gs.length->okS gs hs ms->(AB (gAt gs k) (sd s) (hAt hs k) (tkS k ms)).length<=(wS gs s hs ms).length
 |[],hs,_,_=>un6 _
 |m::r,hs,hl,⟨h1,h2⟩=>by
   have ih:=K3 s k r (nxH gs hs m) ((El ..).trans hl) h2;rw[wS,uf4]
   by_cases q:m.1=k
   .subst q;rw[E3 (by lia),gW rfl] at ih;rw[CI rfl,AB,uf4];refine Nat.add_le_add ?_ ih;unfold byS sdS pbS
    split
    .rw[uh2 (a:=D.int (m.1:Nat))];exact un7 _
    .exact un5 _
   .rw[CU (by lia) λz=>q z.symm] at ih;rw[BN q];lia
theorem Wv(hc:WBv c){gs:List (List GS)}{a:List Sy}{m:Sy}{r:List Sy}{S0 S:List Ob}{n0:Nat}{e4 e5 e6 e7 e8 e9:Option Sl}(h0:n0=S0.length)(hg:∀g∈gs,GOk g)(g9:gs.length<=9)(hok:okS gs (z0 gs) (a++m::r))(hq:GdS (a++m::r))(hG:Gr S0 S)(hT:TkO S gs n0 (prO gs a)) :
 L2.W (ptB c) ⟨[vw (gsD gs),vw (.lst (dsS gs (z0 gs) (a++m::r))),vw (.lst ((List.range' n0 gs.length).map D.obj)),vw (.int (a.length:Nat)),e4,e5,e6,e7,e8,e9],S⟩ λo t=>o=.next/\∃f4 f5 f6 f7 f8 f9 S',t=⟨[vw (gsD gs),vw (.lst (dsS gs (z0 gs) (a++m::r))),vw (.lst ((List.range' n0 gs.length).map D.obj)),vw (.int (a.length:Nat)),f4,f5,f6,f7,f8,f9],S'⟩/\Gr S0 S'/\TkO S' gs n0 (prO gs (a++[m])):=by
 have hL:LIM=100000:=rfl;have hz:(z0 gs).length=gs.length:=uc7;have h1:=Ra hok;have hlt:=MO hz hok;have hokS:=(IE gs a _ _).mp hok;have e0:a++m::r=(a++[m])++r:=by rw[ug4];rfl
 have hok2:okS gs (z0 gs) (a++[m]):=by rw[e0] at hok;exact((IE gs (a++[m]) r _).mp hok).1
 have hq1:=QE hq;have hq2:GdS (a++[m]):=by rw[e0] at hq;exact QE hq
 have hcur:hAt (AE gs (z0 gs) a) m.1=AM (gAt gs m.1) 0 (tkS m.1 a):=by
  rw[KC m.1 a _ hz (λx hx=>hlt x (ud7 _ hx)),Ki]
 have t1:(dsS gs (z0 gs) (a++m::r)).take a.length=dsS gs (z0 gs) a:=by rw[Mm,List.take_left]
 have t2:(dsS gs (z0 gs) (a++m::r)).take (a.length+1)=dsS gs (z0 gs) (a++[m]):=by
  rw[Mm,e0,List.take_left' (by rw[uf4];rfl)]
 have dx:atI (dsS gs (z0 gs) (a++m::r)) ((a.length:Nat):Int)=some (syD gs (AE gs (z0 gs) a) m):=B6 (by
  rw[EH,ua5 (by rw[A0];lia),A0,un2,dsS];rfl)
 obtain⟨s,ws,egs,hp,ew,nd,_⟩:=J6 hg h1;have es:sdS gs (AE gs (z0 gs) a) m=sd s:=by unfold sdS;rw[egs];rfl
 have eb:byS gs s (AE gs (z0 gs) a) m=.int (m.1:Nat)::pbS gs (AE gs (z0 gs) a) m:=by unfold byS;rw[gW es]
 have eo:byS gs (!s) (AE gs (z0 gs) a) m=[]:=by unfold byS;rw[gX λz=>by have:=J7 (es.symm.trans z);cases s<;>cases this]
 have wb:=λs=>F8 hg g9 s a _ hokS.1;have wb2:=λs=>F8 hg g9 s (a++[m]) _ hok2;have wl:=λs=>Sc hg s (a++[m]) _ hok2 hq2.vz;have hl25:(a++[m]).length<=25:=hq2.len;unfold ptB;symm;rw[Fk,t1];refine(hc gs a S hg g9 hokS.1 hq1).mono λq S1 z9=>?_;clear 5 z9 G1 A B ab lA lB eq1 eA eB;subst eq1;symm;rw[show((a.length:Nat):Int)+1=((a.length+1:Nat):Int) from rfl,Fk,t2];refine(hc gs (a++[m]) S1 hg g9 hok2 hq2).mono λq S2 z9=>?_;clear 5 z9 G2 A' B' ab' lA' lB' eq2 eA' eB';subst eq2;have eA:=G2.get eA;have eB:=G2.get eB;have X1:∀s,S2[if s=true then A else B]?=some (.lst (wS gs s (z0 gs) a)):=λs=>by cases s;exact eB;exact eA
 have X2:∀s,S2[if s=true then A' else B']?=some (.lst (wS gs s (z0 gs) (a++[m]))):=λs=>by cases s;exact eB';exact eA'
 have T2:TkO S2 gs n0 (prO gs a):=⟨λk hk=>G2.get (G1.get (hT.at' k hk))⟩;have G3:=(hG.trans G1).trans G2;symm;refine AG dx ?_;unfold syD sayD;rw[egs,show(GS.st (sd s) ws).side=sd s from rfl];symm;rw[show Bp [D.int (m.1:Nat),D.str (sd s),D.str (wdAt (gAt gs m.1) (hAt (AE gs (z0 gs) a) m.1) m.2.1).1,m.2.2] none (some 2)=[D.int (m.1:Nat),D.str (sd s)] from rfl];symm;refine DH (Ik (λs=>.obj (if s=true then A' else B')) s) ?_;symm;refine DH (Ik (λs=>.obj (if s=true then A else B)) s) ?_;symm;refine FC (X1 s) ?_;symm;refine Sd (X2 s) ?_;have hdr:Bp (wS gs s (z0 gs) (a++[m])) (some ((wS gs s (z0 gs) a).length:Int)) none=.int (m.1:Nat)::pbS gs (AE gs (z0 gs) a) m:=by
  rw[JG,IQ,eb,List.drop_left]
 have htk:Bp (wS gs s (z0 gs) (a++[m])) none (some ((wS gs s (z0 gs) a).length:Int))=wS gs s (z0 gs) a:=by
  rw[Fk,IQ,List.take_left]
 rw[hdr];symm;refine DH (Ik (λs=>.obj (if s=true then A' else B')) s) ?_;symm;refine DH (Ik (λs=>.obj (if s=true then A else B)) s) ?_;symm;refine FC (X1 s) ?_;symm;refine Sd (X2 s) ?_;rw[htk];symm;refine DH (Ik (λs=>.obj (if s=true then A else B)) s) ?_;symm;refine aG (JQ (wb s)) (X1 s) ?_;symm;refine DH (Rx (λs=>.obj (if s=true then A' else B')) s) ?_;symm;refine DH (Rx (λs=>.obj (if s=true then A else B)) s) ?_;symm;refine aH (JQ (wb (!s))) (by rw[X2,IQ,eo,uj3]) (X1 (!s)) ?_;symm;rw[show Bp (D.int (m.1:Nat)::pbS gs (AE gs (z0 gs) a) m) none (some 1)=[D.int (m.1:Nat)] from(Fk (n:=1)).trans rfl];refine aI (n:=2) (GH λx hx=>by rw[uf7] at hx;subst hx;exact Ij) (by decide) ?_;symm;refine AG (F1 h1.1) ?_;symm;refine Bu (T2.at' m.1 h1.1) (lrF (λs=>.lst (AB (gAt gs m.1) (sd s) 0 (tkS m.1 a))) s) ?_;symm;rw[show Bp (D.int (m.1:Nat)::pbS gs (AE gs (z0 gs) a) m) (some 1) none=pbS gs (AE gs (z0 gs) a) m from(JG (n:=1)).trans rfl];have wle:(AB (gAt gs m.1) (sd s) 0 (tkS m.1 a)).length+(pbS gs (AE gs (z0 gs) a) m).length<=60000:=by
  have h3:=K3 s m.1 a (z0 gs) hz hokS.1;rw[Ki] at h3;have h4:=wl s;rw[IQ,eb,uf4,uh2] at h4;lia
 refine Bc (by rw[hL];lia) ?_;symm;refine AG (F1 h1.1) ?_;symm;refine Hr (T2.at' m.1 h1.1) (by show 2<100000;decide) ?_;rw[lrP (λs=>.lst (AB (gAt gs m.1) (sd s) 0 (tkS m.1 a)))];refine⟨rfl,_,_,_,_,_,_,_,rfl,QF G3 (by lia),⟨λk hk=>?_⟩⟩
 by_cases q:m.1=k
 .subst q;rw[AT (T2.at' m.1 h1.1)];unfold prO;have e1:∀t:Bool,AB (gAt gs m.1) (sd t) 0 (tkS m.1 (a++[m]))=AB (gAt gs m.1) (sd t) 0 (tkS m.1 a)++if sdS gs (AE gs (z0 gs) a) m=sd t then pbS gs (AE gs (z0 gs) a) m else []:=λt=>by
   rw[GL,CI rfl,FB,E8,AB,AB,uj3,<-hcur];rfl
  rw[e1,e1,es]
  cases s with
  |true=>rw[gW rfl,gW rfl,gX (by decide),gX (by decide),uj3]
  |false=>rw[gX (by decide),gW rfl,gX (by decide),gW rfl,uj3]
 .rw[ud8 (by lia),T2.at' k hk];unfold prO;rw[GL,BN q,FB,uj3]
theorem Rp{c:Fn}(hc:WBv c){gs:List (List GS)}{S0:List Ob}{n0:Nat}(h0:n0=S0.length)(hg:∀g∈gs,GOk g)(g9:gs.length<=9){ms:List Sy}(hok:okS gs (z0 gs) ms)(hq:GdS ms):∀(r a:List Sy) (S:List Ob) (e3 e4 e5 e6 e7 e8 e9:Option Sl),ms=a++r->Gr S0 S->TkO S gs n0 (prO gs a)->
 L2.W (Bv (As 3) (ptB c) (AH (a.length:Nat) r.length)) ⟨[vw (gsD gs),vw (.lst (dsS gs (z0 gs) ms)),vw (.lst ((List.range' n0 gs.length).map D.obj)),e3,e4,e5,e6,e7,e8,e9],S⟩ λo t=>o=.next/\t.env[2]?=some (vw (.lst ((List.range' n0 gs.length).map D.obj)))/\Gr S0 t.S/\TkO t.S gs n0 (prO gs ms)
 |[],a,S,e3,e4,e5,e6,e7,e8,e9,e,hG,hT=>by
   rw[uj3] at e;subst e;exact W_forL_nil.mpr ⟨rfl,rfl,hG,hT⟩
 |m::r,a,S,e3,e4,e5,e6,e7,e8,e9,e,hG,hT=>by
   subst e;rw[uh2,Lm,BO];symm;refine(Wv hc h0 hg g9 hok hq hG hT).mono λo t z9=>?_;clear 5 z9 z1 f4 f5 f6 f7 f8 f9 S' z2 z3 z4;subst z1 z2;have:=Rp hc h0 hg g9 hok hq r (a++[m]) S' (vw (.int (a.length:Nat))) f4 f5 f6 f7 f8 f9 (by rw[ug4];rfl) z3 z4;rw[uf4] at this;exact this
def Nx(f:Fn):Prop:=∀(gs:List (List GS)) (ms:List Sy) (S:List Ob),(∀g∈gs,GOk g)->gs.length<=9->okS gs (z0 gs) ms->GdS ms->Wf f [gsD gs,.lst (dsS gs (z0 gs) ms)] S λq S'=>Gr S S'/\q=.lst ((List.range' S.length gs.length).map D.obj)/\TkO S' gs S.length (prO gs ms)
theorem Pc(hc:WBv c):Nx (fnOf 2 10 (DU c)):=by
 intro gs ms S hg g9 hok hq;have hL:LIM=100000:=rfl;refine Am rfl ?_;unfold DU;symm;unfold gsD;symm;refine(NH (λg:List GS=>D.lst (g.map GS.d)) gs S _).mono λr t' z9=>?_;clear 5 z9 e1 e2;subst e1;refine Bc (by rw[uj1,uf8,hL];lia) ?_;rw[e2];symm;refine DJ (By (by lia) (by rw[A0];have:=hq.len;lia)) ?_;rw[ug5,A0];refine(Rp hc (n0:=S.length) (S0:=S) rfl hg g9 hok hq ms [] _ _ _ _ _ _ _ _ rfl ⟨by rw[uf4];lia,λi hi=>ua9 hi⟩ ⟨λk hk=>by
  rw[ua5 (by lia),ub7,ub3,gW hk];rfl⟩).mono λo t ⟨z1,z2,z3,z4⟩=>?_
 subst z1;refine CK ?_;symm;refine EC z2 ?_;symm;exact⟨z3,rfl,z4⟩
section
variable{gs:List (List GS)}{h:List Nat}{m1 m2:Sy}
theorem UN(hl:m1.1<h.length)(n:m2.1≠m1.1):syD gs (nxH gs h m1) m2=syD gs h m2/\sdS gs (nxH gs h m1) m2=sdS gs h m2/\∀s,byS gs s (nxH gs h m1) m2=byS gs s h m2:=by
 have e:=CU (gs:=gs) hl n;refine⟨?_,?_,λs=>?_⟩
 .unfold syD sayD;rw[e]
 .unfold sdS;rw[e]
 .unfold byS sdS pbS;rw[e]
theorem V2(h1:m1.1<h.length)(h2:m2.1<h.length)(n:m1.1≠m2.1):nxH gs (nxH gs h m1) m2=nxH gs (nxH gs h m2) m1:=by
 have e1:=CU (gs:=gs) h1 n.symm;have e2:=CU (gs:=gs) h2 n;show(nxH gs h m1).set m2.1 (Bh (gAt gs m2.1) (hAt (nxH gs h m1) m2.1) m2.2.1)=(nxH gs h m2).set m1.1 (Bh (gAt gs m1.1) (hAt (nxH gs h m2) m1.1) m1.2.1);rw[e1,e2];exact gC _ _ n
end
theorem ME{a b:List Sy}{m1 m2 x:Sy}(hx:x∈a++m2::m1::b):x∈a++m1::m2::b:=by
 simp only[ui9,ul2] at hx⊢;exact hx.imp id or_left_comm.mp
theorem Zg{x:Nat}(h:x+1<ms.length):∃a m1 m2 b,ms=a++m1::m2::b/\a.length=x:=by
 refine⟨ms.take x,ms[x],ms[x+1],ms.drop (x+2),?_,by rw[uh4];lia⟩;rw[<-ub0 (by lia),<-ub0 (by lia),ud1]
theorem W4{a b:List Sy}{m1 m2:Sy}(hok:okS gs (z0 gs) (a++m1::m2::b))(n:m1.1≠m2.1)(hs:sdS gs (AE gs (z0 gs) a) m1≠sdS gs (nxH gs (AE gs (z0 gs) a) m1) m2) :
 okS gs (z0 gs) (a++m2::m1::b)/\(∀s,wS gs s (z0 gs) (a++m2::m1::b)=wS gs s (z0 gs) (a++m1::m2::b))/\
  dsS gs (z0 gs) (a++m2::m1::b)=dsS gs (z0 gs) a++[syD gs (nxH gs (AE gs (z0 gs) a) m1) m2,syD gs (AE gs (z0 gs) a) m1]++dsS gs (nxH gs (nxH gs (AE gs (z0 gs) a) m1) m2) b:=by
 have hz:(z0 gs).length=gs.length:=uc7;have hlt:=MO hz hok;have l1:m1.1<(AE gs (z0 gs) a).length:=by rw[I9,hz];exact hlt m1 (by simp)
 have l2:m2.1<(AE gs (z0 gs) a).length:=by rw[I9,hz];exact hlt m2 (by simp)
 clear 5(UN (gs:=gs) l1 n.symm)p1 p2 p3;clear 5(UN (gs:=gs) l2 n)q1 q2 q3;have hc:=V2 (gs:=gs) l1 l2 n;rw[p2] at hs;refine⟨?_,λs=>?_,?_⟩
 .clear 5((EQ _ _ hz).mp hok)h1 h2;refine(EQ _ _ hz).mpr ⟨λx hx=>h1 x (ME hx),λk=>?_⟩;have e:tkS k (a++m2::m1::b)=tkS k (a++m1::m2::b):=by
   rw[GL,GL]
   congr 1
   by_cases y1:m1.1=k
   .have y2:m2.1≠k:=λz=>n (y1.trans z.symm);rw[BN y2,CI y1,CI y1,BN y2]
   .by_cases y2:m2.1=k
    .rw[CI y2,BN y1,BN y1,CI y2]
    .rw[BN y2,BN y1,BN y1,BN y2]
  rw[e];exact h2 k
 .rw[Kh,Kh,wS,wS,wS,wS,p3,q3,hc,<-ug4 (byS gs s _ m2),<-ug4 (byS gs s _ m1)]
  congr 2
  by_cases y:sdS gs (AE gs (z0 gs) a) m1=sd s
  .have:byS gs s (AE gs (z0 gs) a) m2=[]:=by unfold byS;rw[gX λz=>hs (y.trans z.symm)]
   rw[this,uj8,uj3]
  .have:byS gs s (AE gs (z0 gs) a) m1=[]:=by unfold byS;rw[gX y]
   rw[this,uj8,uj3]
 .rw[EH,dsS,dsS,p1,q1,hc,ug4];rfl
theorem Lr(e:t.env[i]?=some (some (.own xs)))(h:P (.int xs.length) t):L2.W (EI i) t P:=⟨_,_,by unfold EI;rw[e],h⟩
theorem Zx{x:Nat}{l u:M (Option Int)}(e:t.env[i]?=some (some (.own xs)))(h:L2.W l t λa t1=>t1=t/\L2.W u t λc t2=>t2=t/\a=some (x:Int)/\c=some ((x+2:Nat):Int)/\x+2<=xs.length/\xs.length+ys.length<=LIM/\U () ⟨t.env.set i (some (.own (xs.take x++ys++xs.drop (x+2)))),t.S⟩):L2.W (IK i l u (.lst ys)) t U:=by
 clear 5 h a t1 h1 rfl c t2 h2 rfl rfl rfl h3 h4 h5;refine⟨(),_,?_,h5⟩;unfold IK;rw[e];dsimp only;unfold bnd;rw[h1];dsimp only;rw[h2];dsimp only;rw[e];dsimp only;rw[gW ⟨by lia,by lia,by lia,h4⟩,ug5,ug5]
structure Alk(gs:List (List GS))(ms ms':List Sy):Prop where
 ok:okS gs (z0 gs) ms'
 gd:GdS ms'
 w:∀s,wS gs s (z0 gs) ms'=wS gs s (z0 gs) ms
theorem W8(hd:DrawD cd){gs:List (List GS)}{ms ms':List Sy}{K r:Nat}{S0 S:List Ob}{a0 a1 e4 e5:Option Sl}(hA:Alk gs ms ms')(hK:StK K (r+1) S0 S) :
 L2.W (tnB cd) ⟨[a0,a1,vw (.obj K),some (.own (dsS gs (z0 gs) ms')),e4,e5],S⟩ λo t=>o=.next/\∃ms2 f5 S',t=⟨[a0,a1,vw (.obj K),some (.own (dsS gs (z0 gs) ms2)),e4,f5],S'⟩/\Alk gs ms ms2/\StK K r S0 S':=by
 have hL:LIM=100000:=rfl;have hz:(z0 gs).length=gs.length:=uc7;have hln:(dsS gs (z0 gs) ms').length=ms'.length:=A0 ..;have h25:=hA.gd.len;unfold tnB;symm;refine Lr rfl ?_;symm;rw[hln];refine hd.use _ hK (λi S' h0 h1 hK'=>?_) rfl (by split<;>lia) (by split<;>lia);clear 5(ub4 h0)x rfl;symm;refine Lr rfl ?_;symm;refine Ev (λz=>?_) λz=>?_
 .have hx:x+1<ms'.length:=by
   have:=uh0 z;rw[hln] at this;lia
  clear 5(Zg hx)a m1 m2 b e ea;subst e;have d1:atI (dsS gs (z0 gs) (a++m1::m2::b)) (x:Int)=some (syD gs (AE gs (z0 gs) a) m1):=B6 (by
   rw[EH,ua5 (by rw[A0];lia),A0,ea,un2,dsS];rfl)
  have d2:atI (dsS gs (z0 gs) (a++m1::m2::b)) ((x:Int)+1)=some (syD gs (nxH gs (AE gs (z0 gs) a) m1) m2):=(B6 (i:=x+1) (by
   rw[EH,ua5 (by rw[A0];lia),A0,ea,ub7,dsS,dsS];rfl))
  symm;refine DI rfl ?_;symm;refine⟨_,_,_,rfl,rfl,d1,?_⟩;unfold syD sayD;symm;refine DI rfl ?_;symm;refine⟨_,_,_,rfl,rfl,d2,?_⟩;unfold syD sayD;symm;refine Ev (λy1=>?_) λy1=>?_
  .symm;refine DI rfl ?_;symm;refine⟨_,_,_,rfl,rfl,d1,?_⟩;unfold syD sayD;symm;refine DI rfl ?_;symm;refine⟨_,_,_,rfl,rfl,d2,?_⟩;unfold syD sayD;symm;refine Ev (λy2=>?_) λy2=>?_
   .symm;refine DI rfl ?_;symm;refine⟨_,_,_,rfl,rfl,d2,?_⟩;symm;refine DI rfl ?_;symm;refine⟨_,_,_,rfl,rfl,d1,?_⟩;symm;have n12:m1.1≠m2.1:=λq=>by rw[q] at y1;simp at y1
    have s12:sdS gs (AE gs (z0 gs) a) m1≠sdS gs (nxH gs (AE gs (z0 gs) a) m1) m2:=λq=>by unfold sdS at q;rw[q] at y2;simp at y2
    clear 5(W4 hA.ok n12 s12)k1 k2 k3;have key:(dsS gs (z0 gs) (a++m1::m2::b)).take x++[syD gs (nxH gs (AE gs (z0 gs) a) m1) m2,syD gs (AE gs (z0 gs) a) m1]++(dsS gs (z0 gs) (a++m1::m2::b)).drop (x+2)=dsS gs (z0 gs) (a++m2::m1::b):=by
     rw[k3,EH,dsS,dsS,List.take_left' (by rw[A0,ea]),List.drop_append,A0,ea,ub7,uc5 (by rw[A0];lia)];rfl
    refine Zx (x:=x) rfl ?_;symm;refine⟨rfl,?_⟩;symm;refine⟨rfl,rfl,rfl,by rw[hln];lia,by rw[hln,hL];show _+2<=_;lia,?_⟩;rw[key];have hl2:(a++m2::m1::b).length=(a++m1::m2::b).length:=by simp
    exact⟨rfl,_,_,_,rfl,⟨k1,⟨by rw[hl2];exact h25,λy hy=>hA.gd.vz y (ME hy)⟩,λs=>(k2 s).trans (hA.w s)⟩,hK'⟩
   .symm;exact⟨rfl,_,_,_,rfl,hA,hK'⟩
  .symm;exact⟨rfl,_,_,_,rfl,hA,hK'⟩
 .symm;exact⟨rfl,_,_,_,rfl,hA,hK'⟩
theorem R4{cd:Fn}(hd:DrawD cd){gs:List (List GS)}{ms:List Sy}{K r:Nat}{S0:List Ob}{a0 a1:Option Sl}:∀(l:List D) (ms':List Sy) (S:List Ob) (e4 e5:Option Sl),Alk gs ms ms'->StK K (r+l.length) S0 S->
 L2.W (Bv (As 4) (tnB cd) l) ⟨[a0,a1,vw (.obj K),some (.own (dsS gs (z0 gs) ms')),e4,e5],S⟩ λo t=>o=.next/\∃ms2 f4 f5 S',t=⟨[a0,a1,vw (.obj K),some (.own (dsS gs (z0 gs) ms2)),f4,f5],S'⟩/\Alk gs ms ms2/\StK K r S0 S'
 |[],ms',S,e4,e5,hA,hK=>W_forL_nil.mpr ⟨rfl,ms',e4,e5,S,rfl,hA,hK⟩
 |d::l,ms',S,e4,e5,hA,hK=>by
   rw[BO];symm;refine(W8 hd hA (r:=r+l.length) hK).mono λo t z9=>?_;clear 5 z9 z1 ms2 f5 S' z2 z3 z4;subst z1 z2;exact R4 hd l ms2 S' _ f5 z3 z4
def Ny(f:Fn):Prop:=∀(gs:List (List GS)) (ms:List Sy) (K r:Nat) (S0 S:List Ob),okS gs (z0 gs) ms->GdS ms->StK K (r+20) S0 S->Wf f [gsD gs,.lst (dsS gs (z0 gs) ms),.obj K] S λq S'=>∃ms2,q=.lst (dsS gs (z0 gs) ms2)/\Alk gs ms ms2/\StK K r S0 S'
theorem Pd(hd:DrawD cd):Ny (fnOf 3 6 (DV cd)):=by
 intro gs ms K r S0 S hok hq hK;have hL:LIM=100000:=rfl;refine Am rfl ?_;unfold DV;symm;refine(R4 hd _ ms S _ _ ⟨hok,hq,λ_=>rfl⟩ hK).mono λo t z9=>?_;clear 5 z9 z1 ms2 f4 f5 S' z2 z3 z4;subst z1 z2;refine CK ?_;symm;exact⟨ms2,rfl,z3,z4⟩
def LU(f:Fn):Prop:=∀(g:List GS) (mv:List Mv) (S:List Ob) (K:Nat),GOk g->okQ g 0 mv->mv.length<=60000->S[K]?=some (.lst (AR g 0 mv))->PureS S f [.lst (g.map GS.d),.obj K] (.lst (Cl g 0 mv))
theorem W2(hn:Gx cn)(hp:GP cp):LU (fnOf 2 7 (Hc cn cp)):=by
 intro g mv S K hg hk hl hT;have hL:LIM=100000:=rfl;refine Am rfl ?_;unfold Hc;left;refine US hT ?_;left;rw[Ek];refine DJ (By (by lia) (by lia)) ?_;refine DL (λr t=>∃(j:Nat) (e4 e5 e6:Option Sl),j<=mv.length/\r=(AH 0 ((mv.length:Nat):Int).toNat).drop j/\t=⟨[vw (.lst (g.map GS.d)),vw (.obj K),vw (.int (AM g 0 (mv.take j))),some (.own (Cl g 0 (mv.take j))),e4,e5,e6],S⟩) _ _ ⟨0,none,none,none,un6 _,rfl,rfl⟩ ?_ ?_
 .rintro d' r t ⟨j,e4,e5,e6,hj,hr,rfl⟩ _;clear 5(Jj hr)rfl hr' hjm;rw[ug5] at hjm;rw[un3];have hlt:=N1 hg hg.ne (Ty hk j);obtain⟨p,v,hpv⟩:∃p v,mv[j]=(p,v):=⟨_,_,rfl⟩;have em:mv[j]?=some (p,v):=by rw[ub2 hjm,hpv]
  have hmv:=N5 hk em;have hmsg:atI (AR g 0 mv) (j:Int)=some (Gs g (AM g 0 (mv.take j)) p v):=by
   unfold atI;rw[BA (by lia) (by rw[Ek];lia)];show(AR g 0 mv)[(j:Int).toNat]?=_;rw[ug5,HX g 0 mv j p v em]
  have htk:mv.take (j+1)=mv.take j++[(p,v)]:=by rw[List.take_succ_eq_append_getElem hjm,hpv]
  left;refine AG (Cv hlt) ?_;left;refine W_ix_obj.mpr ⟨_,hT,_,hmsg,?_⟩;left;refine(hp g _ p v hg hmv).use ?_;left;refine Bc (by rw[Fs,uh4,hL];lia) ?_;left;refine(hn g _ p hg hlt hmv.pl).use ?_;left;refine⟨j+1,_,_,_,hjm,hr',t7 ?_ ?_⟩
  .rw[htk,Li];rfl
  .rw[htk,Ka];rfl
 .rintro t ⟨j,e4,e5,e6,hj,hr,rfl⟩;have hz:=gP List.length hr;rw[uk0,uh5,ES,ug5] at hz;have hje:j=mv.length:=by lia
  subst hje;rw[ui6];left;exact⟨rfl,rfl⟩
def Jv(f:Fn):Prop:=∀(g:List GS) (mv:List Mv) (S:List Ob) (T0:Nat),S[T0]?=some (.lst (AR g 0 mv))->GOk g->okQ g 0 mv->mv.length<=60000->(AB g sL 0 mv).length<=25000->(AB g sR 0 mv).length<=25000->Wf f [.lst (g.map GS.d),.obj T0] S λr S'=>∃K A B,r=.tup [.obj A,.obj B]/\Wr K A B S' (AB g sL 0 mv) (AB g sR 0 mv)/\Gr S S'/\S.length<=A/\S.length<=B
theorem Xn{cs:Fn}(hm:Ir cm)(hs:LU cs):Jv (fnOf 2 6 (Hd cm cs)):=by
 intro g mv S T0 hT hg hk hlen hll hlr;have hL:LIM=100000:=rfl;refine Am rfl ?_;unfold Hd;left;refine LM ?_;refine BW ?_;left;refine BW ?_;left;refine Gj ?_;refine⟨by simp,by show 2<=15;decide,?_⟩;obtain⟨S1,hS1⟩:∃S1:List Ob,S1=(S++[Ob.dct []]++[Ob.lst []]++[Ob.lst []]).set S.length (.dct (Ej [(kL,.obj (S++[Ob.dct []]).length),(kRt,.obj (S++[Ob.dct []]++[Ob.lst []]).length)])):=⟨_,rfl⟩;have w0:Wr S.length (S++[Ob.dct []]).length (S++[Ob.dct []]++[Ob.lst []]).length S1 [] []:=by
  rw[hS1,My];refine⟨IA (o:=.dct []) (by simp),?_,?_,by simp,by simp,by simp⟩
  .rw[ud8 (by simp)];simp
  .rw[ud8 (by simp)];simp
 have hFS:Gr S S1:=by
  rw[hS1];exact Gr.set ((Gr.app.trans Gr.app).trans Gr.app) (un5 _)
 have hne:S.length<=(S++[Ob.dct []]).length/\S.length<=(S++[Ob.dct []]++[Ob.lst []]).length:=by
  simp only[uf4,uh2,uk0];exact⟨by lia,by lia⟩
 refine CK ?_;show W _ ⟨[vw (.lst (g.map GS.d)),vw (.obj T0),vw (.obj S.length),none,none,none],(S++[Ob.dct []]++[Ob.lst []]++[Ob.lst []]).set S.length (.dct (Ej [(kL,.obj (S++[Ob.dct []]).length),(kRt,.obj (S++[Ob.dct []]++[Ob.lst []]).length)]))⟩ _;rw[<-hS1];clear hS1;generalize (S++[Ob.dct []]++[Ob.lst []]).length=B at w0 hne;generalize (S++[Ob.dct []]).length=A at w0 hne;generalize hSK:S.length=K at w0⊢;left;refine(hs g mv S1 T0 hg hk (by lia) (hFS.get hT)).use ?_;left;rw[Fs];refine DJ (By (by lia) (by lia)) ?_;refine DL (λr t=>∃(j:Nat) (S':List Ob) (e4 e5:Option Sl),j<=mv.length/\r=(AH 0 ((mv.length:Nat):Int).toNat).drop j/\Wr K A B S' (AB g sL 0 (mv.take j)) (AB g sR 0 (mv.take j))/\Gr S S'/\t=⟨[vw (.lst (g.map GS.d)),vw (.obj T0),vw (.obj K),vw (.lst (Cl g 0 mv)),e4,e5],S'⟩) _ _ ⟨0,S1,none,none,by lia,rfl,w0,hFS,rfl⟩ ?_ ?_
 .rintro d' r t ⟨j,S',e4,e5,hjl,hr,hw,hF',rfl⟩ _;clear 5(Jj hr)rfl hr' hjn;rw[ug5] at hjn;rw[un3]
  cases em:mv[j]? with
  |none=>rw[ub1] at em;lia
  |some x=>
  clear 5 x p v;have hm':=N5 hk em;have htk:mv.take (j+1)=mv.take j++[(p,v)]:=by
   rw[List.take_succ,em];rfl
  have hsi:atI (Cl g 0 mv) j=some (.tup [.int (AM g 0 (mv.take j)),.int p]):=by
   unfold atI;rw[BA (by lia) (by rw[Fs];lia)];show(Cl g 0 mv)[(j:Int).toNat]?=_;rw[ug5,Kb g 0 mv j p v em]
  have hmi:atI (AR g 0 mv) j=some (Gs g (AM g 0 (mv.take j)) p v):=by
   unfold atI;rw[BA (by lia) (by rw[Ek];lia)];show(AR g 0 mv)[(j:Int).toNat]?=_;rw[ug5,HX g 0 mv j p v em]
  have hside:=WZ hg hm';have lA:=Gk g sL mv j;have lB:=Gk g sR mv j;have lA':=Gk g sL mv (j+1);have lB':=Gk g sR mv (j+1);have nA:AB g sL 0 (mv.take (j+1))=AB g sL 0 (mv.take j)++(if (AL g (AM g 0 (mv.take j))).side=sL then D.int p::Aq (wdAt g (AM g 0 (mv.take j)) p).2.1 v else []):=by
   rw[htk,E8,AB,AB,uj3]
  have nB:AB g sR 0 (mv.take (j+1))=AB g sR 0 (mv.take j)++(if (AL g (AM g 0 (mv.take j))).side=sR then D.int p::Aq (wdAt g (AM g 0 (mv.take j)) p).2.1 v else []):=by
   rw[htk,E8,AB,AB,uj3]
  have hbd:(Aq (wdAt g (AM g 0 (mv.take j)) p).2.1 v).length<=25000:=by
   rcases hside with h|h
   .rw[nA,gW h,uf4,uh2] at lA';lia
   .rw[nB,gW h,uf4,uh2] at lB';lia
  generalize hq:AM g 0 (mv.take j)=q at *;have hix:∀(t:T) (P:D->T->Prop),P (.str (AL g q).side) t->W (ixD (AL g q).d (.int 0)) t P:=λt P h=>by
   cases e:AL g q with
   |fin=>rw[e] at h;rw[GS.d];exact DH Jw h
   |st s w=>rw[e] at h;rw[GS.d];exact DH Jw h
  left;refine AG hsi ?_;left;refine AG (Cv hm'.lt) ?_;left;obtain⟨C,xs,hCn,hC,hxl,hget,hnew⟩:∃(C:Nat) (xs:List D),S.length<=C/\S'[C]?=some (.lst xs)/\xs.length<=25000/\B5 [(kL,.obj A),(kRt,.obj B)] (.inr (AL g q).side)=some (.obj C)/\Wr K A B (S'.set C (.lst (xs++D.int p::Aq (wdAt g q p).2.1 v))) (AB g sL 0 (mv.take (j+1))) (AB g sR 0 (mv.take (j+1))):=by
   rcases hside with h|h
   .refine⟨A,_,hne.1,hw.a,by lia,by rw[h];exact KG,?_⟩;rw[nA,nB,gW h,gX (by rw[h];exact sLR),uj3];exact hw.setA
   .refine⟨B,_,hne.2,hw.b,by lia,by rw[h];exact KH,?_⟩;rw[nA,nB,gW h,gX (by rw[h];exact Ne.symm sLR),uj3];exact hw.setB
  refine LN (k:=C) ?_;left;refine hix _ _ ?_;refine Bu hw.k hget ?_;refine⟨rfl,_,hC,?_⟩;left;refine AG hsi ?_;left;refine W_ix_obj.mpr ⟨_,hF'.get hT,_,hmi,?_⟩;unfold Gs;left;refine(hm g q p v hg hm' (by lia)).use ?_;left;refine⟨xs,_,hC,gW (by rw[hL,uh2];lia),?_⟩;exact⟨j+1,_,_,_,hjn,hr',hnew,hF'.set hCn,rfl⟩
 .rintro t ⟨j,S',e4,e5,hjl,hr,hw,hF',rfl⟩;have hj':j=mv.length:=by
   have:=gP List.length hr;rw[uk0,uh5,ES,ug5] at this;lia
  subst hj';rw[ui6] at hw;left;refine Bu hw.k KG ?_;left;refine Bu hw.k KH ?_;left;exact⟨K,A,B,rfl,hw,hF',by rw[<-hSK];exact hne.1,by rw[<-hSK];exact hne.2⟩
def flD(gs:List (List GS))(out:Nat):List Nat->List Sy->List D
 |_,[]=>[]
 |hs,m::r=>if m.1=out then flD gs out (nxH gs hs m) r else syD gs hs m::flD gs out (nxH gs hs m) r
abbrev fl(out:Nat)(ms:List Sy):List Sy:=ms.filter λm=>!(m.1==out)
theorem X3{out:Nat}(h:m.1=out):fl out (m::r)=fl out r:=fU (by simp[h])
theorem ZQ{out:Nat}(h:m.1≠out):fl out (m::r)=m::fl out r:=fT (by simp[h])
theorem O2{gs:List (List GS)}{out:Nat}:∀(ms:List Sy) (hs hs':List Nat),hs.length=gs.length->hs'.length=gs.length->(∀k,k≠out->hAt hs k=hAt hs' k)->okS gs hs ms->dsS gs hs' (fl out ms)=flD gs out hs ms/\∀s,(wS gs s hs' (fl out ms)).length<=(wS gs s hs ms).length
 |[],hs,hs',_,_,_,_=>⟨rfl,λs=>un5 _⟩
 |m::r,hs,hs',l1,l2,he,⟨h1,h2⟩=>by
   by_cases q:m.1=out
   .clear 5(O2 (out:=out) r (nxH gs hs m) hs' ((El ..).trans l1) l2 (λk hk=>by rw[CU (by lia) (by lia)];exact he k hk) h2)a b;rw[X3 q,flD,gW q];refine⟨a,λs=>?_⟩;rw[wS,uf4];have:=b s;lia
   .have e:=he m.1 q;have e2:∀k,k≠out->hAt (nxH gs hs m) k=hAt (nxH gs hs' m) k:=λk hk=>by
     rw[E3 (by lia),E3 (by lia),e,he k hk]
    clear 5(O2 (out:=out) r (nxH gs hs m) (nxH gs hs' m) ((El ..).trans l1) ((El ..).trans l2) e2 h2)a b;rw[ZQ q,flD,gX q];refine⟨?_,λs=>?_⟩
    .rw[dsS,a];unfold syD sayD;rw[e]
    .rw[wS,wS,uf4,uf4];have:=b s;have e3:byS gs s hs' m=byS gs s hs m:=by unfold byS sdS pbS;rw[e]
     rw[e3];lia
theorem UD{out k:Nat}(ms:List Sy):tkS k (fl out ms)=if k=out then [] else tkS k ms:=by
 unfold tkS fl;rw[List.filter_filter]
 by_cases q:k=out
 .subst q;rw[gW rfl,List.filter_eq_nil_iff.mpr (by intro a _;simp)];rfl
 .rw[gX q]
  congr 1
  refine List.filter_congr λx _=>?_
  by_cases y:x.1=k
  .simp[y,q]
  .simp[y]
theorem UC{out:Nat}(h:okS gs (z0 gs) ms):okS gs (z0 gs) (fl out ms):=by
 have hz:(z0 gs).length=gs.length:=uc7;clear 5((EQ _ _ hz).mp h)h1 h2;refine(EQ _ _ hz).mpr ⟨λm hm=>h1 m ((ui8.mp hm).1),λk=>?_⟩;rw[UD]
 split
 .exact trivial
 .exact h2 k
theorem O3{out:Nat}(h:GdS ms):GdS (fl out ms):=⟨um3 (ud5 ..) h.len,λm hm=>h.vz m ((ui8.mp hm).1)⟩
theorem Kw{gs:List (List GS)}{out:Nat}{S:List Ob}:∀(ms:List Sy) (hs:List Nat) (z:Option Sl),L2.W (Bf (As 0) (Aj (Ac (Ac (Ab 0) (ee 0) ixD) (Ab 1) (eqS λb=>!b))) (Ab 0) (dsS gs hs ms)) ⟨[z,vw (.int (out:Nat))],S⟩ λr t'=>r=flD gs out hs ms/\t'.S=S
 |[],hs,z=>W_compL_nil.mpr ⟨rfl,rfl⟩
 |m::r,hs,z=>by
   rw[dsS,A7];unfold syD sayD;symm;rw[flD]
   by_cases q:m.1=out
   .rw[gW q,gX (by simp[q])];exact Kw r _ _
   .rw[gX q,gW (by simp;lia)];symm;refine(Kw r (nxH gs hs m) _).mono λxs t' z9=>?_;clear 5 z9 e1 e2;subst e1;exact⟨rfl,e2⟩
def tks(gs:List (List GS))(ms:List Sy):List (List D):=(List.range gs.length).map λk=>AR (gAt gs k) 0 (tkS k ms)
theorem W7(gs:List (List GS))(ms:List Sy):(tks gs ms).length=gs.length:=by unfold tks;rw[uj1,ug8]
theorem Yf(hl:hd.length=gs.length)(h:∀k,k<gs.length->hd.getD k []=AR (gAt gs k) 0 (tkS k ms)):hd=tks gs ms:=by
 refine List.ext_getElem? λk=>?_;unfold tks;rw[ug2]
 by_cases q:k<gs.length
 .have:=h k q;rw[ua7,ub2 (by lia)] at this;rw[ue8 q,ub2 (by lia)];exact gP some this
 .rw[ud4 (by lia),ud4 (by rw[ug8];lia)];rfl
theorem Sb{g:Bool->Bool}{L:List D}{a b:Int}(g9:gs.length<=9)(l25:ms.length<=25)(hH:HrdAt t.S H hs (tks gs ms))(hm:AllMg (tks gs ms))(hL:L.map (AF t.S 14)=(tks gs ms).map D.lst)(h:P (.bl (g true)) t):L2.W (eqO g (.tup [.obj H,.tup [.int a,.int b]]) (.tup [.lst L,.tup [.int a,.int b]])) t P:=by
 refine cB (d:=.tup [.lst ((tks gs ms).map D.lst),.tup [.int a,.int b]]) ?_ ?_ ?_ h
 .show D.tup [AF t.S (4+9+2) (.obj H),.tup [.int a,.int b]]=_;rw[hH.res hm 9]
 .show D.tup [.lst (L.map (AF t.S 14)),.tup [.int a,.int b]]=_;rw[hL]
 .have h1:nvO 6 (.lst ((tks gs ms).map D.lst))=true:=Tk hm (by rw[W7];lia) λi=>by
   unfold tks;rw[ua7,ug2]
   cases (List.range gs.length)[i]? with
   |none=>exact un6 _
   |some k=>
     show(AR (gAt gs k) 0 (tkS k ms)).length<=1000;rw[Ek];unfold tkS;rw[uj1];have:=ud5 (λx:Sy=>x.1==k) ms;lia
  rw[nvO,uh6,ug9,ui1];refine⟨by show 2<=1000;decide,λx hx=>?_⟩;rcases ul2.mp hx with rfl|hx
  .exact ID h1 9
  .rw[uf7] at hx;subst hx;rfl
theorem aF{g:Bool->Bool}{A A' B':Nat}{a b:List D}(ha:isI a)(hb:isI b)(eA:t.S[A]?=some (.lst a))(eB:t.S[B]?=some (.lst b))(eA':t.S[A']?=some (.lst a))(eB':t.S[B']?=some (.lst b))(h:P (.bl (g true)) t):L2.W (eqO g (.tup [.obj A,.obj B]) (.tup [.obj A',.obj B'])) t P:=by
 refine PQ (d:=.tup [.lst a,.lst b]) ?_ ?_ ?_ ?_ h
 .show D.tup [AF t.S (14+1) (.obj A),AF t.S (14+1) (.obj B)]=_;rw[AF,eA,AF,eB];dsimp only;rw[Cb ha,Cb hb]
 .show D.tup [AF t.S (14+1) (.obj A'),AF t.S (14+1) (.obj B')]=_;rw[AF,eA',AF,eB'];dsimp only;rw[Cb ha,Cb hb]
 .show(Ed a&&(Ed b&&true))=true;rw[Ec ha,Ec hb];rfl
 .refine J4 (n:=15) λx hx=>?_;rcases ul2.mp hx with rfl|hx
  .exact Fy ha
  .rw[uf7] at hx;subst hx;exact Fy hb
theorem Jp{g:List GS}(hg:GOk g)(sd:Str):∀(mv:List Mv) (q:Nat),okQ g q mv->isI (AB g sd q mv)
 |[],q,_=>λx hx=>(nomatch hx)
 |(p,v)::r,q,⟨h1,h2⟩=>by
   have hwd:=Dp hg h1.lt h1.pl;rw[AB];refine Vw ?_ (Jp hg sd r _ h2)
   split
   .intro x hx;rcases ul2.mp hx with rfl|hx
    .exact⟨_,rfl⟩
    .exact JQ (EE 3 _ hwd.dep hwd.ok v h1.fit) x hx
   .exact λx hx=>(nomatch hx)
theorem exW(hg:∀g∈gs,GOk g)(g9:gs.length<=9){ms:List Sy}(hok:okS gs (z0 gs) ms)(hl:∀s,(wS gs s (z0 gs) ms).length<=25000):∃w:Bool->List Nat,(∀s,wD (w s)=wS gs s (z0 gs) ms)/\Ok2 gs w/\∀s,OD (w s):=by
 clear 5(Mt (F8 hg g9 true ms _ hok))a ea ba;clear 5(Mt (F8 hg g9 false ms _ hok))b eb bb;have e:∀s:Bool,wD (if s=true then a else b)=wS gs s (z0 gs) ms:=λs=>by cases s;exact eb.symm;exact ea.symm
 refine⟨λs=>if s=true then a else b,e,⟨hg,g9,λs=>?_⟩,λs=>by cases s;exact bb;exact ba⟩;have:=hl s;rw[<-e s,E7] at this;exact this
theorem Yd(hg:∀g∈gs,GOk g):eqN EQD (gsD gs) (gsD gs)=some true:=by
 unfold gsD;refine GH (n:=10) (λx hx=>?_) 40 (by decide);clear 5(un0.mp hx)g hg1 rfl;refine GH (n:=9) λx hx=>?_;clear 5(un0.mp hx)s hs rfl;exact λm hm=>XI ((hg g hg1).all s hs) hm
theorem WC(hg:∀g∈gs,GOk g){hs:List Nat}{ds:List D}{n:Nat}(h:SaidV gs hs ds n):Rq 6 (.lst ds):=by
 refine GH λd hd=>?_;clear 5(h.k d hd)i p v hs' e hi ho hm hz;have hwd:=Dp (Dd hg hi) hm.lt hm.pl;rw[e];unfold sayD;refine J4 (n:=4) λx hx=>?_;simp only[ul2,ui2,gR] at hx;rcases hx with rfl|rfl|rfl|rfl
 .exact Ij
 .exact J3
 .exact J3
 .exact J2 4 _ (ID (EJ 3 _ hwd.dep hwd.ok _ hm.fit) 1)
theorem Qk{gs:List (List GS)}:∀(ms:List Sy) (hs:List Nat) (m:Sy),m∈ms->∃hs',syD gs hs' m∈dsS gs hs ms
 |[],hs,m,h=>(nomatch h)
 |x::r,hs,m,h=>by
   rcases ul2.mp h with rfl|h
   .exact⟨hs,uf1⟩
   .clear 5(Qk r (nxH gs hs x) m h)hs' q;exact⟨hs',ud6 _ q⟩
theorem Rv(hT:TkO S gs n0 λk=>.lst (AR (gAt gs k) 0 (tkS k ms)))(hm:AllMg (tks gs ms)){k:Nat}(hk:k<gs.length):AF S 14 (.obj (n0+k))=.lst (AR (gAt gs k) 0 (tkS k ms)):=by
 show AF S (13+1) (.obj (n0+k))=_;rw[AF,hT.at' k hk];dsimp only;have:=hm k;unfold tks at this;rw[ua7,ug2,ue8 hk] at this;exact gP D.lst (M0 (l:=AR (gAt gs k) 0 (tkS k ms)) this 9)
theorem TkO.gr{f:Nat->Ob}(h:TkO S gs n0 f)(g:Gr S S'):TkO S' gs n0 f:=⟨λk hk=>g.get (h.at' k hk)⟩
theorem TkO.kp{f:Nat->Ob}(h:TkO S gs n0 f)(g:Kp K S S')(hK:n0+gs.length<=K):TkO S' gs n0 f:=⟨λk hk=>g.get (h.at' k hk) (by lia)⟩
def woB(Gm:Fn):M Out:=
 (ifS (Aj (Ac (Af Gm (Aa (Ab 8) (Aa (Ac (Ab 5) (Ab 7) ixD) Ad))) (AN (Aa (Ac (Ac (Ab 6) (Ab 7) ixD) (fC (.str "left")) AX) (Aa (Ac (Ac (Ab 6) (Ab 7) ixD) (fC (.str "right")) AX) Ad))) (eqO λb=>!b)))
 (Al (fC (.bl false)))
 Ap)
theorem Sm{c:Fn}(hc:Jv c){gs:List (List GS)}{ms:List Sy}{n1 n2:Nat}{a0 a2 a3 a4 a9 a10 a11 a12:Option Sl}(hg:∀g∈gs,GOk g)(hok:okS gs (z0 gs) ms)(hq:GdS ms)(hl:∀s,(wS gs s (z0 gs) ms).length<=25000):∀(r a:List (List GS)) (S:List Ob) (e7 e8:Option Sl),gs=a++r->(TkO S gs n1 λk=>.lst (AR (gAt gs k) 0 (tkS k ms)))->TkO S gs n2 (prO gs ms)->
 L2.W (Bv (unS 2 (AO (As 7) (AO (As 8) DE))) (woB c) (Eo a.length (r.map λg=>.lst (g.map GS.d)))) ⟨[a0,vw (gsD gs),a2,a3,a4,vw (.lst ((List.range' n1 gs.length).map D.obj)),vw (.lst ((List.range' n2 gs.length).map D.obj)),e7,e8,a9,a10,a11,a12],S⟩ λo t=>o=.next/\∃f7 f8 S',t=⟨[a0,vw (gsD gs),a2,a3,a4,vw (.lst ((List.range' n1 gs.length).map D.obj)),vw (.lst ((List.range' n2 gs.length).map D.obj)),f7,f8,a9,a10,a11,a12],S'⟩/\Gr S S'
 |[],a,S,e7,e8,e,h1,h2=>W_forL_nil.mpr ⟨rfl,e7,e8,S,rfl,.refl⟩
 |g::r,a,S,e7,e8,e,h1,h2=>by
   have hz:(z0 gs).length=gs.length:=uc7;have hk:a.length<gs.length:=by rw[e];simp
   have eg:gAt gs a.length=g:=by unfold gAt;rw[e,ua7,ua5 (un5 _),un2];rfl
   have hgo:GOk g:=hg g (by rw[e];simp);have hoq:=((EQ _ _ hz).mp hok).2 a.length;rw[Ki,eg] at hoq;have t1:=h1.at' a.length hk;have t2:=h2.at' a.length hk;rw[eg] at t1;unfold prO at t2;rw[eg] at t2;have l:=λs=>um3 (K3 s a.length ms _ hz hok) (hl s);have wl:=l true;have wr:=l false;rw[Ki,eg] at wl wr;rw[ul3,Eo,BO];unfold woB;symm;refine AG (F1 hk) ?_;symm;refine(hc g _ S _ t1 hgo hoq ?_ wl wr).mono λq S1 ⟨K,A,B,eq,W1,G1,_⟩=>?_
   .unfold tkS;rw[uj1];have:=ud5 (λx:Sy=>x.1==a.length) ms;have:=hq.len;lia
   subst eq;symm;refine AG (F1 hk) ?_;symm;refine Bu (G1.get t2) (lrF (λs=>.lst (AB g (sd s) 0 (tkS a.length ms))) true) ?_;symm;refine AG (F1 hk) ?_;symm;refine Bu (G1.get t2) (lrF (λs=>.lst (AB g (sd s) 0 (tkS a.length ms))) false) ?_;symm;refine cA (Jp hgo _ _ _ hoq) (Jp hgo _ _ _ hoq) W1.a W1.b ?_;symm;have:=Sm (a0:=a0) (a2:=a2) (a3:=a3) (a4:=a4) (a9:=a9) (a10:=a10) (a11:=a11) (a12:=a12) hc hg hok hq hl r (a++[g]) S1 (vw (.int (a.length:Nat))) (vw (.lst (g.map GS.d))) (by rw[ug4];exact e) (h1.gr G1) (h2.gr G1);rw[uf4] at this;exact this.mono λo t ⟨z1,f7,f8,S',z2,z3⟩=>⟨z1,f7,f8,S',z2,G1.trans z3⟩
theorem OW{gs:List (List GS)}{n1 out:Nat}{S:List Ob}:∀(l:List Nat) (z:Option Sl),(∀k∈l,k<gs.length)->L2.W (Bf (As 0) B4 (fIf (Aj (Ac (Ab 0) (Ab 1) (eqS λb=>!b))) (Ac (Ab 2) (Ab 0) ixD) (Ax (AK Ad))) (l.map λk:Nat=>D.int (k:Int))) ⟨[z,vw (.int (out:Nat)),vw (.lst ((List.range' n1 gs.length).map D.obj))],S⟩ λr t'=>r=(l.map λk=>if k=out then D.lst [] else .obj (n1+k))/\t'.S=S
 |[],z,_=>W_compL_nil.mpr ⟨rfl,rfl⟩
 |k::l,z,h=>by
   have hk:=h k uf1;rw[ul3,A7];refine Ee (Ga ?_);rw[gW rfl];symm
   by_cases q:k=out
   .refine CW (by simp[q]) ?_;symm;refine(OW l _ λx hx=>h x (ud6 _ hx)).mono λxs t' z9=>?_;clear 5 z9 e1 e2;subst e1;exact⟨by rw[ul3,gW q],e2⟩
   .refine EL (by simp;lia) ?_;symm;refine AG (F1 hk) ?_;symm;refine(OW l _ λx hx=>h x (ud6 _ hx)).mono λxs t' z9=>?_;clear 5 z9 e1 e2;subst e1;exact⟨by rw[ul3,gX q],e2⟩
theorem Pv{f:Nat->D}:((List.range' n0 n).map f)=(List.range n).map λk=>f (n0+k):=by
 rw[List.range'_eq_map_range,un1];rfl
theorem ad(n:Nat):AH 0 n=(List.range n).map λk:Nat=>D.int (k:Int):=by
 unfold AH;refine ue7 λk _=>?_
 congr 1
 lia
theorem Oz{k:Nat}(e:t.S[k]?=some (.lst ds))(h:Q ds t):L2.W (FM [.obj k]) t Q:=⟨_,_,by simp only[FM,e],h⟩
theorem Zh{r:Nat}{S0:List Ob}(h:StK K r S0 S)(g:Gr S S'):StK K r S0 S':=by
 clear 5 h k s hK b;exact⟨k.trans g.kp,s,g.get hK,b⟩
noncomputable def d3:D->D
 |.tup [_,_,_,v]=>v
 |_=>.non
def b9(gs:List (List GS))(k q p:Nat)(v:D):D:=.tup [.int (k:Nat),.str (AL (gAt gs k) q).side,.str (wdAt (gAt gs k) q p).1,v]
def psS(gs:List (List GS)):List Nat->List Sy->List (Sy×D)
 |_,[]=>[]
 |hs,m::r=>(m,syD gs hs m)::psS gs (nxH gs hs m) r
def hd9(k:Nat)(d:D):Prop:=∃a b c,d=.tup [.int (k:Nat),a,b,c]
structure TrS(gs:List (List GS))(a:List Sy)(L:List (Sy×D)):Prop where
 len:L.length=a.length
 fl:∀k,L.filter (λx=>x.1.1==k)=(psS gs (z9 gs) a).filter (λx=>x.1.1==k)
 hd:∀x∈L,hd9 x.1.1 x.2
 lt:∀x∈L,x.1.1<gs.length
structure Told(S:List Ob)(gs:List (List GS))(H:Nat)(hs:List Nat)(a:List Sy):Prop where
 ih:S[H]?=some (.lst (hs.map .obj))
 hl:hs.length=gs.length
 hh:∀(i h:Nat),hs[i]?=some h->S[h]?=some (.lst (AR (gAt gs i) 0 (tkS i a)))
def tuQ(gs:List (List GS))(x:Nat×Sy):D:=b9 gs x.2.1 x.1 x.2.2.1 x.2.2.2
structure AhS(gs:List (List GS))(S0 S:List Ob)(a:List Sy):Prop where
 gr:Gr S0 S
 a0:∀s,S[if s=true then S0.length else S0.length+1]?=some (.lst ((evS gs s (z9 gs) a).map (tuQ gs)))
theorem VL(hg:∀g∈gs,GOk g){w:Bool->List Nat}{ms:List Sy}(hok:okS gs (List.replicate gs.length 0) ms)(hw:∀s,wD (w s)=wS gs s (List.replicate gs.length 0) ms):∀τ,Run gs w (ls0 gs) τ->∀s j,τ.nx gs w s≠.brk j:=by
 intro τ r s j z;have h0:(gs.map λ_=>0)=List.replicate gs.length 0:=by rw[List.map_const']
 clear 5(Jk hg ms (ls0 gs) (List.replicate gs.length 0) h0 uc7 (uj1 ..) hok (λs=>⟨[],[],by rw[hw,uj3];rfl,rfl⟩))τ' a1 a2 a3 a4;have hp:∀s,τ'.p s=(w s).length:=λs=>by
  rw[a2 s,<-hw,E7];show 0+_=_;lia
 have hx:∀s,τ'.nx gs w s=.stop:=λs=>by
  unfold Ls.nx;exact Jg (by rw[hp];exact ud4 (un5 _))
 have:=Qa z (Zo r a1 λs k m th e q=>by rw[hx s] at q;cases q)
 rw[hx s] at this
 cases this
def ZE(f:Fn):Prop:=∀(gs:List (List GS)) (ms:List Sy) (x:Bool->D) (S:List Ob),(∀g∈gs,GOk g)->gs.length<=9->okS gs (List.replicate gs.length 0) ms->(∀s,(wS gs s (List.replicate gs.length 0) ms).length<=25000)->(∀s,x s=.lst (wS gs s (List.replicate gs.length 0) ms)\/∃k,x s=.obj k/\S[k]?=some (.lst (wS gs s (List.replicate gs.length 0) ms)))->Wf f [gsD gs,x true,x false] S λq S'=>Gr S S'/\AllMg (tks gs ms)/\∃H hs,q=.tup [.obj H,.tup [.int ((wS gs true (List.replicate gs.length 0) ms).length:Nat),.int ((wS gs false (List.replicate gs.length 0) ms).length:Nat)]]/\HrdAt S' H hs (tks gs ms)
theorem SA{f:Fn}(hf:OE f):ZE f:=λgs ms x S hg g9 hok hl hx=>by
 clear 5(exW hg g9 hok hl)w ew ow bw;refine(hf S gs w x ow (λs=>?_) (VL hg hok ew)).mono λr S' ⟨G,σ,H,hs,hE,e1,e2⟩=>?_
 .rcases hx s with e|⟨k,e1,e2⟩
  .exact .inl (by rw[e,ew])
  .exact .inr ⟨k,e1,B8 e2,by rw[e2,ew]⟩
 .clear 5(SR hg hok ew hE)q1 q2 q3 q4;have e:=Yf q3 q4;have hm:=hE.msgs hg bw;rw[e] at hm e2;rw[q2,q2,<-E7,<-E7,ew,ew] at e1;exact⟨G,hm,H,hs,e1,e2⟩
theorem Yq{cg csd ctb cwb ctn cst cwo cpt ctk:Fn}(hgr:So cg)(hsd:OJ csd)(htb:OE ctb)(hwv:WBv cwb)(hd:DrawD cd)(htn:Ny ctn)(hst:D1 cst)(hwo:Jv cwo)(hpt:Nx cpt)(htk:P3 ctk){ns:List Int}(hn:ns.length<=63):Wf (fnOf 1 13 (FP cg csd ctb cwb cd ctn cst cwo cpt ctk)) [.scr ns] [] λq _=>q=.bl true:=by
 clear 5(hgr ns hn)gs g1 g9 hgn hgd;have hg:∀g∈gs,GOk g:=λg h=>(hgn g h).ok;clear 5(hsd ns gs hn hg g1 g9)hs ds n sv n15 l25 wsd;clear 5(hst ns 1 hn (by lia))sx b hsx;have hrq:=WC hg sv;clear 5 sv.s.front.sy ms hok eds hwl;have hq:GdS ms:=by
  refine⟨by rw[eds,A0] at l25;exact l25,λm hm=>?_⟩;clear 5(Qk (gs:=gs) ms (z0 gs) m hm)hs' hin;rw[<-eds] at hin;obtain⟨i,p,v,hs2,e,_,_,_,hz⟩:=sv.k _ hin;have:d3 (syD gs hs' m)=v:=by rw[e];rfl
  have e2:m.2.2=v:=this;rw[e2];exact hz
 have hwl:(wS gs true (z0 gs) ms).length+(wS gs false (z0 gs) ms).length<=n:=hwl;have hl:∀s,(wS gs s (z0 gs) ms).length<=25000:=λs=>by cases s<;>lia
 have htv:=SA htb;have hz:(z0 gs).length=gs.length:=uc7;subst eds;have hL:LIM=100000:=rfl;refine Am rfl ?_;unfold FP;symm;refine(hgd _).mono λq S1 z9=>?_;clear 5 z9 e1 G1;subst e1;symm;refine(wsd S1).mono λq S2 z9=>?_;clear 5 z9 G2 e1;subst e1;symm;refine(hwv gs ms S2 hg g9 hok hq).mono λq S3 z9=>?_;clear 5 z9 G3 A B ab lA lB e1 eA eB;subst e1;symm;refine(htk gs ms S3 hg g9 hok hq).mono λq S4 z9=>?_;clear 5 z9 G4 e1 T4;subst e1;have eA4:=G4.get eA;have eB4:=G4.get eB;symm;refine Oz eA4 ?_;symm;refine Oz eB4 ?_;symm;refine(htv gs ms (λs=>.lst (wS gs s (z0 gs) ms)) S4 hg g9 hok hl (λs=>.inl rfl)).mono λq S5 z9=>?_;clear 5 z9 G5 hm H hh e1 h5;subst e1;symm;refine FC (G5.get eA4) ?_;symm;refine FC (G5.get eB4) ?_;symm;have T5:=T4.gr G5;refine Sb g9 hq.len h5 hm (by rw[Pv,un1];unfold tks;rw[un1];exact ue7 λk hk=>Rv T5 hm (uk5.mp hk)) ?_;symm;refine(hpt gs ms S5 hg g9 hok hq).mono λq S6 z9=>?_;clear 5 z9 G6 e1 T6;subst e1;symm;refine Zt ?_;symm;refine⟨_,rfl,?_⟩;refine(Sm hwo hg hok hq hl gs [] S6 _ _ rfl (T5.gr G6) T6).mono λo t z9=>?_;clear 5 z9 z1 f7 f8 S7 z2 G7;subst z1 z2;symm;refine(hsx S7).mono λq S8 z9=>?_;clear 5 z9 e1 e2;subst e1 e2;have K0:StK S7.length 900000000000000000000000000000 (S7++[.dct sx.l]) (S7++[.dct sx.l]):=⟨.refl,sx,Ca,b⟩;have eA7:=(G6.trans G7).get (G5.get eA4);have eB7:=(G6.trans G7).get (G5.get eB4);have T7:=(T5.gr G6).gr G7;have n7:S3.length+gs.length<=S7.length:=by
  have:=B8 (T7.at' (gs.length-1) (by lia));lia
 symm;refine(htn gs ms S7.length 5 _ _ hok hq (K0.mono (by lia))).mono λq S9 z9=>?_;clear 5 z9 ms2 e1 hA K9;subst e1;symm;refine(hwv gs ms2 S9 hg g9 hA.ok hA.gd).mono λq S10 z9=>?_;obtain⟨G10,A2,B2,_,_,_,e1,eA2,eB2⟩:=z9;subst e1;symm;refine aF (JQ (F8 hg g9 true ms _ hok)) (JQ (F8 hg g9 false ms _ hok)) (by rw[eA2,hA.w]) (by rw[eB2,hA.w]) (G10.get (K9.1.get (Gr.app.get eA7) (by have:=B8 eA7;lia))) (G10.get (K9.1.get (Gr.app.get eB7) (by have:=B8 eB7;lia))) ?_;unfold gsD;symm;rw[uj1];refine hd.use (gs.length:Int) (r:=4) (Zh K9 G10) (λi S11 h0 h1 K11=>?_) rfl (by lia) (by lia);clear 5(ub4 h0)out rfl;symm;clear 5(O2 (out:=out) ms (z0 gs) (z0 gs) hz hz (λ_ _=>rfl) hok)eF lF;refine(Kw ms (z0 gs) _).mono λxs t' z9=>?_;clear 5 z9 e1 e2;rw[<-eF] at e1;subst e1;refine Bc (by rw[A0,hL];have:=(O3 (out:=out) hq).len;lia) ?_;rw[e2];symm;refine(hwv gs (fl out ms) S11 hg g9 (UC hok) (O3 hq)).mono λq S12 z9=>?_;obtain⟨G12,A3,B3,_,_,_,e1,eA3,eB3⟩:=z9;subst e1;symm;refine DJ (By (by lia) (by rw[uj1];lia)) ?_;rw[ug5,uj1,ad];refine(OW (n1:=S3.length) (out:=out) (gs:=gs) (List.range gs.length) _ λk hk=>uk5.mp hk).mono λxs t' z9=>?_;clear 5 z9 e1 e3;subst e1;refine Bc (by rw[uj1,ug8,hL];lia) ?_;rw[e3];symm;refine(htv gs (fl out ms) (λs=>.obj (if s=true then A3 else B3)) S12 hg g9 (UC hok) (λs=>um3 (lF s) (hl s)) (λs=>.inr ⟨_,rfl,by cases s;exact eB3;exact eA3⟩)).mono λq S13 z9=>?_;clear 5 z9 G13 hm2 H2 hh2 e1 h13;subst e1;symm;refine FC (G13.get eA3) ?_;symm;refine FC (G13.get eB3) ?_;symm;have T13:=(((T7.gr Gr.app).kp K11.1 n7).gr G12).gr G13;refine Sb g9 (O3 hq).len h13 hm2 ?_ ?_
 .rw[un1];unfold tks;rw[un1];refine ue7 λk hk=>?_;show AF S13 14 (if k=out then D.lst [] else .obj (S3.length+k))=.lst (AR (gAt gs k) 0 (tkS k (fl out ms)));rw[UD]
  by_cases q:k=out
  .rw[gW q,gW q];rfl
  .rw[gX q,gX q];exact Rv T13 hm (uk5.mp hk)
 symm;refine(hgd _).mono λq S14 z9=>?_;obtain⟨e1,_⟩:=z9;subst e1;symm;refine⟨_,_,by show eqS id (gsD gs) (gsD gs) _=_;unfold eqS;rw[Yd hg];rfl,?_⟩;symm;refine(wsd S14).mono λq S15 z9=>?_;obtain⟨_,e1⟩:=z9;subst e1;symm;refine aJ hrq (by decide) ?_;symm;rfl
end LW
namespace L2
open PySem PySem.Spec PySem.W
theorem Tx{k:Kd}{P:fh}{w:fj}{K:eh}{mg:Str->Option fc}{base:Heap}{n:Nat}{fa:ff}{fd:fk}{ps:List Str}:okK k P w K mg base n fa fd ps (λ_ _=>none):=by
 cases k<;>exact⟨λvs H Q E h=>(by obtain⟨c,ds,S,_,_,r,S',e,_⟩:=h;cases e),λA' outer s H args us vs Q E _ _ _ _ h=>(by obtain⟨c,ds,S,_,_,r,S',e,_⟩:=h;cases e)⟩
theorem us0{n:Nat}:∀{us:List fc},us.length=n+1->∃a vs,us=a::vs/\vs.length=n
 |_::_,h=>⟨_,_,rfl,un4 h⟩
section
variable{us:List fc}
theorem us1(h:us.length=1):∃a,us=[a]:=by
 clear 5(us0 h)a vs rfl q;exact⟨a,by rw[ua1 q]⟩
theorem us2(h:us.length=2):∃a b,us=[a,b]:=by
 obtain⟨_,vs,rfl,q⟩:=us0 h;obtain⟨_,rfl⟩:=us1 q;exact⟨_,_,rfl⟩
theorem us3(h:us.length=3):∃a b c,us=[a,b,c]:=by
 obtain⟨_,vs,rfl,q⟩:=us0 h;obtain⟨_,_,rfl⟩:=us2 q;exact⟨_,_,_,rfl⟩
theorem us4(h:us.length=4):∃a b c d,us=[a,b,c,d]:=by
 obtain⟨_,vs,rfl,q⟩:=us0 h;obtain⟨_,_,_,rfl⟩:=us3 q;exact⟨_,_,_,_,rfl⟩
theorem us5(h:us.length=5):∃a b c d e,us=[a,b,c,d,e]:=by
 obtain⟨_,vs,rfl,q⟩:=us0 h;obtain⟨_,_,_,_,rfl⟩:=us4 q;exact⟨_,_,_,_,_,rfl⟩
theorem us6(h:us.length=6):∃a b c d e f,us=[a,b,c,d,e,f]:=by
 obtain⟨_,vs,rfl,q⟩:=us0 h;obtain⟨_,_,_,_,_,rfl⟩:=us5 q;exact⟨_,_,_,_,_,_,rfl⟩
theorem us7(h:us.length=7):∃a b c d e f g,us=[a,b,c,d,e,f,g]:=by
 obtain⟨_,vs,rfl,q⟩:=us0 h;obtain⟨_,_,_,_,_,_,rfl⟩:=us6 q;exact⟨_,_,_,_,_,_,_,rfl⟩
end
end L2
namespace K69
open PySem L2 LW
inductive Fx where
 |Cr|AQ|Es|Cq|CV|CS|CT|Ci|CL|BV|BU|B0|CO|DN|Bb|Bz|BE|CY|Bk|Ct|Bx|Ck|C8|DF|C6|C7|Cj|CN|Bd|BF|Bo|B7|BG|Bi|AZ|BQ|BR|CQ|BP|BD|Br|Cp|Cu|Cg|Ch|law_|Ay|Ar|An|Au
noncomputable def top(i:Nat):Stmt:=PySem.Challenge.pw_wireparley_k69_whole_beside_and_back.main.body.getD i (.Pass ⟨0,0,0,0⟩)
noncomputable abbrev nm:Fx->Str
 |.Cr=>"is_number"
 |.AQ=>"is_number_within"
 |.Es=>"fits"
 |.Cq=>"fits_text"
 |.CV=>"is_sign"
 |.CS=>"fits_list"
 |.CT=>"fits_pair"
 |.Ci=>"fits_choice"
 |.CL=>"steps_of"
 |.BV=>"state_next"
 |.BU=>"place_said"
 |.B0=>"place_named"
 |.CO=>"words_of"
 |.DN=>"is_end"
 |.Bb=>"fitting_bytes"
 |.Bz=>"width_up_to"
 |.BE=>"number_bytes"
 |.CY=>"leading"
 |.Bk=>"read_value"
 |.Ct=>"byte_at"
 |.Bx=>"byte_up_to"
 |.Ck=>"read_number"
 |.C8=>"read_text"
 |.DF=>"sign_at"
 |.C6=>"read_list"
 |.C7=>"read_pair"
 |.Cj=>"read_choice"
 |.CN=>"wires_of"
 |.Bd=>"message_bytes"
 |.BF=>"read_message"
 |.Bo=>"wires_beside"
 |.B7=>"place_beside"
 |.BG=>"talks_beside"
 |.Bi=>"_law_state"
 |.AZ=>"_law_draw"
 |.BQ=>"_law_shape"
 |.BR=>"_law_value"
 |.CQ=>"_law_many"
 |.BP=>"_law_bytes"
 |.BD=>"_law_grammar"
 |.Br=>"_law_grammars"
 |.Cp=>"_law_said"
 |.Cu=>"_law_talks"
 |.Cg=>"_law_parted"
 |.Ch=>"_law_turned"
 |.law_=>"law"
 |.Ay=>"__init__"
 |.Ar=>"read_wire"
 |.An=>"next_if_whole"
 |.Au=>"next_of"
abbrev ql:Fx->Str
 |.Ay=>"Listener.__init__"
 |.Ar=>"Listener.read_wire"
 |.An=>"Listener.next_if_whole"
 |.Au=>"Listener.next_of"
 |x=>nm x
noncomputable abbrev me:Fx->Bool
 |.Ay=>true
 |.Ar=>true
 |.An=>true
 |.Au=>true
 |_=>false
noncomputable abbrev ow:Fx->Str
 |.Ay=>"Listener"
 |.Ar=>"Listener"
 |.An=>"Listener"
 |.Au=>"Listener"
 |_=>""
abbrev st:Fx->Stmt
 |.Cr=>top 9
 |.AQ=>top 10
 |.Es=>top 11
 |.Cq=>top 12
 |.CV=>top 13
 |.CS=>top 14
 |.CT=>top 15
 |.Ci=>top 16
 |.CL=>top 18
 |.BV=>top 19
 |.BU=>top 20
 |.B0=>top 21
 |.CO=>top 22
 |.DN=>top 23
 |.Bb=>top 26
 |.Bz=>top 27
 |.BE=>top 28
 |.CY=>top 29
 |.Bk=>top 30
 |.Ct=>top 31
 |.Bx=>top 32
 |.Ck=>top 33
 |.C8=>top 34
 |.DF=>top 35
 |.C6=>top 36
 |.C7=>top 37
 |.Cj=>top 38
 |.CN=>top 40
 |.Bd=>top 41
 |.BF=>top 42
 |.Bo=>top 44
 |.B7=>top 45
 |.BG=>top 46
 |.Bi=>top 49
 |.AZ=>top 50
 |.BQ=>top 51
 |.BR=>top 52
 |.CQ=>top 53
 |.BP=>top 54
 |.BD=>top 55
 |.Br=>top 56
 |.Cp=>top 57
 |.Cu=>top 58
 |.Cg=>top 59
 |.Ch=>top 60
 |.law_=>top 61
 |.Ay=>JF (top 47) 0
 |.Ar=>JF (top 47) 1
 |.An=>JF (top 47) 2
 |.Au=>JF (top 47) 3
noncomputable abbrev ps:Fx->List Str
 |.Cr=>["thing"]
 |.AQ=>["thing", "low", "high"]
 |.Es=>["s", "thing"]
 |.Cq=>["s", "thing"]
 |.CV=>["number"]
 |.CS=>["s", "thing"]
 |.CT=>["s", "thing"]
 |.Ci=>["s", "thing"]
 |.CL=>["g", "talk"]
 |.BV=>["g", "step"]
 |.BU=>["state", "thing"]
 |.B0=>["state", "thing"]
 |.CO=>["state"]
 |.DN=>["state"]
 |.Bb=>["s", "value"]
 |.Bz=>["most"]
 |.BE=>["number", "width"]
 |.CY=>["number", "cut"]
 |.Bk=>["s", "wire", "at"]
 |.Ct=>["wire", "at"]
 |.Bx=>["most", "wire", "at"]
 |.Ck=>["s", "wire", "at"]
 |.C8=>["s", "wire", "at"]
 |.DF=>["wire", "at"]
 |.C6=>["s", "wire", "at"]
 |.C7=>["s", "wire", "at"]
 |.Cj=>["s", "wire", "at"]
 |.CN=>["g", "talk"]
 |.Bd=>["state", "place", "value"]
 |.BF=>["state", "wire", "at"]
 |.Bo=>["grammars", "said"]
 |.B7=>["grammars", "states", "thing"]
 |.BG=>["grammars", "left", "right"]
 |.Bi=>["script", "k"]
 |.AZ=>["state", "many"]
 |.BQ=>["state", "deep"]
 |.BR=>["state", "s"]
 |.CQ=>["span"]
 |.BP=>["s", "value"]
 |.BD=>["script", "start", "many"]
 |.Br=>["script"]
 |.Cp=>["script", "grammars", "start"]
 |.Cu=>["grammars", "said"]
 |.Cg=>["grammars", "said"]
 |.Ch=>["grammars", "said", "state"]
 |.law_=>["script"]
 |.Ay=>["self", "grammars", "left", "right"]
 |.Ar=>["self", "side"]
 |.An=>["self", "side"]
 |.Au=>["self", "side"]
noncomputable abbrev ns:Fx->List Str
 |.Cr=>["thing"]
 |.AQ=>["thing", "low", "high"]
 |.Es=>["s", "thing", "kind"]
 |.Cq=>["s", "thing", "sign"]
 |.CV=>["number"]
 |.CS=>["s", "thing", "part"]
 |.CT=>["s", "thing"]
 |.Ci=>["s", "thing"]
 |.CL=>["g", "talk", "state", "steps", "k", "place", "step"]
 |.BV=>["g", "step"]
 |.BU=>["state", "thing", "place"]
 |.B0=>["state", "thing", "words", "place"]
 |.CO=>["state"]
 |.DN=>["state"]
 |.Bb=>["s", "value", "kind", "row", "thing"]
 |.Bz=>["most"]
 |.BE=>["number", "width"]
 |.CY=>["number", "cut"]
 |.Bk=>["s", "wire", "at", "kind"]
 |.Ct=>["wire", "at"]
 |.Bx=>["most", "wire", "at", "byte"]
 |.Ck=>["s", "wire", "at", "most", "width", "number", "k"]
 |.C8=>["s", "wire", "at", "length", "place", "text", "k"]
 |.DF=>["wire", "at", "number"]
 |.C6=>["s", "wire", "at", "length", "place", "things", "k", "part"]
 |.C7=>["s", "wire", "at", "first", "second"]
 |.Cj=>["s", "wire", "at", "k", "part"]
 |.CN=>["g", "talk", "wires", "steps", "k", "state"]
 |.Bd=>["state", "place", "value"]
 |.BF=>["state", "wire", "at", "word", "read", "e"]
 |.Bo=>["grammars", "said", "wires", "states", "number", "place", "k", "state"]
 |.B7=>["grammars", "states", "thing", "k"]
 |.BG=>["grammars", "left", "right", "listener"]
 |.Bi=>["script", "k", "rest"]
 |.AZ=>["state", "many", "found", "x"]
 |.BQ=>["state", "deep", "kind", "low", "inner"]
 |.BR=>["state", "s", "kind", "many", "signs", "k"]
 |.CQ=>["span", "many"]
 |.BP=>["s", "value", "kind", "rest", "found", "k", "one"]
 |.BD=>["script", "start", "many", "names", "g", "h", "state", "side", "off", "words", "k", "then"]
 |.Br=>["script", "state", "many", "room"]
 |.Cp=>["script", "grammars", "start", "here", "said", "room", "k", "state", "number", "side", "words", "name", "shape", "then", "value"]
 |.Cu=>["grammars", "said", "talks", "number", "side", "name", "value"]
 |.Cg=>["grammars", "said", "found", "k", "ahead", "behind", "number", "side", "at", "more"]
 |.Ch=>["grammars", "said", "state", "found", "turn", "at"]
 |.law_=>["script", "grammars", "said", "left", "right", "talks", "parted", "k", "g", "state", "out", "less", "due"]
 |.Ay=>["self", "grammars", "left", "right"]
 |.Ar=>["self", "side", "start", "read", "k"]
 |.An=>["self", "side"]
 |.Au=>["self", "side", "wire", "at", "state"]
def body(Φ:Fx->Fn):Fx->Fn
 |.Cr=>fnOf 1 1 (Gq)
 |.AQ=>fnOf 3 3 (DC (Φ .Cr))
 |.Es=>fnOf 2 3 (MB (Φ .Ci) (Φ .CT) (Φ .CS) (Φ .Cq) (Φ .AQ))
 |.Cq=>fnOf 2 3 (Gp (Φ .CV))
 |.CV=>fnOf 1 1 (HV)
 |.CS=>fnOf 2 3 (Gn (Φ .Es))
 |.CT=>fnOf 2 2 (Go (Φ .Es))
 |.Ci=>fnOf 2 2 (Fe (Φ .Es) (Φ .AQ))
 |.CL=>fnOf 2 7 (Hc (Φ .BV) (Φ .BU))
 |.BV=>fnOf 2 2 (FS)
 |.BU=>fnOf 2 3 (FQ (Φ .Es) (Φ .B0))
 |.B0=>fnOf 2 4 (Ff (Φ .CO))
 |.CO=>fnOf 1 1 (He (Φ .DN))
 |.DN=>fnOf 1 1 (Jc)
 |.Bb=>fnOf 2 5 (Ey (Φ .Bb) (Φ .Bz) (Φ .BE))
 |.Bz=>fnOf 1 1 (Fg)
 |.BE=>fnOf 2 2 (EN (Φ .CY))
 |.CY=>fnOf 2 2 (HW)
 |.Bk=>fnOf 3 4 (Do (Φ .Cj) (Φ .C7) (Φ .C6) (Φ .C8) (Φ .Ck))
 |.Ct=>fnOf 2 2 (FN)
 |.Bx=>fnOf 3 4 (Ew (Φ .Ct))
 |.Ck=>fnOf 3 7 (C4 (Φ .CY) (Φ .Ct) (Φ .Bz))
 |.C8=>fnOf 3 7 (DQ (Φ .DF) (Φ .Bx))
 |.DF=>fnOf 2 3 (FR (Φ .CV) (Φ .Ct))
 |.C6=>fnOf 3 8 (DO (Φ .Bk) (Φ .Bx))
 |.C7=>fnOf 3 5 (DP (Φ .Bk))
 |.Cj=>fnOf 3 5 (C3 (Φ .Bk) (Φ .Bx))
 |.CN=>fnOf 2 6 (Hd (Φ .Bd) (Φ .CL))
 |.Bd=>fnOf 3 3 (Ez (Φ .Bb))
 |.BF=>fnOf 3 6 (DW (Φ .Bk))
 |.Bo=>fnOf 2 8 (DY (Φ .BV) (Φ .Bd) (Φ .B7))
 |.B7=>fnOf 3 4 (EO (Φ .BU) (Φ .AQ))
 |.BG=>fnOf 3 4 (DX (Φ .Au) (Φ .Ar) (Φ .Ay))
 |.Bi=>fnOf 2 3 (C1)
 |.AZ=>fnOf 2 4 (Dn)
 |.BQ=>fnOf 2 5 (A9 (Φ .AZ) (Φ .BQ))
 |.BR=>fnOf 2 6 (Ba (Φ .BR) (Φ .AZ))
 |.CQ=>fnOf 1 2 (FO)
 |.BP=>fnOf 2 7 (D9 (Φ .BP) (Φ .CQ))
 |.BD=>fnOf 3 12 (DB (Φ .AZ) (Φ .BQ) (Φ .Bi))
 |.Br=>fnOf 1 4 (Ea (Φ .AZ) (Φ .BD) (Φ .Bi))
 |.Cp=>fnOf 3 15 (Ex (Φ .BP) (Φ .BR) (Φ .AZ) (Φ .Bi))
 |.Cu=>fnOf 2 7 (Fd)
 |.Cg=>fnOf 2 10 (DU (Φ .Bo))
 |.Ch=>fnOf 3 6 (DV (Φ .AZ))
 |.law_=>fnOf 1 13 (FP (Φ .Br) (Φ .Cp) (Φ .BG) (Φ .Bo) (Φ .AZ) (Φ .Ch) (Φ .Bi) (Φ .CN) (Φ .Cg) (Φ .Cu))
 |.Ay=>fnOf 4 4 (DT)
 |.Ar=>fnOf 2 5 (CZ (Φ .An))
 |.An=>fnOf 2 2 (BZ (Φ .Au))
 |.Au=>fnOf 2 5 (CF (Φ .BF) (Φ .DN))
def run:Nat->Fx->Fn
 |0=>λ_ _ _=>none
 |n+1=>body (run n)
structure Md(K:eh)(mg:Str->Option fc)(A:Fx->ff)(fd:Fx->fk):Prop where
 fn:∀x,Fun K (nm x) (ql x) (st x) (A x) (fd x)
 mgs:∀x,me x=false->mg (nm x)=some (.ref (A x))
 bd:∀x,Binds K (fd x) (ps x) []
 cm:CM K
 Jz:∃C,PySem.W.nsIn K mainGlobals "Listener" = some (some (.ref C))/\mg "Listener" = some (.ref C)/\Mk K C (A .Ay)/\Meth K C "read_wire" (A .Ar)/\Meth K C "next_if_whole" (A .An)/\Meth K C "next_of" (A .Au)
 eN:mg "bool" = none
 eC:mg "enumerate" = none
 eR:mg "int" = none
 dZ:mg "isinstance" = none
 eQ:mg "len" = none
 eL:mg "list" = none
 eW:mg "max" = none
 eY:mg "min" = none
 eZ:mg "ord" = none
 eK:mg "range" = none
 eX:mg "str" = none
 eJ:mg "tuple" = none
 d9:∃tk,mg "FIRST_SIGN" = some (.int 32 tk)
 dY:∃tk,mg "LAST_SIGN" = some (.int 126 tk)
 d8:∃tk,mg "PERCENT_SIGN" = some (.int 37 tk)
 eE:∃tk,mg "SIGNS" = some (.str " !\"#$ &'()*+,-./0123456789:;<=>?@ABCDEFGHIJKLMNOPQRSTUVWXYZ[\\]^_`abcdefghijklmnopqrstuvwxyz{|}~" tk)
 xm:∃(P:ff) (ca:Str->ff),XM K mg P ca/\True/\∀n∈(["Short"]:List Str),XN0 K (ca n)
noncomputable abbrev kd:Fx->Kd
 |.Cr=>.pl
 |.AQ=>.pl
 |.Es=>.pl
 |.Cq=>.pl
 |.CV=>.pl
 |.CS=>.pl
 |.CT=>.pl
 |.Ci=>.pl
 |.CL=>.pl
 |.BV=>.pl
 |.BU=>.pl
 |.B0=>.pl
 |.CO=>.pl
 |.DN=>.pl
 |.Bb=>.fr
 |.Bz=>.pl
 |.BE=>.fr
 |.CY=>.pl
 |.Bk=>.ex
 |.Ct=>.ex
 |.Bx=>.ex
 |.Ck=>.ex
 |.C8=>.ex
 |.DF=>.ex
 |.C6=>.ex
 |.C7=>.ex
 |.Cj=>.ex
 |.CN=>.pl
 |.Bd=>.pl
 |.BF=>.pl
 |.Bo=>.pl
 |.B7=>.pl
 |.BG=>.pl
 |.Bi=>.pl
 |.AZ=>.pl
 |.BQ=>.pl
 |.BR=>.pl
 |.CQ=>.pl
 |.BP=>.pl
 |.BD=>.pl
 |.Br=>.pl
 |.Cp=>.pl
 |.Cu=>.pl
 |.Cg=>.pl
 |.Ch=>.pl
 |.law_=>.pl
 |.Ay=>.pl
 |.Ar=>.pl
 |.An=>.pl
 |.Au=>.pl
section
variable{P:fh}{w:fj}{K:eh}{mg:Str->Option fc}{base:Heap}{A:Fx->ff}{fd:Fx->fk}{n:Nat}
theorem MN{a:Kd}(k:Kd){P:fh}{w:fj}{K:eh}{mg:Str->Option fc}{base:Heap}{n:Nat}{fa:ff}{fd:fk}{ps:List Str}{f:Fn}(h:okK a P w K mg base n fa fd ps f)(e:a=k):okK k P w K mg base n fa fd ps f:=e ▸ h
section
variable{X:Cx}{A:Fx->ff}{fd:Fx->fk}{n k:Nat}{x:Fx}{s:Str}{e:Expr}{es:List Expr}{f:M (List D)}{p pos:Pos}{E:L2.St->XK}
theorem cP(M:Md X.K X.mg A fd)(ih:∀x,okK (kd x) X.prog X.w X.K X.mg X.base k (A x) (fd x) (ps x) (run n x))(hr:Room k X.A)(ha:PA X (e::es) (RA X.K f))(hk:kd x=.pl)(hm:me x=false)(hs:nm x=s)(hg:Gl X s)(h1:A8 e=false)(h2:A1 es=true)(hd:(s==("__debug__":Str))=false):PE X (.Call (.Name s p) (e::es) [] pos) (RE X.K (Af (run n x) f)):=by subst hs;exact SU (MN .pl (ih x) hk) hr hg (M.mgs x hm) (Fun.kp (M.fn x)) (M.bd x) ha hd h1 h2
theorem fF(M:Md X.K X.mg A fd)(ih:∀x,okK (kd x) X.prog X.w X.K X.mg X.base k (A x) (fd x) (ps x) (run n x))(hr:Room k X.A)(ha:PA X (e::es) (RA X.K f))(hk:kd x=.fr)(hm:me x=false)(hs:nm x=s)(hg:Gl X s)(h1:A8 e=false)(h2:A1 es=true)(hd:(s==("__debug__":Str))=false):PE X (.Call (.Name s p) (e::es) [] pos) (RF X.K (D2 (run n x) f)):=by subst hs;exact SZ (MN .fr (ih x) hk) hr hg (M.mgs x hm) (Fun.kp (M.fn x)) (M.bd x) ha hd h1 h2
theorem xex(M:Md X.K X.mg A fd)(ih:∀x,okK (kd x) X.prog X.w X.K X.mg X.base k (A x) (fd x) (ps x) (run n x))(hr:Room k X.A)(hp:Ft (CX1 true X.prog X.w) X E)(ha:PA X (e::es) (RA X.K f))(hk:kd x=.ex)(hm:me x=false)(hs:nm x=s)(hg:Gl X s)(h1:A8 e=false)(h2:A1 es=true)(hd:(s==("__debug__":Str))=false):PE X (.Call (.Name s p) (e::es) [] pos) (RX X.K E (Af (run n x) f)):=by subst hs;exact Vo (MN .ex (ih x) hk) hr hg (M.mgs x hm) (Fun.kp (M.fn x)) (M.bd x) hp ha hd h1 h2
end
seal PE PA PSs PS PT PG PI PGs PW PIf PPf PO PH
theorem sc(x:Fx):FnScope (ns x) (ps x) (AA (st x)):=by
 cases x<;>exact⟨rfl,rfl,rfl,by decide +kernel,rfl,by decide +kernel,by decide +kernel⟩
local macro_rules | `(tactic| clear 30 $t)=>`(tactic| with_reducible refine(?_ : $t))
seal GQ
theorem step(M:Md K mg A fd)(ih0:∀x,okK (kd x) P w K mg base (2*n+2) (A x) (fd x) (ps x) (run n x))(y:Fx):okK (kd y) P w K mg base (2*n+2+1+1) (A y) (fd y) (ps y) (run (n+1) y):=by
 have ih:=λx=>Yw (ih0 x);obtain⟨_,d9⟩:=M.d9;obtain⟨_,dY⟩:=M.dY;obtain⟨_,d8⟩:=M.d8;clear 5 M.xm P' ca x xt x0;obtain⟨_,eE⟩:=M.eE;clear 5 M.Jz Listener_ d7 fQ fO fN fG fR;have fP:MAt K "Listener" "next_of" Listener_ (A .Au):=⟨by decide,d7,fR,by decide⟩;have fJ:MAt K "Listener" "read_wire" Listener_ (A .Ar):=⟨by decide,d7,fN,by decide⟩;have fE:MAt K "Listener" "next_if_whole" Listener_ (A .An):=⟨by decide,d7,fG,by decide⟩;have sy:=sc y;have nd:=sy.nd;have mf:=M.fn y
 cases y<;>first|(clear 30 (okK .pl ..);refine Y9 (g:=fnOf _ _ _) rfl (X4 rfl rfl mf sy (λcdv A' outer s H E hr=>?_)))|(clear 30 (okK .ex ..);refine WF (g:=fnOf _ _ _) rfl (Vg rfl rfl mf sy (λcdv A' outer s H E hr hp hq ho=>?_)))|(clear 30 (okK .fr ..);refine WE (g:=fnOf _ _ _) rfl (Vf rfl rfl mf sy (λcdv A' outer s H E hr=>?_)))
 all_goals repeat' first
  | (clear 30 (PE ..);first
    | (clear 30 (PE _ (.Name ..) ..);first
      |(clear 30 (PE _ _ (RE _ (Ab _)));exact(XW _))
      |(clear 30 (PE _ (.Name _ _) (RE _ (fC (.ty _))));exact(JK rfl M.eX XA))
      |(clear 30 (PE _ (.Name _ _) (RE _ (fC (.ty _))));exact(JK rfl M.eJ L1))
      |(clear 30 (PE _ (.Name _ _) (RE _ (fC (.int _))));exact(Ky rfl d9))
      |(clear 30 (PE _ (.Name _ _) (RE _ (fC (.ty _))));exact(JK rfl M.eR Qb))
      |(clear 30 (PE _ (.Name _ _) (RE _ (fC (.ty _))));exact(JK rfl M.eN UX))
      |(clear 30 (PE _ (.Name _ _) (RE _ (fC (.int _))));exact(Ky rfl dY))
      |(clear 30 (PE _ (.Name _ _) (RE _ (fC (.int _))));exact(Ky rfl d8))
      |(clear 30 (PE _ (.Name _ _) (RE _ (fC (.ty _))));exact(JK rfl M.eL ND))
      |(clear 30 (PE _ _ (RE _ (fC (.str _))));exact(SW rfl eE)))
    | (clear 30 (PE _ (.Constant ..) ..);first
      |(clear 30 (PE _ _ (RE _ (fC (.int _))));exact XQ)
      |(clear 30 (PE _ _ (RE _ (fC (.str _))));exact XV)
      |(clear 30 (PE _ _ (RE _ (fC .non)));exact XR)
      |(clear 30 (PE _ _ (RE _ (fC (.bl _))));exact ZJ))
    | (clear 30 (PE _ (.Subscript ..) ..);first
      |(clear 30 (PE _ _ (RE _ (Ac _ _ ixD)));refine UA Yk Zc ?_ ?_ (λ_ _=>rfl))
      |(clear 30 (PE _ _ (RE _ (Ac _ _ AX)));refine UA Yi RC ?_ ?_ (λ_ _=>rfl))
      |(clear 30 (PE _ _ (RE _ (CB _ _)));refine SY 3 ?_ (λ_ _=>rfl))
      |(clear 30 (PE _ _ (RE _ (fSl _ _ _ DG)));refine Mn sl3 Ot ?_ ?_ ?_)
      |(clear 30 (PE _ _ (RE _ (fSl _ _ _ Jl)));refine Mn sl3 Uc ?_ ?_ ?_))
    | (clear 30 (PE _ (.Call ..) ..);first
      |(clear 30 (PE _ _ (RE _ (Af (run _ _) _)));refine @cP _ _ _ _ _ _ _ _ _ _ _ _ M ih hr ?_ (by rfl) (by rfl) (by rfl) (by rfl) (by rfl) (by rfl) (by decide))
      |(clear 30 (PE _ _ (RE _ (fB _ Az)));refine JJ SH WK rfl M.eQ Qc ?_)
      |(clear 30 (PE _ _ (RX _ _ (Af (run _ _) _)));refine @xex _ _ _ _ _ _ _ _ _ _ _ _ _ M ih hr hp ?_ (by rfl) (by rfl) (by rfl) (by rfl) (by rfl) (by rfl) (by decide))
      |(clear 30 (PE _ _ (RE _ (fB _ CD)));refine JJ SG WJ rfl M.dZ Lu ?_)
      |(clear 30 (PE _ _ (RF _ (D2 (run _ _) _)));refine @fF _ _ _ _ _ _ _ _ _ _ _ _ M ih hr ?_ (by rfl) (by rfl) (by rfl) (by rfl) (by rfl) (by rfl) (by decide))
      |(clear 30 (PE _ _ (RE _ (fB _ FU)));refine JJ (Qf rfl) WO rfl M.eY Xy ?_)
      |(clear 30 (PE _ _ (RE _ (fB _ Ib)));refine JJ SI WR rfl M.eZ Xz ?_)
      |(clear 30 (PE _ _ (RE _ (D6 _ (run _ .Au) _ _)));refine Kz M.cm fP (ih .Au) hr (M.bd .Au) ?_ ?_)
      |(clear 30 (PE _ _ (RE _ (fB _ HQ)));refine Uz Qd WI rfl M.eR Qb ?_)
      |(clear 30 (PE _ _ (RF _ (fBF _ FM)));refine ZM Mg WL rfl M.eL ND ?_)
      |(clear 30 (PE _ _ (RE _ (objM Fb _ _)));refine Qq ?_ ?_)
      |(clear 30 (PE _ _ (RE _ (D6 _ (run _ .Ar) _ _)));refine Kz M.cm fJ (ih .Ar) hr (M.bd .Ar) ?_ ?_)
      |(clear 30 (PE _ _ (RE _ (objM Cd _ _)));refine Qo ?_ ?_)
      |(clear 30 (PE _ _ (RE _ (EI _)));exact(Qr _ rfl M.eQ Qc))
      |(clear 30 (PE _ _ (RE _ (D6 _ (run _ .An) _ _)));refine Kz M.cm fE (ih .An) hr (M.bd .An) ?_ ?_)
      |(clear 30 (PE _ _ (RE _ (fUn _ Jx)));refine Qp ?_)
      |(clear 30 (PE _ _ (RE _ (LG _ _ _)));refine U7 (by decide) d7 fO (ih0 .Ay) hr rfl fQ (M.bd .Ay) ?_)
      |(clear 30 (PE _ _ (RE _ (fB _ KZ)));refine Uz Lw WW rfl M.eJ L1 ?_)
      |(clear 30 (PE _ _ (RE _ (joinM _ _)));refine U6 ?_ ?_)
      |(clear 30 (PE _ _ (RE _ (fB _ KI)));refine JJ (Qe rfl) WN rfl M.eW Xx ?_))
    | (clear 30 (PE _ (.BinOp ..) ..);first
      |(clear 30 (PE _ _ (RE _ (Ac _ _ AC)));refine Fm N7 M4 ?_ ?_)
      |(clear 30 (PE _ _ (RE _ (Ac _ _ Bw)));refine Fm YE WV ?_ ?_)
      |(clear 30 (PE _ _ (RE _ (Ac _ _ EA)));refine Fm Yz WP ?_ ?_)
      |(clear 30 (PE _ _ (RE _ (Ac _ _ FV)));refine Fm V6 T9 ?_ ?_)
      |(clear 30 (PE _ _ (RE _ (Ac _ _ Fl)));refine Fm V5 T8 ?_ ?_)
      |(clear 30 (PE _ _ (RE _ (Ac _ _ Ig)));refine Fm YB WT ?_ ?_)
      |(clear 30 (PE _ (.BinOp _ .Add _ _) (RF _ _));refine UB Rb T3 ?_ ?_)
      |(clear 30 (PE _ _ (RE _ (Ac _ _ Jd)));refine Fm V8 Ua ?_ ?_)
      |(clear 30 (PE _ _ (RX _ _ (Iy _ _ AC)));refine ZW N7 M4 ?_ ?_)
      |(clear 30 (PE _ _ (RE _ (Ac _ _ Iz)));refine Fm Tz RD ?_ ?_)
      |(clear 30 (PE _ _ (RE _ (Ac _ _ M9)));refine Fm YD WU ?_ ?_)
      |(clear 30 (PE _ (.BinOp _ .Mult _ _) (RF _ _));refine UB YC Ub ?_ ?_))
    | (clear 30 (PE _ (.List ..) ..);first
      |refine @XX _ _ _ _ ?_)
    | (clear 30 (PE _ (.Tuple ..) ..);first
      |(clear 30 (PE _ (.Tuple _ _ _) (RE _ (AN _)));refine @Qs _ _ _ _ _ ?_)
      |(clear 30 (PE _ (.Tuple _ _ _) (RE _ (AN _)));refine Qs ?_))
    | (clear 30 (PE _ (.Attribute ..) ..);first
      |refine XO M.cm (by decide) ?_ rfl)
    | (clear 30 (PE _ (.BoolOp ..) ..);first
      |(clear 30 (PE _ _ (RE _ _));refine XU ?_)
      |(clear 30 (PE _ _ (RE _ (EV _ _)));refine XN ?_ ?_)
      |(clear 30 (PE _ _ (RE _ (Kx _ _)));refine ZK ?_ ?_))
    | (clear 30 (PE _ (.Dict ..) ..);first
      |(clear 30 (PE _ _ (RE _ XJ));exact fe_dic)
      |refine U5 ?_)
    | (clear 30 (PE _ (.Compare ..) ..);first
      |(clear 30 (PE _ (.Compare _ [.Eq] [_] _) (RE _ (Ac _ _ (eqS _))));refine HK (Rc hr.units) (IJ (g:=id)) ?_ ?_ (Cs _))
      |(clear 30 (PE _ _ (RE _ (E1 _ _ _ _ _)));refine SV MP MP KS KS ?_ ?_ ?_)
      |(clear 30 (PE _ _ (RE _ (Ac _ _ geA)));refine HK Re Oq ?_ ?_ (Cs _))
      |(clear 30 (PE _ _ (RE _ (Ac _ _ gtA)));refine HK Rf Os ?_ ?_ (Cs _))
      |(clear 30 (PE _ _ (RE _ (Ac _ _ isC)));refine HK Rg RJ ?_ ?_ (Cs _))
      |(clear 30 (PE _ (.Compare _ [.NotEq] [_] _) (RE _ (Ac _ _ (eqS _))));refine HK (MQ hr.units) (IJ (g:=λb=>!b)) ?_ ?_ (Cs _)))
    | (clear 30 (PE _ (.ListComp ..) ..);first
      |(clear 30 (PE _ (.ListComp _ [⟨(.Name ("g":Str) _),_,_,0⟩] _ _) (RF _ (AU _ [] _ _ _ _)));refine Ei (Dv ["g"] [] rfl rfl rfl rfl rfl) rfl ?_ (λ_ _ _ _ _=>?_) (λ_ _ _ _ _=>?_) (λ_ _ _ _ _=>?_))
      |(clear 30 (PE _ (.ListComp _ [⟨(.Name ("sign":Str) _),_,_,0⟩] _ _) (RF _ (AU _ [] _ _ _ _)));refine Ei (Dv ["sign"] [] rfl rfl rfl rfl rfl) rfl ?_ (λ_ _ _ _ _=>?_) (λ_ _ _ _ _=>?_) (λ_ _ _ _ _=>?_))
      |(clear 30 (PE _ (.ListComp _ [⟨(.Name ("k":Str) _),_,_,0⟩] _ _) (RF _ (AU _ [0,1] _ _ _ _)));refine Ei (Dv ["k"] [(0, "number"),(1, "width")] rfl rfl rfl rfl rfl) rfl ?_ (λ_ _ _ _ _=>?_) (λ_ _ _ _ _=>?_) (λ_ _ _ _ _=>?_))
      |(clear 30 (PE _ (.ListComp _ [⟨(.Name ("k":Str) _),_,_,0⟩] _ _) (RF _ (AU _ [0,1] _ _ _ _)));refine Ei (Dv ["k"] [(0, "state"),(1, "deep")] rfl rfl rfl rfl rfl) rfl ?_ (λ_ _ _ _ _=>?_) (λ_ _ _ _ _=>?_) (λ_ _ _ _ _=>?_))
      |(clear 30 (PE _ _ (RF _ (AU _ [4,0] _ _ _ _)));refine Ei (Dv ["k"] [(4, "signs"),(0, "state")] rfl rfl rfl rfl rfl) rfl ?_ (λ_ _ _ _ _=>?_) (λ_ _ _ _ _=>?_) (λ_ _ _ _ _=>?_))
      |(clear 30 (PE _ (.ListComp _ [⟨(.Name ("k":Str) _),_,_,0⟩] _ _) (RF _ (AU _ [0,1] _ _ _ _)));refine Ei (Dv ["k"] [(0, "state"),(1, "s")] rfl rfl rfl rfl rfl) rfl ?_ (λ_ _ _ _ _=>?_) (λ_ _ _ _ _=>?_) (λ_ _ _ _ _=>?_))
      |(clear 30 (PE _ _ (RF _ (AU _ [0,3,1] _ _ _ _)));refine Ei (Dv ["k"] [(0, "script"),(3, "room"),(1, "state")] rfl rfl rfl rfl rfl) rfl ?_ (λ_ _ _ _ _=>?_) (λ_ _ _ _ _=>?_) (λ_ _ _ _ _=>?_))
      |(clear 30 (PE _ _ (RF _ (AU _ [10] _ _ _ _)));refine Ei (Dv ["one"] [(10, "out")] rfl rfl rfl rfl rfl) rfl ?_ (λ_ _ _ _ _=>?_) (λ_ _ _ _ _=>?_) (λ_ _ _ _ _=>?_)))
    | (clear 30 (PE _ (.IfExp ..) ..);first
      |refine SX ?_ ?_ ?_)
    | (clear 30 (PE _ (.UnaryOp ..) ..);first
      |refine XS ?_)
    |(clear 30 (PE _ _ (RE _ (Ax _)));refine U8 ?_)
    |(clear 30 (PE _ _ (RE _ (Dk _)));refine XT ?_))
  | (clear 30 (PA ..);first
    |refine @SS _ _ _ _ _ ?_ ?_ rfl
    |exact XL)
  | (clear 30 (PSs ..);first
    |refine @Th _ _ _ _ _ _ ?_ ?_
    |refine @KB _ _ _ _ ?_
    |exact Vm
    |exact(KB NO)
    |refine Ti ?_
    |exact(KB NS))
  | (clear 30 (PS ..);first
    | (clear 30 (PS _ (.Return ..) ..);first
      |(clear 30 (PS _ _ (RSg _ (μR _) (Al _)));refine QC ?_)
      |(clear 30 (PS _ _ (RSg _ (μX _ _) (Al (nxD _))));refine NU ?_)
      |(clear 30 (PS _ _ (RSg _ (μF _) (Hj _)));refine NT ?_)
      |(clear 30 (PS _ _ (RSg _ (μX _ _) (Al _)));refine LL (NV ?_))
      |(clear 30 (PS _ _ (RSg _ (μF _) (GG _)));exact(QD _)))
    | (clear 30 (PS _ (.Assign ..) ..);first
      |(clear 30 (PS _ _ (RSg _ _ (Ao _ (Dk (AU _ [] _ _ _ _)))));refine Vk (Dv ["g"] [] rfl rfl rfl rfl rfl) rfl nd rfl rfl ?_ (λ_ _ _ _ _=>?_) (λ_ _ _ _ _=>?_) (λ_ _ _ _ _=>?_))
      |(clear 30 (PS _ (.Assign [.Name _ _] _ _) (RSg _ _ (Ao _ _)));refine Ms nd rfl (.inl rfl) ?_)
      |(clear 30 (PS _ _ (RSg _ _ (Dt _ _)));refine X5 ?_ ?_)
      |(clear 30 (PS _ _ (RSg _ (μX _ _) (D0 _ _)));refine LL (NY nd rfl (.inl rfl) ?_))
      |(clear 30 (PS _ _ (RSg _ _ (Eb _ _)));refine X7 nd rfl (.inl rfl) ?_)
      |(clear 30 (PS _ _ (RSg _ _ (E5 _ _ _)));refine X6 M.cm (by decide) ?_ ?_)
      |(clear 30 (PS _ (.Assign [.Name _ _] _ _) (RSg _ _ (Ao _ _)));refine Ms nd rfl (.inr rfl) ?_)
      |(clear 30 (PS _ _ (RSg _ _ (Ao _ (Ax (AU _ [] _ _ _ _)))));refine NX (Dv ["g"] [] rfl rfl rfl rfl rfl) rfl nd rfl rfl ?_ (λ_ _ _ _ _=>?_) (λ_ _ _ _ _=>?_) (λ_ _ _ _ _=>?_))
      |(clear 30 (PS _ _ (RSX _ _ (D0 _ _)));refine NY nd rfl (.inl rfl) ?_)
      |(clear 30 (PS _ (.Assign [.Name _ _] _ _) (RSg _ _ (Ao _ _)));refine Ms nd rfl (.inr rfl) ?_)
      |(clear 30 (PS _ _ (RSg _ _ (Ao _ (Ax (AU _ [10,5] _ _ _ _)))));refine NX (Dv ["k"] [(10, "out"),(5, "talks")] rfl rfl rfl rfl rfl) rfl nd rfl rfl ?_ (λ_ _ _ _ _=>?_) (λ_ _ _ _ _=>?_) (λ_ _ _ _ _=>?_)))
    | (clear 30 (PS _ (.If ..) ..);first
      |refine ZS ?_ ?_ ?_)
    | (clear 30 (PS _ (.For ..) ..);first
      |(clear 30 (PS _ (.For _ _ _ [] _) (RSg _ _ (Bj (LF _) _ _)));refine NQ gq rfl ?_ ?_ ?_)
      |(clear 30 (PS _ (.For _ _ _ [] _) (RSg _ _ (Bj _ _ _)));refine QA gq rfl ?_ ?_ ?_)
      |(clear 30 (PS _ (.For _ _ _ [] _) (RSg _ _ (Bj _ _ _)));refine QA ho rfl ?_ ?_ ?_)
      |(clear 30 (PS _ (.For _ _ _ [] _) (RSg _ _ (Bj _ _ _)));refine NQ gq rfl ?_ ?_ ?_))
    | (clear 30 (PS _ (.Expr ..) ..);first
      |(clear 30 (PS _ _ (RSg _ _ (ownM _ Cd _)));refine O4 _ ?_)
      |(clear 30 (PS _ _ (RSg _ _ (D5 _)));refine NN ?_)
      |(clear 30 (PS _ _ (RSg _ _ (ownM _ Fb _)));refine O5 _ ?_))
    |exact NS
    |exact NO
    | (clear 30 (PS _ (.While ..) ..);first
      |refine Tg gq ?_ ?_)
    | (clear 30 (PS _ (.Raise ..) ..);first
      |(clear 30 (PS _ _ (RSg _ (μX _ _) (Ii ("Short":Str) _)));refine LL (QB (n:="Short") x (by decide) rfl (x0 "Short" (by decide)) rfl hq rfl ?_)))
    | (clear 30 (PS _ (.Try ..) ..);first
      |(clear 30 (PS _ _ (RSg _ (μR _) (F7 _ _)));refine X8 (qx:=true) x Yt rfl rfl (λpn E hp=>?_) ?_)
      |(clear 30 (PS _ _ (RSg _ _ _));refine Vl ?_))
    |refine QC ?_
    |refine NT ?_
    |refine NU ?_
    |refine LL (NV ?_)
    |refine NN ?_)
  | (clear 30 (PT ..);first
    | (clear 30 (PT _ (.Compare ..) ..);first
      |(clear 30 (PT _ (.Compare _ [.Eq] [_] _) (RT _ (Aj (Ac _ _ (eqS _)))));refine Et (Rc hr.units) (IJ (g:=id)) ?_ ?_ (Cs _))
      |(clear 30 (PT _ (.Compare _ [.NotEq] [_] _) (RT _ (Aj (Ac _ _ (eqS _)))));refine Et (MQ hr.units) (IJ (g:=λb=>!b)) ?_ ?_ (Cs _))
      |(clear 30 (PT _ _ (RT _ (Aj (Ac _ _ gtA))));refine Et Rf Os ?_ ?_ (Cs _))
      |(clear 30 (PT _ _ (RT _ (Aj (Ac _ _ (eqO _)))));refine Et (MQ hr.units) (WH (g:=λb=>!b)) ?_ ?_ (Cs _))
      |(clear 30 (PT _ _ (RT _ (Aj (Ac _ _ geA))));refine Et Re Oq ?_ ?_ (Cs _))
      |(clear 30 (PT _ _ (RT _ (Aj (Ac _ _ isC))));refine Et Rg RJ ?_ ?_ (Cs _))
      |(clear 30 (PT _ _ (RT _ (Aj (Ac _ _ ltA))));refine Et Yy WM ?_ ?_ (Cs _))
      |(clear 30 (PT _ _ (RT _ (Aj (Ac _ _ leA))));refine Et MP KS ?_ ?_ (Cs _))
      |(clear 30 (PT _ _ (RT _ (Aj (Ac _ _ GB))));refine Et Rh RK ?_ ?_ (Cs _)))
    | (clear 30 (PT _ (.UnaryOp ..) ..);first
      |refine X9 ?_)
    | (clear 30 (PT _ (.BoolOp ..) ..);first
      |refine ZU ?_)
    |(clear 30 (PT _ _ (RT _ (Aj _)));refine Ya ?_))
  | (clear 30 (PG ..);first
    | (clear 30 (PG _ (.Name ..) ..);first
      |(clear 30 (PG _ (.Name _ _) (RG _ (As _)));exact(Di nd rfl (.inl rfl)))
      |(clear 30 (PG _ (.Name _ _) (RG _ (As _)));exact(Di (by show List.Nodup [("g":Str)] ;decide +kernel) rfl (.inl rfl)))
      |(clear 30 (PG _ (.Name _ _) (RG _ (As _)));exact(Di (by show List.Nodup [("sign":Str)] ;decide +kernel) rfl (.inl rfl)))
      |(clear 30 (PG _ (.Name _ _) (RG _ (As _)));exact(Di (by show List.Nodup [("k":Str),("number":Str),("width":Str)] ;decide +kernel) rfl (.inl rfl)))
      |(clear 30 (PG _ (.Name _ _) (RG _ (As _)));exact(Di (by show List.Nodup [("k":Str),("state":Str),("deep":Str)] ;decide +kernel) rfl (.inl rfl)))
      |(clear 30 (PG _ (.Name _ _) (RG _ (As _)));exact(Di (by show List.Nodup [("k":Str),("signs":Str),("state":Str)] ;decide +kernel) rfl (.inl rfl)))
      |(clear 30 (PG _ (.Name _ _) (RG _ (As _)));exact(Di (by show List.Nodup [("k":Str),("state":Str),("s":Str)] ;decide +kernel) rfl (.inl rfl)))
      |(clear 30 (PG _ (.Name _ _) (RG _ (As _)));exact(Di (by show List.Nodup [("k":Str),("script":Str),("room":Str),("state":Str)] ;decide +kernel) rfl (.inl rfl)))
      |(clear 30 (PG _ (.Name _ _) (RG _ (As _)));exact(Di (by show List.Nodup [("one":Str),("out":Str)] ;decide +kernel) rfl (.inl rfl)))
      |(clear 30 (PG _ (.Name _ _) (RG _ (As _)));exact(Di (by show List.Nodup [("k":Str),("out":Str),("talks":Str)] ;decide +kernel) rfl (.inl rfl))))
    | (clear 30 (PG _ (.Tuple ..) ..);first
      |refine ZN rfl ?_)
    | (clear 30 (PG _ (.Subscript ..) ..);first
      |(clear 30 (PG _ _ (RG _ (Hn _ _)));refine Qu ?_ ?_)
      |(clear 30 (PG _ _ (RG _ (stD _ _)));refine XY ?_ ?_)
      |(clear 30 (PG _ _ (RG _ (IL _ _)));refine Qv 3 ?_)
      |(clear 30 (PG _ _ (RG _ (IK _ _ _)));refine Ta 3 ?_ ?_)))
  | (clear 30 (PI ..);first
    | (clear 30 (PI _ _ (.Call ..) ..);first
      |(clear 30 (PI _ _ _ (RI _ (Bm _)));refine OY rfl M.eK ?_)
      |(clear 30 (PI _ _ _ (RI _ (Ge _)));refine OZ rfl M.eK ?_))
    | (clear 30 (PI _ (.Tuple ..) ..);first
      |refine Va rfl M.eC ?_)
    |(clear 30 (PI _ _ _ (RI _ (Dj _)));refine X0 ?_))
  | (clear 30 (PGs ..);first
    |refine Tb ?_ ?_
    |exact U9)
  | (clear 30 (PW ..);first
    |(clear 30 (PW _ (.BoolOp .Or (_::_::_) _) (RT _ (fOr _ _)));refine ZV ?_ ?_)
    |(clear 30 (PW _ (.BoolOp .Or [_] _) (RT _ _));refine Yc ?_)
    |(clear 30 (PW _ (.BoolOp .And (_::_::_) _) (RT _ (G8 _ _)));refine Yb ?_ ?_)
    |(clear 30 (PW _ (.BoolOp .And [_] _) (RT _ _));refine Vn ?_))
  | (clear 30 (PIf ..);first
    |exact Vb
    |(clear 30 (PIf _ [_] (RT _ _));refine Vc ?_))
  | (clear 30 (PPf ..);first
    |refine Tf ?_ ?_
    |exact Vj)
  | (clear 30 (PO ..);first
    |refine Vi ?_
    |exact Vh)
  | (clear 30 (PH ..);first
    |(clear 30 (PH _ _ (.ExceptHandler (some (.Name _ _)) none (_::_) _::_) (RH _ _ _ (hNo _ _ _)));refine ZP x rfl (x.ms "Short" (by decide)) (x.cl "Short" (by decide)) (λ_ hn=>x.subE hn (by decide)) (λy=>?_) ?_)
    |(clear 30 (PH _ _ (.ExceptHandler (some (.Name _ _)) (some _) (_::_) _::_) (RH _ _ _ (hAs _ _ _ _)));refine ZO x rfl (x.ms "Broken" (by decide)) (x.cl "Broken" (by decide)) (λ_ hn=>x.subE hn (by decide)) nd rfl rfl (λy=>?_) ?_)
    |exact XZ)
theorem all_ok(M:Md K mg A fd):∀(n:Nat) (x:Fx),okK (kd x) P w K mg base (2*n+2) (A x) (fd x) (ps x) (run n x)
 |0,x=>Tx
 |n+1,x=>by
   have ih:=all_ok M n;exact step M ih x
end
abbrev fno(x:Fx)(kV dc pm:fc)(an:Option ff)(cd ct:fc):fk:=PySem.W.fnOf (nm x) (ql x) (GA (st x)) (CA (st x)) (AA (st x)) .none kV dc pm an cd ct
structure At(K:eh)(x:Fx)(f:ff)(fd:fk):Prop where
 a:me x=false->PySem.W.nsIn K mainGlobals (nm x)=some (some (.ref f))
 m:me x=true->∃C,PySem.W.nsIn K mainGlobals (ow x)=some (some (.ref C))/\PySem.W.findIn K (.ref C) (nm x)=some (some (.ref f))/\PySem.W.isFn K (.ref f)=true
 fn:Fun K (nm x) (ql x) (st x) f fd
 bd:Binds K fd (ps x) []
 eq:∃kV dc pm an cd ct,fd=fno x kV dc pm an cd ct
theorem at_mk{K:eh}{x:Fx}{f:ff}{od an:Option ff}{sl:Array (Option fc)}{oc kV dc pm cd ct:fc}(e:me x=false)(a:PySem.W.nsIn K mainGlobals (nm x)=some (some (.ref f)))(l:K.lookup f=some ⟨oc,od,.func (fno x kV dc pm an cd ct),sl⟩)(c:codeIn K cd (ql x)=true)(k:PySem.W.keepIn K (.ref f)=true):∃p:ff×fk,At K x p.1 p.2:=by
 refine⟨(f,fno x kV dc pm an cd ct),λ_=>a,λz=>(by rw[e] at z;cases z),JM (st:=st x) l c k,(JM (st:=st x) l c k).binds (ps:=ps x) λ_ _ _ _ _ _ us hl=>?_,_,_,_,_,_,_,rfl⟩
 cases x<;>first|(obtain rfl:=ua1 hl;rfl)|(obtain⟨_,rfl⟩:=us1 hl;rfl)|(obtain⟨_,_,rfl⟩:=us2 hl;rfl)|(obtain⟨_,_,_,rfl⟩:=us3 hl;rfl)|(obtain⟨_,_,_,_,rfl⟩:=us4 hl;rfl)|(obtain⟨_,_,_,_,_,rfl⟩:=us5 hl;rfl)|(obtain⟨_,_,_,_,_,_,rfl⟩:=us6 hl;rfl)|(obtain⟨_,_,_,_,_,_,_,rfl⟩:=us7 hl;rfl)
theorem Xw{K:eh}{x:Fx}{f C:ff}{od an:Option ff}{sl:Array (Option fc)}{oc kV dc pm cd ct:fc}(e:me x=true)(hc:PySem.W.nsIn K mainGlobals (ow x)=some (some (.ref C)))(a:PySem.W.findIn K (.ref C) (nm x)=some (some (.ref f)))(l:K.lookup f=some ⟨oc,od,.func (fno x kV dc pm an cd ct),sl⟩)(c:codeIn K cd (ql x)=true)(k:PySem.W.keepIn K (.ref f)=true)(t:PySem.W.isFn K (.ref f)=true):∃p:ff×fk,At K x p.1 p.2:=by
 refine⟨(f,fno x kV dc pm an cd ct),λz=>(by rw[e] at z;cases z),λ_=>⟨C,hc,a,t⟩,JM (st:=st x) l c k,(JM (st:=st x) l c k).binds (ps:=ps x) λ_ _ _ _ _ _ us hl=>?_,_,_,_,_,_,_,rfl⟩
 cases x<;>first|(obtain rfl:=ua1 hl;rfl)|(obtain⟨_,rfl⟩:=us1 hl;rfl)|(obtain⟨_,_,rfl⟩:=us2 hl;rfl)|(obtain⟨_,_,_,rfl⟩:=us3 hl;rfl)|(obtain⟨_,_,_,_,rfl⟩:=us4 hl;rfl)|(obtain⟨_,_,_,_,_,rfl⟩:=us5 hl;rfl)|(obtain⟨_,_,_,_,_,_,rfl⟩:=us6 hl;rfl)|(obtain⟨_,_,_,_,_,_,_,rfl⟩:=us7 hl;rfl)
theorem xm_all{K:eh}{h:Heap}{mg:Str->Option fc}{P c1 c2:ff}(X:K.In h)(G:h.Ns mainGlobals mg)(p:PySem.W.nsIn K mainGlobals "ParleyError" = some (some (.ref P)))(a1:PySem.W.nsIn K mainGlobals "Short" = some (some (.ref c1)))(a2:PySem.W.nsIn K mainGlobals "Broken" = some (some (.ref c2)))(q:PZ K P [c1,c2]=true)(nd:[P,c1,c2].Nodup)(n1:MI K c1=true):∃(P:ff) (ca:Str->ff),XM K mg P ca/\True/\∀n∈(["Short"]:List Str),XN0 K (ca n):=by
 have x:=bi X G p a1 a2 q nd;refine⟨P,_,x,trivial,?_⟩;intro n hn;simp only[ul2,ui2,gR] at hn;rcases hn with rfl
 .exact ZD n1
theorem fin_mk{K:eh}{h:Heap}{mg:Str->Option fc}{fa:ff}(X:K.In h)(G:h.Ns mainGlobals mg)(hmg:mg "law" = some (.ref fa))(H:∀x:Fx,∃p:ff×fk,At K x p.1 p.2)(eN:PySem.W.nsIn K mainGlobals "bool" = some none)(eC:PySem.W.nsIn K mainGlobals "enumerate" = some none)(eR:PySem.W.nsIn K mainGlobals "int" = some none)(dZ:PySem.W.nsIn K mainGlobals "isinstance" = some none)(eQ:PySem.W.nsIn K mainGlobals "len" = some none)(eL:PySem.W.nsIn K mainGlobals "list" = some none)(eW:PySem.W.nsIn K mainGlobals "max" = some none)(eY:PySem.W.nsIn K mainGlobals "min" = some none)(eZ:PySem.W.nsIn K mainGlobals "ord" = some none)(eK:PySem.W.nsIn K mainGlobals "range" = some none)(eX:PySem.W.nsIn K mainGlobals "str" = some none)(eJ:PySem.W.nsIn K mainGlobals "tuple" = some none){eT:Tok}(d9:PySem.W.nsIn K mainGlobals "FIRST_SIGN" = some (some (.int 32 eT))){eV:Tok}(dY:PySem.W.nsIn K mainGlobals "LAST_SIGN" = some (some (.int 126 eV))){eM:Tok}(d8:PySem.W.nsIn K mainGlobals "PERCENT_SIGN" = some (some (.int 37 eM))){fL:Tok}(eE:PySem.W.nsIn K mainGlobals "SIGNS" = some (some (.str " !\"#$ &'()*+,-./0123456789:;<=>?@ABCDEFGHIJKLMNOPQRSTUVWXYZ[\\]^_`abcdefghijklmnopqrstuvwxyz{|}~" fL)))(xm:∃(P:ff) (ca:Str->ff),XM K mg P ca/\True/\∀n∈(["Short"]:List Str),XN0 K (ca n)){eO:ff}(fD:PySem.W.nsIn K mainGlobals "Reader" = some none)(fK:PySem.W.nsIn K mainGlobals "Side" = some none)(eU:PySem.W.nsIn K mainGlobals "Lasting" = some none)(fA:PySem.W.nsIn K mainGlobals "Parley" = some none)(fH:PySem.W.nsIn K mainGlobals "Relay" = some none)(fM:PySem.W.nsIn K mainGlobals "Desk" = some none)(d7:PySem.W.nsIn K mainGlobals "Listener" = some (some (.ref eO)))(eP:OT K eO=true)(eS:Pe K eO=true):∃(A:Fx->ff) (fd:Fx->fk),Md K mg A fd/\A .law_=fa/\∀(s:fg) (u:fc),BindsTo s (fd .law_) ⟨[u],[]⟩ [("script",u)]:=by
 clear 5(Classical.axiomOfChoice H)F hF;have fm:∀x,me x=true->∀C,PySem.W.nsIn K mainGlobals (ow x)=some (some (.ref C))->PySem.W.findIn K (.ref C) (nm x)=some (some (.ref (F x).1))/\PySem.W.isFn K (.ref (F x).1)=true:=λx hx C h=>by
  clear 5((hF x).m hx)C e1 e2 e3;have e4:=e1.symm.trans h
  cases e4
  exact⟨e2,e3⟩
 have eH:=fm .Ay rfl _ d7;have eG:=fm .Ar rfl _ d7;have eD:=fm .An rfl _ d7;have eI:=fm .Au rfl _ d7;have cm:CM K:=ZG λn hn=>by
  simp only[Kv,ul2,ui2,gR] at hn;rcases hn with rfl|rfl|rfl|rfl|rfl|rfl|rfl
  .exact .inl fD
  .exact .inl fK
  .exact .inl eU
  .exact .inl fA
  .exact .inr ⟨_,d7,eP⟩
  .exact .inl fH
  .exact .inl fM
 refine⟨λx=>(F x).1,λx=>(F x).2,{fn:=λx=>(hF x).fn,mgs:=λx e=>ul9 X G ((hF x).a e),bd:=λx=>(hF x).bd,cm:=cm,Jz:=⟨_,d7,ul9 X G d7,Z0 eS eH.1 eH.2,⟨eG.1,eG.2,Fun.kp (hF .Ar).fn⟩,⟨eD.1,eD.2,Fun.kp (hF .An).fn⟩,⟨eI.1,eI.2,Fun.kp (hF .Au).fn⟩⟩,xm:=xm,eN:=ug0 X G eN,eC:=ug0 X G eC,eR:=ug0 X G eR,dZ:=ug0 X G dZ,eQ:=ug0 X G eQ,eL:=ug0 X G eL,eW:=ug0 X G eW,eY:=ug0 X G eY,eZ:=ug0 X G eZ,eK:=ug0 X G eK,eX:=ug0 X G eX,eJ:=ug0 X G eJ,d9:=⟨eT,ul9 X G d9⟩,dY:=⟨eV,ul9 X G dY⟩,d8:=⟨eM,ul9 X G d8⟩,eE:=⟨fL,ul9 X G eE⟩ },?_,λs u=>?_⟩
 .have e:=hmg.symm.trans (ul9 X G ((hF .law_).a rfl))
  cases e
  rfl
 .obtain⟨_,_,_,_,_,_,e⟩:=(hF .law_).eq;show BindsTo s (F .law_).2 _ _;rw[e];exact .of_eq rfl
theorem walk{l:PySem.W.OpenLaw}{q:fh}{loose:List Str}{XP:(Str->Option fc)->Heap->Prop}{YP:fj->Heap->Prop}{d:DefRec}{K:Params->eh}(m:Nat)(hm:Room (2*m+2) callerA)(hn:l.most=some 63)(hdf:d.params.defaults=[])
 (hY:∀(w:fj) (h:Heap),YP w h->(K w.params).In h) (lt:∀ns:List Int,ns.length<=63->∃S',run m .law_ [.scr ns] []=some (.bl true,S'))
 (F:∀(w:fj) (mg:Str->Option fc) (fa:ff) (h:Heap),(K w.params).In h->h.Ns mainGlobals mg->mg d.name=some (.ref fa)->
   ∃(A:Fx->ff) (fd:Fx->fk),Md (K w.params) mg A fd/\A .law_=fa/\∀(s:fg) (u:fc),BindsTo s (fd .law_) ⟨[u],[]⟩ [("script",u)]) :
 PySem.W.WalkO q loose XP YP l.row.toRowW d [] (λf vs=>PySem.call f vs):=
 L2.Xk (n:=63) (k:=2*m+2) (x:="script") (CX:=λ_=>CX0) (sp:=λw=>spF (K w.params) (run m .law_)) hn (by decide) hdf hm hY
  (λw mg fa h KX G hmg=>by clear 5(F w mg fa h KX G hmg)A fd M e b;subst e;exact⟨fd .law_,b,λbase _ _=>all_ok M m .law_⟩)
  (λw H a ns hl hO hS=>by clear 5(lt ns hl)S' e;exact QQ hO hS e) λ_ _ _ _ _ z=>z
theorem VT(k:Nat):Nw (run (k+1) .Cr):=λd h=>Mu h
theorem Hs(k:Nat):FE (run (k+2) .AQ):=Sk (VT k)
theorem Nc(k:Nat):Js (run (k+1) .CV):=O8
theorem Uh(k:Nat):LV (run (k+2) .Cq):=Mr (Nc k)
theorem Mo:∀(n k:Nat),2*n+3<=k->Gv (run k .Es) n
 |0,k,_=>λs hs=>absurd s.depth_pos (by lia)
 |n+1,k,h=>by
   obtain⟨j,rfl⟩:∃j,k=j+4:=fy (by lia);have ih:=Mo n (j+2) (by lia);exact Ve (KA ih (Hs j)) (Mq ih) (Mp ih) (Uh (j+1)) (Hs (j+1))
theorem Mw(k:Nat):Hv (run (k+1) .CY):=Vz
theorem Tw(k:Nat):LR (run (k+2) .BE):=VW (Mw k)
theorem OB(k:Nat):GR (run (k+1) .Bz):=Ur
theorem Jb:∀(n k:Nat),n+3<=k->Dg (run k .Bb) n
 |0,k,_=>λs hs=>absurd s.depth_pos (by lia)
 |n+1,k,h=>by
   obtain⟨j,rfl⟩:∃j,k=j+3:=fy (by lia);exact Vd (Jb n (j+2) (by lia)) (OB (j+1)) (Tw j)
theorem MH(k:Nat):Gx (run (k+1) .BV):=VP
theorem Lh(k:Nat):Iq (run (k+1) .DN):=QM
theorem Sn(k:Nat):Kk (run (k+2) .CO):=Us (Lh k)
theorem D7(k:Nat):DrawD (run (k+1) .AZ):=SN
theorem Gh(k:Nat):D1 (run (k+1) .Bi):=RQ
theorem Lo:∀(n k:Nat),n+2<=k->Dq (run k .BQ) n
 |0,k,_=>λd s r hd=>absurd hd (by lia)
 |n+1,k,h=>by
   obtain⟨j,rfl⟩:∃j,k=j+2:=fy (by lia);exact RM (G0 (D7 j)) (.inr (Lo n (j+1) (by lia)))
theorem Oy:∀(n k:Nat),n+2<=k->Hy (run k .BR) n
 |0,k,_=>λs _ _ hs=>absurd s.depth_pos (by lia)
 |n+1,k,h=>by
   obtain⟨j,rfl⟩:∃j,k=j+2:=fy (by lia);exact Xa (G0 (D7 j)) (.inr (Oy n (j+1) (by lia)))
theorem NE:∀(n k:Nat),n+2<=k->Dg (run k .BP) n
 |0,k,_=>λs hs=>absurd s.depth_pos (by lia)
 |n+1,k,h=>by
   obtain⟨j,rfl⟩:∃j,k=j+2:=fy (by lia);exact Pb (NE n (j+1) (by lia)) (VD)
theorem Pp(k:Nat):IX (run (k+3) .B0):=KL (Sn k)
theorem JX(k:Nat):GP (run (k+10) .BU):=Ly (Mo 3 (k+9) (by lia)) (Pp (k+6))
theorem RU(k:Nat):LU (run (k+11) .CL):=W2 (MH (k+9)) (JX k)
theorem Ts(k:Nat):Ir (run (k+7) .Bd):=Q0 (Jb 3 (k+6) (by lia))
theorem Sj(k:Nat):Jv (run (k+12) .CN):=Xn (Ts (k+4)) (RU k)
theorem L4(k:Nat):BXw (run (k+1) .Ct):=XB
theorem Zp(k:Nat):UXn (run (k+2) .Bx):=Zq (L4 k)
theorem Zj(k:Nat):SXn (run (k+2) .DF):=Zk (Nc k) (L4 k)
theorem MX:∀(n k:Nat),2*n+4<=k->Hx (run k .Bk) n
 |0,k,_=>λs hs=>absurd s.depth_pos (by lia)
 |n+1,k,h=>by
   obtain⟨j,rfl⟩:∃j,k=j+5:=fy (by lia);exact Px rfl rfl rfl rfl rfl (Zp (j+1)) (Zj (j+1)) (Mw (j+2)) (L4 (j+2)) (OB (j+2)) (MX n (j+3) (by lia))
theorem VH(k:Nat):Ss (run (k+11) .BF):=VF (MX 3 (k+10) (by lia))
theorem JV(k:Nat):ED (run (k+12) .Au):=Q6 (VH k) (Lh (k+10))
theorem Q7(k:Nat):ED (run (k+13) .An):=Tu (JV k)
theorem Pw(k:Nat):Hw (run (k+14) .Ar):=Nv (Q7 k)
theorem QR(k:Nat):OH (run (k+1) .Ay):=Tn
theorem OO(k:Nat):OE (run (k+15) .BG):=SC (JV (k+2)) (Pw k) (QR (k+13))
theorem Vs:OF (run 98 .BD):=Vr (G0 (D7 96)) (Lo 3 97 (by decide)) (Gh 96)
theorem Vu:So (run 99 .Br):=Vt (D7 97) Vs (Gh 97)
theorem Rz:OJ (run 99 .Cp):=T1 (NE 3 98 (by decide)) (Oy 3 98 (by decide)) (G0 (D7 97)) (Gh 97)
theorem Se(k:Nat):WBv (run (k+20) .Bo):=ZC (MH (k+18)) (Q0 (Jb 3 (k+18) (by lia))) (Po (JX (k+8)) (Hs (k+16)))
theorem law_true(ns:List Int)(h:ns.length<=63):∃S',run 100 .law_ [.scr ns] []=some (.bl true,S'):=by
 clear 5(Yq Vu Rz (OO 84) (Se 79) (D7 98) (Pd (D7 97)) (Gh 98) (Sj 87) (Pc (Se 78)) QV h)r S' e p;subst p;exact⟨S',e⟩
end K69
structure PySem.W.Fast:Prop where(tw10075049344177007377 tw10164874710295489557 tw10183358687811217211 tw10229579985651825977 tw10267722992609940555 tw10292032045944366075 tw10297902144496052372 tw10318243053823510854 tw10407994834867568840 tw1045758607562185307 tw10520255555657710531 tw10575564937735501155 tw10580947062603523922 tw1059719146506224740 tw1060655495122790986 tw10617186482311291652 tw1080435528562282173 tw10808556027685265190 tw10862343930771670248 tw1087162066056975313 tw10990046659281659357 tw10997996283593316497 tw11009366686363968657 tw1109552962207495029 tw11098744163604051731 tw11109153384034646888 tw11210574079294751531 tw11226080257879376331 tw11254575339165823565 tw11295267072000628244 tw11363793350036846352 tw11435318138663164901 tw11471582243696097712 tw11500578267420722149 tw11522665010564615953 tw11530815095481747827 tw11546680388020146472 tw11563272206150392934 tw11584067082128896923 tw11713456374115244376 tw11726574309405167869 tw11742529863689948967 tw11743315108258968797 tw11781402964067540704 tw11793632284313169380 tw11839190984809474022 tw11879847348463031168 tw11881034965947895309 tw1188854297943778281 tw11962031318407450414 tw11979727704754539153 tw1204906437932152474 tw12227641453788039997 tw12238934333771101902 tw12266530883620888599 tw12330824479673048604 tw12421265407135427005 tw12434824912586902402 tw1244579145843317034 tw12464733450825436357 tw12483628236735104604 tw12485168932822945264 tw12497947409071839269 tw12502401365472519096 tw12555522680583593912 tw12615552003412333897 tw12672436864463399617 tw12678797255122590762 tw12704397571030693072 tw12725236090877107023 tw12743159124341523448 tw12811299431025924087 tw12820018400542820717 tw12840321358938690810 tw12841078467597146405 tw12983328873677533822 tw13079224612107147213 tw13100697180879836476 tw1319810397201432375 tw13217197816925444716 tw13369162587988725231 tw13502513857644393832 tw13542151600303862203 tw13587000427622035343 tw13605357573513110637 tw1364098012683047040 tw13767810138065521519 tw13777307166976038294 tw13782230984777333408 tw13807510434713620462 tw13820511404245737990 tw13847867396148988254 tw13893172920962072591 tw13893473441596232587 tw13977461690565655313 tw14010474733441400174 tw14041040822029098673 tw14063328282840005258 tw14083469443254716579 tw14090966624193075511 tw14155643076485911732 tw14158920180637138654 tw14195595571784169286 tw14219688915794377923 tw14325919670394836077 tw14371576460905992382 tw14393389521001727923 tw14441645601899419908 tw14470312313856884257 tw14538982870367004834 tw14563163859903044695 tw14602150552971357885 tw14645953133077778876 tw14677220528081105863 tw14690788851843576108 tw14696202683996850344 tw14700921924669942613 tw14753145286659281677 tw14776324498773154726 tw1481539345246352850 tw14821112253654849738 tw14823562981397330308 tw1488327358993639267 tw14951687909908940838 tw149567789141748942 tw14977164850647162750 tw14982585955725648090 tw15019794130889562884 tw15262674664681843672 tw15389361549496054685 tw15403032636730691574 tw15476680538078574146 tw15479366268576203077 tw15513107866678222488 tw15549457536592001724 tw15593486758384872892 tw15609679537169760269 tw15629017300301415545 tw15632816525058738571 tw15761395900440866747 tw1576909961235596378 tw15778478351836896707 tw1578780847424244644 tw1581387598194104237 tw15845720829199187679 tw158503405878221982 tw15870648391946853890 tw15891108230690101943 tw15900403599395357696 tw1595621842787733064 tw1596823970923737291 tw16035447790167378059 tw16044535340941816883 tw16115210543921470886 tw1612134552294967214 tw16129647136935707853 tw16145203128751240460 tw1620624845395056208 tw1623414926346308347 tw16301031810474022242 tw16377371319017137895 tw16462599540859767585 tw16479368831573893153 tw16490720823268554525 tw16686083671972814205 tw16800105961624515768 tw16809291969054184000 tw1696234810528989334 tw16981324505418611415 tw16993015929619248755 tw1700504256944688102 tw17045386087955117804 tw17057504808279240226 tw17105889246562504473 tw17220087976877283006 tw17253021490912825568 tw1730880707835439535 tw17311186423011838586 tw17346277986962860949 tw17392760150106052666 tw17445776169779067200 tw17509223334786415197 tw17560512354227204004 tw17574400209266651006 tw17578226702151587238 tw17582451676282059779 tw17591753946015414991 tw17667533884265631997 tw17708809708216090565 tw17753541434954414999 tw17757719154948553877 tw17820953146144016331 tw17995854984705769364 tw1799852892285957000 tw18070839428438997594 tw1814130476491421297 tw18163450246791069233 tw18218042838422191407 tw18238005911423659133 tw18389551364231270731 tw18425789141557764878 tw1897932220584520557 tw1909654087848406556 tw2060912738789345133 tw206678352673421229 tw2124246933388572597 tw2127981248755209832 tw2158165654277969720 tw2214157117878262283 tw2335303966533020038 tw2370506917923485545 tw2439513196657692333 tw2483867351035631885 tw2543235938875746912 tw2595327771261207307 tw2611852221404277350 tw2626324430285986743 tw2637185219497225001 tw271328322601773112 tw2730072971167516671 tw2848793775333312982 tw2859847746122546337 tw2868487091214424765 tw2953616324021927431 tw2963763936999541039 tw3097517041066513373 tw3162911352586262132 tw3211013807497789908 tw3232481158153237131 tw3297607120954057438 tw3364081379058789941 tw337233437986716515 tw3373195106296488912 tw3382734243431244598 tw3391153638636384684 tw3398221728661133331 tw3517952388329249119 tw365449868417251805 tw3665661664998875586 tw3675651887067508189 tw3720634436914911244 tw3775660925045595416 tw3792234463813234780 tw3830068209796030810 tw3902548300663096092 tw3927378733282124715 tw3929802376439008209 tw3943594635560006096 tw3977480446809776366 tw4028685201790572507 tw4064527526832544564 tw4118625423053825670 tw4159176699784522280 tw417849264607304998 tw4215147615790909476 tw4231325048149010236 tw4286776384780559088 tw4292796277889030717 tw4478344866940155333 tw4495567879439647237 tw4542835263911998988 tw45951957913554175 tw4619192853153239779 tw4674339049831306199 tw4708197535234945127 tw478915161042804517 tw4808501653359503192 tw483231353063362650 tw4836606306358429437 tw48827336587429288 tw4922242753825249955 tw4964790764466175050 tw4966962531298610532 tw5065066067056628193 tw5127539538140741285 tw516823986894022740 tw5187587678385485468 tw5253494219738923705 tw5300162329666984452 tw5385163966215164927 tw5493176227393307998 tw5503532344368128791 tw5625100186585366960 tw5701711728549819338 tw5772619786834530451 tw5789209556155929880 tw5854730460128751537 tw5939646012542063436 tw5953898751736555826 tw5989209286004189617 tw6035103460292212861 tw6124535233360408701 tw6152234104768615655 tw6178380266940537154 tw6209048710982503583 tw621029258808791522 tw6219025159942918836 tw6306623045161409327 tw6319995509515586077 tw634077679134646338 tw6394915188181377744 tw6404858814832623938 tw6421707149504001178 tw6462706527453970945 tw6483866185003168600 tw654638972294959001 tw6556292340266890652 tw6588315626399497083 tw6605797933362737739 tw6669507972605142518 tw6727550312595823258 tw675467124330368030 tw6772422305439893586 tw6822798048648493749 tw684450587285527421 tw6848196210902752895 tw6880332105764289796 tw6898783162446927240 tw6991375667259379511 tw7004558768749390562 tw7031188449105718719 tw7074241245033917585 tw7297100501102651221 tw7359246601321232527 tw7379668420900781258 tw7509963842086454907 tw7549547732234019682 tw7596629332967853897 tw7767954355196554577 tw7775850411709470922 tw7847283280834895934 tw7861000464346694806 tw7912728811390605085 tw7966469601296045461 tw7967269873869089169 tw7973086406474354634 tw7983742691685339092 tw8071934044323618952 tw8218264291606491360 tw8225275708097288615 tw824014788174232495 tw8251639032739186345 tw8259920857960160118 tw8304289506158717585 tw8324512149608408062 tw8339878587204469004 tw8425740258273119442 tw8436208061774245916 tw8442973688397410319 tw847138618919705474 tw8609546341747577452 tw8734383129895010315 tw8746381012634021107 tw8752283289640110489 tw8909895874183623305 tw8950513094246703401 tw8974447975749277729 tw8987237479428778034 tw9035842741485209869 tw9072139254582623253 tw9084602725273217222 tw9090958967448979296 tw9100675081826336861 tw9128575506391417349 tw9237548259208496987 tw9292287635482482082 tw9339997034012234307 tw9358490515649800388 tw9358745196944656516 tw9399496977120824848 tw9417399940796005253 tw9458162424311029322 tw949893262232485881 tw9511020267029516177 tw9560562133265723291 tw9577093269158907178 tw9600877059816410098 tw9609682727692084223 tw9611027205049655151 tw9627329904504033000 tw9640517819458825804 tw9661793283585303965 tw9676813678940930508 tw9714426824396879196 tw9784308312231576815 tw9788545595407956131 tw9833710432733288549 tw9897841288641182850 tw9999260920895014260:True)
open PySem PySem.W PyProof.Rows
set_option maxRecDepth 100000 in
set_option maxHeartbeats 0 in
theorem PySem.Challenge.cw_wireparley_k69_whole_beside_and_back_holds : PySem.Challenge.rw_wireparley_k69_whole_beside_and_back.Holds := by
 w_on;o_law;k_head;(case hw=>w_witness2)
 k_fill
 refine K69.walk (l:=PySem.Challenge.rw_wireparley_k69_whole_beside_and_back) 100 ⟨rfl,by decide,by decide⟩ rfl rfl (λw h Y=>PySem.W.kIn_of Y) K69.law_true ?F
 case F=>
  intro w mg fa h KX G hmg;refine' K69.fin_mk KX G hmg ?H ?eN ?eC ?eR ?dZ ?eQ ?eL ?eW ?eY ?eZ ?eK ?eX ?eJ ?d9 ?dY ?d8 ?eE ?xm ?fD ?fK ?eU ?fA ?fH ?fM ?d7 ?eP ?eS
  (case H=>intro x;cases x<;>first|(refine' K69.at_mk rfl ?a ?l ?c ?k;(case a=>k_is);(case l=>k_is);(case c=>k_is);(case k=>k_is))|(refine' K69.Xw rfl ?h ?a ?l ?c ?k ?t;(case h=>k_is);(case a=>k_is);(case l=>k_is);(case c=>k_is);(case k=>k_is);(case t=>k_is)))
  (case fD=>k_is)
  (case fK=>k_is)
  (case eU=>k_is)
  (case fA=>k_is)
  (case fH=>k_is)
  (case fM=>k_is)
  (case d7=>k_is)
  (case eP=>kernel_rfl)
  (case eS=>kernel_rfl)
  (case eN=>k_is)
  (case eC=>k_is)
  (case eR=>k_is)
  (case dZ=>k_is)
  (case eQ=>k_is)
  (case eL=>k_is)
  (case eW=>k_is)
  (case eY=>k_is)
  (case eZ=>k_is)
  (case eK=>k_is)
  (case eX=>k_is)
  (case eJ=>k_is)
  (case d9=>k_is)
  (case dY=>k_is)
  (case d8=>k_is)
  (case eE=>k_is)
  (case xm=>refine' K69.xm_all KX G ?x_p ?x_a1 ?x_a2 ?x_q ?x_nd ?x_n1;(case x_p=>k_is);(case x_a1=>k_is);(case x_a2=>k_is);(case x_q=>kernel_rfl);(case x_nd=>decide);(case x_n1=>kernel_rfl))
