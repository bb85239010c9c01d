import PyProof.Rows.All
import Wide.All
import OpenK.AllK
import Wide.FinOn
import Lean
import PyProof.EqAt
import PyProof.EqKinds
import PyProof.TupleCall
import PyProof.NeKinds
import PyProof.ListMulRoad
import PyProof.MaxThree
import PyProof.Rows.StrJoinMade
import PyProof.ListStr
import PyProof.Rows.MinMaxN
import PyProof.Rows.Range3
import PyProof.ListRange
import PyProof.Rows.SetFrom
import PyProof.Rows.StrCase
import PyProof.SumAny
import PyProof.AutoIntG2
import PyProof.AutoListH
import PyProof.EnumStmt
import PyProof.EnumFor
import PyProof.EnumMake
import PyProof.Rows.EnumRows
import PyProof.ConsumeS
import PyProof.Rows.SortWalk
import KE.KDictSum
import PyProof.ZipIter
import KE.KEqDict
import PyProof.ExcClass2
import PyProof.RaisesMany
import PyProof.ExcBaseAll.ValueError
import PyProof.RulesDel
import PyProof.RulesAs
import PyProof.ExcArgs
import KE.KDictOf
import PyProof.AttrMissHeap
import KE.KMinKey
import PyProof.Rows.CallKwBuiltin
import PyProof.RulesTry
import PySem.Challenge.RW_wireparley_k99_whole_at_once
noncomputable section
abbrev fg:=PySem.Value
abbrev fh:=PySem.Addr
abbrev fj:=PySem.Shared
abbrev fk:=PySem.Program
abbrev fq:=PySem.World
abbrev ft:=PySem.FuncData
def fu:=@PySem.Calls.Name_function_global
def fv:=@Int.fdiv_eq_ediv_of_nonneg
def fx:=@PySem.F.slot_list_append
def fy:=@PySem.F.type_list_append
def fz:=@PySem.F.slot_list_extend
def gb:=@PySem.F.type_list_extend
def ge:=@PySem.F.slot_list_insert
def gf:=@Nat.exists_eq_add_of_le'
def gg:=@List.set_eq_of_length_le
def gh:=@PySem.W.cellsFrom_some
def gi:=@List.range_succ_eq_map
def gj:=@List.drop_eq_nil_of_le
def gk:=@List.append_eq_nil_iff
def gl:=@List.filter_eq_nil_iff
def gm:=@List.drop_of_length_le
def gn:=@PySem.Obj.isFreed_of_fields
def gp:=@beq_eq_false_iff_ne
def gq:=@PySem.mem_of_lookup
def gu:=@PySem.wpAny_isSubtype_exc
def gw:=@PySem.wpAny_Call_Name_kw
def gy:=@PySem.wpAny_truthy_bool
def gz:=@PySem.wpAny_newObj_type
def gD:=@PySem.wpAny_loadPart_at
def gE:=@PySem.wpAny_execs_nil
def gF:=@PySem.wpAny_passesOwn
def gG:=@PySem.PassesOwn.never
def gH:=@PySem.wpAny_setField
def gI:=@PySem.wpAny_standAt
def gJ:=@Bool.false_or
def gK:=@Bool.and_true
def gL:=@List.set_comm
def gM:=@Nat.le_of_lt
def gN:=@Nat.le_of_eq
def gO:=@PySem.codeAny_mono
def gP:=@Nat.mul_comm
def gQ:=@Nat.lt_or_ge
def gR:=@PySem.sizeLine_eq
def gS:=@beq_iff_eq
def gU:=@PySem.wpAny_call
def gW:=@PySem.typeIs_int
def gX:=@PySem.call_meets
def gY:=@congrArg
def gZ:=@if_false
def hJ:=@or_false
def hU:=@if_true
def hV:=@Iff.rfl
def hX:=@if_pos
def ia:=@if_neg
local macro_rules|`(tactic|clear 5 $t $[$a:ident]*)=>`(tactic|obtain⟨$[$a:ident],*⟩:=$t)
abbrev fc:=PySem.W.Frag
open PySem.W (codeIn)
def ua0:=@PyProof.Rows.slot_tuple_getitem
def ua1:=@List.eq_nil_of_length_eq_zero
def ua2:=@PyProof.Rows.callWith_type1
def ua3:=@PySem.F.slot_int_bit_length
def ua4:=@List.getElem?_append_right
def ua5:=@Array.getElem?_eq_some_iff
def ua6:=@List.getD_eq_getElem?_getD
def ua7:=@List.getElem?_eq_some_iff
def ua8:=@List.getElem?_append_left
def ua9:=@List.drop_eq_getElem_cons
def ub0:=@List.getElem?_eq_none_iff
def ub1:=@List.getElem?_take_of_lt
def ub2:=@List.getElem?_eq_getElem
def ub3:=@List.getElem?_replicate
def ub4:=@PySem.F.plainAttrs_list
def ub5:=@List.getElem?_cons_succ
def ub6:=@Int.eq_ofNat_of_zero_le
def ub7:=@List.filter_cons_of_pos
def ub8:=@List.filter_cons_of_neg
def ub9:=@List.getElem?_set_self
def uc0:=@PySem.Heap.get?_push_of_some
def uc1:=@PySem.Heap.get?_update_other
def uc2:=@Option.map_eq_some_iff
def uc3:=@List.take_of_length_le
def uc4:=@Nat.div_div_eq_div_mul
def uc5:=@Nat.le_of_succ_le_succ
def uc6:=@List.mem_append_right
def uc7:=@List.length_replicate
def uc8:=@PySem.Heap.get?_update_self
def uc9:=@List.length_singleton
def ud0:=@Nat.le_of_ble_eq_true
def ud1:=@List.take_append_drop
def ud2:=@List.mem_iff_getElem?
def ud3:=@List.getElem?_eq_none
def ud4:=@List.length_filter_le
def ud5:=@List.mem_cons_of_mem
def ud6:=@List.mem_append_left
def ud7:=@List.getElem?_set_ne
def ud8:=@List.mem_of_getElem?
def ud9:=@List.mem_of_mem_take
def ue0:=@List.mem_of_mem_drop
def ue1:=@List.filterMap_cons
def ue2:=@Array.length_toList
def ue3:=@PySem.Heap.get?_push_size
def ue4:=@PySem.W.plainGet_of
def ue5:=@List.replicate_succ
def ue6:=@List.map_congr_left
def ue7:=@List.getElem?_range
def ue8:=@List.take_succ_cons
def ue9:=@Nat.lt_of_lt_of_le
def uf0:=@List.mem_cons_self
def uf1:=@Bool.false_ne_true
def uf2:=@PySem.W.callWith_K
def uf3:=@List.length_append
def uf4:=@Bool.false_eq_true
def uf5:=@List.mem_singleton
def uf6:=@List.length_range'
def uf7:=@List.filter_append
def uf8:=@Int.emod_lt_of_pos
def uf9:=@PySem.W.mg_none_of
def ug0:=@List.size_toArray
def ug1:=@List.getElem?_map
def ug2:=@List.flatten_cons
def ug3:=@List.append_assoc
def ug4:=@Bool.eq_false_iff
def ug5:=@List.getElem?_set
def ug6:=@List.length_range
def ug7:=@Int.toNat_natCast
def ug8:=@decide_eq_true_eq
def ug9:=@of_decide_eq_true
def uh0:=@List.getElem_inj
def uh1:=@List.length_cons
def uh2:=@Nat.lt_succ_self
def uh3:=@List.length_take
def uh4:=@List.length_drop
def uh5:=@Bool.and_eq_true
def uh6:=@List.lookup_cons
def uh7:=@List.drop_length
def uh8:=@Nat.le_add_right
def uh9:=@List.all_eq_true
def ui0:=@List.not_mem_nil
def ui1:=@List.getElem_mem
def ui2:=@List.cons_append
def ui3:=@Option.getD_some
def ui4:=@List.take_length
def ui5:=@beq_self_eq_true
def ui6:=@List.mem_append
def ui7:=@Option.some.inj
def ui8:=@List.length_map
def ui9:=@PySem.W.kia_one
def uj0:=@List.append_nil
def uj1:=@List.nodup_cons
def uj2:=@List.of_mem_zip
def uj3:=@List.length_set
def uj4:=@List.foldl_cons
def uj5:=@List.nil_append
def uj6:=@List.find?_cons
def uj7:=@List.length_nil
def uj8:=@Option.map_some
def uj9:=@List.map_append
def uk0:=@List.map_const'
def uk1:=@Int.emod_nonneg
def uk2:=@List.head?_drop
def uk3:=@decide_eq_false
def uk4:=@List.mem_range
def uk5:=@Bool.false_and
def uk6:=@PySem.Heap.size_push
def uk7:=@Bool.and_false
def uk8:=@List.drop_zero
def uk9:=@List.tail_drop
def ul0:=@decide_eq_true
def ul1:=@Nat.lt_irrefl
def ul2:=@List.mem_cons
def ul3:=@List.map_cons
def ul4:=@Bool.or_false
def ul5:=@List.any_cons
def ul6:=@List.all_cons
def ul7:=@List.map_take
def ul8:=@Bool.true_and
def ul9:=@Nat.add_assoc
def um0:=@Bool.and_self
def um1:=@PySem.W.mg_of
def um2:=@PySem.wpAny_holding
def um3:=@PySem.Heap.lt_size
def um4:=@Nat.ne_of_lt
def um5:=@Nat.le_trans
def um6:=@Nat.ne_of_gt
def um7:=@Nat.add_comm
def um8:=@List.map_nil
def um9:=@Nat.zero_add
def un0:=@Nat.pow_zero
def un1:=@Nat.pow_succ
def un2:=@List.mem_map
def un3:=@List.map_map
def un4:=@Nat.sub_self
def un5:=@Int.zero_add
def un6:=@Nat.le_refl
def un7:=@Nat.zero_le
def un8:=@Nat.le_succ
def un9:=@Nat.div_one
def uo0:=@PySem.wpAny_field
def uo1:=@PySem.wpAny_bind
def uo2:=@PySem.wpAny_pure
def uo3:=@PySem.wpAny_mono
set_option Elab.async false
set_option linter.all false
set_option maxRecDepth 100000
set_option bootstrap.genMatcherCode false
set_option genSizeOf false
set_option maxHeartbeats 4000000
local macro_rules | `(tactic| walk_at"h") => `(tactic| first|exact Or.inl rfl|exact Or.inr rfl|exact Or.inr (Or.inl rfl)|exact Or.inr (Or.inr rfl)|assumption)
namespace L2
open PySem PySem.Spec PyProof.Rows
abbrev Key:=Sum Int Str
noncomputable def IT:Key->fg->Bool
 |.inl k,v=>Value.isInt k v
 |.inr x,v=>Value.isStrOf x v
noncomputable def b6(w:fq):Key->Int
 |.inl k=>hashInt k
 |.inr x=>hashStr w x
theorem BK:∀{k:Key}{v:fg},IT k v=true->(∃i t,k=Sum.inl i/\v=Value.int i t)\/(∃x t,k=Sum.inr x/\v=Value.str x t)
 |.inl i,v,h=>by
   clear 5(Value.isInt_shape (k:=i) (v:=v) h)t e;exact .inl ⟨i,t,rfl,e⟩
 |.inr x,v,h=>by
   clear 5(Value.isStrOf_shape (x:=x) (v:=v) h)t e;exact .inr ⟨x,t,rfl,e⟩
theorem Ru(i:Int)(t:Tok):IT (.inl i) (.int i t)=true:=by simp[IT,Value.isInt]
theorem Rv(x:Str)(t:Tok):IT (.inr x) (.str x t)=true:=by simp[IT,Value.isStrOf]
theorem Yw(a b:Int):decide ((Sum.inl a:Key)=Sum.inl b)=(a==b):=by
 by_cases e:a=b
 .subst e;simp
 .have h:¬(Sum.inl a:Key)=Sum.inl b:=λq=>e (Sum.inl.inj q);rw[uk3 h];exact(gp.mpr e).symm
theorem Yz(a b:Str):decide ((Sum.inr a:Key)=Sum.inr b)=decide (a=b):=by
 by_cases e:a=b
 .subst e;simp
 .have h:¬(Sum.inr a:Key)=Sum.inr b:=λq=>e (Sum.inr.inj q);rw[uk3 h,uk3 e]
theorem Yx(a:Int)(b:Str):decide ((Sum.inl a:Key)=Sum.inr b)=false:=uk3 (λq=>nomatch q)
theorem Yy(a:Str)(b:Int):decide ((Sum.inr a:Key)=Sum.inl b)=false:=uk3 (λq=>nomatch q)
def CQ(prog:fk)(w:fq):PySem.KeyKind prog w Key where
 is:=IT
 hash:=b6 w
 inj:=λv a b ha hb=>by
  rcases BK ha with⟨i,t,rfl,rfl⟩|⟨x,t,rfl,rfl⟩
  .rcases BK hb with⟨j,u,rfl,e⟩|⟨y,u,rfl,e⟩
   .injection e with e1 _;rw[e1]
   .exact nomatch e
  .rcases BK hb with⟨j,u,rfl,e⟩|⟨y,u,rfl,e⟩
   .exact nomatch e
   .injection e with e1 _;rw[e1]
 byValue:=λk v h=>by
  rcases BK h with⟨i,t,rfl,rfl⟩|⟨x,t,rfl,rfl⟩<;>rfl
 pyHash:=λhv h=>by
  rcases BK hv with⟨i,t,rfl,rfl⟩|⟨x,t,rfl,rfl⟩
  .exact wpAny_pyHash_int h
  .exact wpAny_pyHash_str h
 eqBool:=λhu hv h=>by
  rcases BK hu with⟨i,t,rfl,rfl⟩|⟨x,t,rfl,rfl⟩
  .rcases BK hv with⟨j,u,rfl,rfl⟩|⟨y,u,rfl,rfl⟩
   .rw[Yw] at h;exact wpAny_eqBool_int h
   .rw[Yx] at h;exact SeqAt.EqAt.int_str i t y u _ _ _ _ h
  .rcases BK hv with⟨j,u,rfl,rfl⟩|⟨y,u,rfl,rfl⟩
   .rw[Yy] at h;exact SeqAt.EqAt.str_int x t j u _ _ _ _ h
   .rw[Yz] at h;exact wpAny_eqBool_str h
 «strs»:=λk x t v h=>by
  rcases BK h with⟨i,u,rfl,e⟩|⟨y,u,rfl,e⟩
  .exact nomatch e
  .injection e with e1 _
   subst e1
   cases v<;>rfl
theorem N7(prog:fk)(w:fq)(i:Int)(t:Tok):(CQ prog w).is (.inl i) (.int i t)=true:=Ru i t
theorem N8(prog:fk)(w:fq)(x:Str)(t:Tok):(CQ prog w).is (.inr x) (.str x t)=true:=Rv x t
inductive V where
 |non|bl (b:Bool)|int (i:Int)|str (x:Str)|byt (b:Array UInt8)|flt (b:UInt64)|ref (a:fh)|ty (n:String)
 deriving DecidableEq
noncomputable def RelV:V->fg->Prop
 |.non,u=>u=Value.none
 |.bl b,u=>u=Value.bool b
 |.int i,u=>∃t,u=Value.int i t
 |.str x,u=>∃t,u=Value.str x t
 |.byt b,u=>∃t,u=Value.bytes b t
 |.flt b,u=>∃t,u=Value.float b t
 |.ref a,u=>u=Value.ref a
 |.ty n,u=>u=Value.type n
abbrev Vals:List V->List fg->Prop:=Paired RelV
theorem Vals.length{xs:List V}{us:List fg}(r:Vals xs us):xs.length=us.length:=Paired.length r
theorem Vals.get:∀{xs:List V}{us:List fg}{i:Nat}{x:V},Vals xs us->xs[i]?=some x->∃u,us[i]?=some u/\RelV x u
 |_,_,_,_,.nil,e=>by simp at e
 |_,_,0,_,.cons r _,e=>by simp at e;subst e;exact⟨_,rfl,r⟩
 |_,_,i+1,x,.cons _ t,e=>by
   clear 5(Vals.get (i:=i) (x:=x) t (by simpa using e))u h1 h2;exact⟨u,by simpa using h1,h2⟩
theorem Vals.set{x:V}{u:fg}(r:RelV x u):∀{xs:List V}{us:List fg} (i:Nat),Vals xs us->Vals (xs.set i x) (us.set i u)
 |_,_,_,.nil=>.nil
 |_,_,0,.cons _ t=>.cons r t
 |_,_,i+1,.cons q t=>.cons q (Vals.set r i t)
theorem Vals.append{xs ys:List V}{us ws:List fg}(r:Vals xs us)(s:Vals ys ws):Vals (xs++ys) (us++ws):=by
 cases r with
 |nil=>exact s
 |cons r t=>exact .cons r (Vals.append t s)
theorem Vals.take:∀{xs:List V}{us:List fg} (n:Nat),Vals xs us->Vals (xs.take n) (us.take n)
 |_,_,0,_=>.nil
 |_,_,_+1,.nil=>.nil
 |_,_,n+1,.cons r t=>.cons r (Vals.take n t)
theorem Vals.drop:∀{xs:List V}{us:List fg} (n:Nat),Vals xs us->Vals (xs.drop n) (us.drop n)
 |_,_,0,r=>r
 |_,_,_+1,.nil=>.nil
 |_,_,n+1,.cons _ t=>Vals.drop n t
def RelO:Option V->Option fg->Prop
 |some v,some u=>RelV v u
 |none,none=>True
 |_,_=>False
def KV{κ:Type}:List (κ×V)->List (κ×fg)->Prop:=Paired λ(p:κ×V) (q:κ×fg)=>p.1=q.1/\RelV p.2 q.2
noncomputable def kV:Key->V
 |.inl i=>.int i
 |.inr x=>.str x
set_option genInjectivity false in inductive HO where
 /-- a list -/
 |lst (xs:List V)
 /-- a tuple (never changes) -/
 |tup (xs:List V)
 /-- a dict whose keys are ints and texts;one whose keys are tuples of ints and texts (the empty one is both) -/
 |dK (kvs:List (Key×V))|dT (kvs:List (List Key×V))
 /-- a set of ints: its members,its size -/
 |set (S:Int->Bool) (n:Nat)
 /-- an instance of the class at C,its dict at dx,its attributes -/
 |ins (C dx:fh) (fs:List (Str×V))
 /-- the dict of the instance at x -/
 |own (x:fh)
 /-- the dict of an exception -/
 |xd (fs:List (Str×V))
 /-- a bound method,f of x -/
 |met (f x:fh)
 /-- a range object lo,lo+1,.. below hi -/
 |rng (lo hi:Int)
 /-- a thing that is known to the object (the script;a dict while a loop walks it): read,never written while it is so -/
 |frz (o:Obj) (u:HO)
 /-- a code object's table -/
 |tbl (ps:Array fg)
 /-- any other thing,by what is true of its one object (a def of one's own: SetO a S n:=HO.ext λh=>..) -/
 |ext (φ:Heap->Prop)
abbrev Hp:=fh->Option HO
noncomputable def upd(H:Hp)(a:fh)(o:HO):Hp:=λb=>if b=a then some o else H b
section
variable{H:Hp}{a:fh}
theorem AL{o:HO}:upd H a o a=some o:=by unfold upd;rw[hX rfl]
variable{b:fh}
theorem Av{o:HO}(h:b≠a):upd H a o b=H b:=by unfold upd;rw[ia h]
theorem AG{o:HO}(h:H a=some o)(h':H b=none):a≠b:=by
 intro e;subst e;rw[h] at h';cases h'
section
variable(P:fk)(w:fq)
def ObjOk(H:Hp)(h:Heap)(a:fh):HO->Prop
 |.lst xs=>xs.length<=sizeLine/\∃(its:List fg) (n:Nat),Vals xs its/\h.get? a=some {cls:=.type "list",data:=.seq its.toArray n}
 |.tup xs=>xs.length<=sizeLine/\∃its:List fg,Vals xs its/\IsTup h a its.toArray
 |.dK kvs=>kvs.length<=sizeLine/\(a==sysModules)=false/\∃vs,KV kvs vs/\h.DictOf (CQ P w) a vs
 | .dT kvs=>kvs.length<=sizeLine/\(a == sysModules)=false/\∃xs:List (List Key×fh×fg),
    Paired (λ(p:List Key×V) (q:List Key×fh×fg)=>p.1=q.1/\H q.2.1=some (.tup (p.1.map kV))/\RelV p.2 q.2.2) kvs xs/\
    ∃o es ep,h.get? a=some o/\o.ExactDict/\o.data=.dict es ep/\es.toList=xs.map (entryOfKey (tupleKind (CQ P w)))/\(xs.map (·.1)).Nodup
 |.set S n=>h.SetOf (intKind P w) a S n
 | .ins C dx fs=>H dx=some (.own a)/\fs.length<=1000/\dx≠a/\h.get? a=some (PySem.W.instObj C dx)/\
    ∃mA,h.Ns1 dx mA/\(∀f,RelO (fs.lookup f) (mA f))/\PySem.Within mA (fs.map (·.1))
 |.own _=>∃o,h.get? a=some o
 |.xd fs=>∃mA,h.Ns1 a mA/\∀f,RelO (fs.lookup f) (mA f)
 |.rng lo hi=>∃t u v,h.get? a=some {cls:=.type "range",data:=.fields #[.int lo t,.int hi u,.int 1 v]}
 |.frz o u=>h.get? a=some o/\ObjOk H h a u
 |.tbl ps=>h.get? a=some {cls:=.none,data:=.fields ps}
 |.met f x=>h.get? a=some (PySem.W.methodObj (.ref f) (.ref x))
 |.ext φ=>φ h/\(∃o,h.get? a=some o)/\∀h1 h2:Heap,φ h1->(∀o,h1.get? a=some o->h2.get? a=some o)->φ h2
def HOk(H:Hp)(h:Heap):Prop:=∀a o,H a=some o->ObjOk P w H h a o
end
section
variable{P:fk}{w:fq}{H H':Hp}{h h':Heap}{a:fh}{o:HO}
theorem ObjOk.lt(x:ObjOk P w H h a o):a<h.objs.size:=by
 cases o with
 |lst xs=>obtain⟨_,_,_,_,e⟩:=x;exact um3 e
 |tup xs=>obtain⟨_,_,_,p⟩:=x;exact p.lt
 |dK kvs=>obtain⟨_,_,_,_,o,_,_,e,_⟩:=x;exact um3 e
 |dT kvs=>obtain⟨_,_,_,_,o,_,_,e,_⟩:=x;exact um3 e
 |set S n=>obtain⟨o,_,_,_,e,_⟩:=x;exact um3 e
 |ins C dx fs=>obtain⟨_,_,_,e,_⟩:=x;exact um3 e
 |own y=>obtain⟨_,e⟩:=x;exact um3 e
 |xd fs=>obtain⟨_,⟨_,_,_,e,_⟩,_⟩:=x;exact um3 e
 |rng lo hi=>obtain⟨_,_,_,e⟩:=x;exact um3 e
 |frz ob u=>obtain⟨e,_⟩:=x;exact um3 e
 |tbl ps=>exact um3 (show h.get? a=some _ from x)
 |met f y=>exact um3 (show h.get? a=some _ from x)
 |ext φ=>obtain⟨_,⟨_,e⟩,_⟩:=x;exact um3 e
theorem Paired.mapP{α β:Type}{F G:α->β->Prop}:∀{l₁:List α}{l₂:List β},Paired F l₁ l₂->(∀a b,F a b->G a b)->Paired G l₁ l₂
 |_,_,.nil,_=>.nil
 |_,_,.cons r t,f=>.cons (f _ _ r) (Paired.mapP t f)
theorem ObjOk.stay(x:ObjOk P w H h a o)(k:∀b u,(b=a\/H b=some (.own a))->h.get? b=some u->h'.get? b=some u)
 (ho:∀b,H b=some (.own a)->H' b=some (.own a)) (ht:∀b xs,H b=some (.tup xs)->H' b=some (.tup xs)):ObjOk P w H' h' a o:=by
 induction o with
 |lst xs=>clear 5 x z its n r e;exact⟨z,its,n,r,k _ _ (.inl rfl) e⟩
 |tup xs=>clear 5 x z its r ob e c;exact⟨z,its,r,ob,k _ _ (.inl rfl) e,c⟩
 |dK kvs=>clear 5 x z y vs r ob es ep e c;exact⟨z,y,vs,r,ob,es,ep,k _ _ (.inl rfl) e,c⟩
 |dT kvs=>
   clear 5 x z y xs r ob es ep e c;exact⟨z,y,xs,Paired.mapP r λp q z=>⟨z.1,ht _ _ z.2.1,z.2.2⟩,ob,es,ep,k _ _ (.inl rfl) e,c⟩
 |set S n=>clear 5 x ob es ep t e c;exact⟨ob,es,ep,t,k _ _ (.inl rfl) e,c⟩
 |ins C dx fs=>
   obtain⟨d,z,ne,e,mA,⟨od,es,ep,e2,c⟩,r⟩:=x;exact⟨ho _ d,z,ne,k _ _ (.inl rfl) e,mA,⟨od,es,ep,k _ _ (.inr d) e2,c⟩,r⟩
 |own y=>clear 5 x ob e;exact⟨ob,k _ _ (.inl rfl) e⟩
 |xd fs=>obtain⟨mA,⟨od,es,ep,e,c⟩,r⟩:=x;exact⟨mA,⟨od,es,ep,k _ _ (.inl rfl) e,c⟩,r⟩
 |rng lo hi=>clear 5 x t u v e;exact⟨t,u,v,k _ _ (.inl rfl) e⟩
 |frz ob u ih=>clear 5 x e q;exact⟨k _ _ (.inl rfl) e,ih q⟩
 |tbl ps=>
   have e:h.get? a=some {cls:=.none,data:=.fields ps}:=x;show h'.get? a=some {cls:=.none,data:=.fields ps};exact k a _ (.inl rfl) e
 |met f y=>
   have e:h.get? a=some (PySem.W.methodObj (.ref f) (.ref y)):=x;show h'.get? a=some (PySem.W.methodObj (.ref f) (.ref y));exact k a _ (.inl rfl) e
 |ext φ=>obtain⟨p,⟨o,e⟩,st⟩:=x;exact⟨st _ _ p λo q=>k _ _ (.inl rfl) q,⟨o,k _ _ (.inl rfl) e⟩,st⟩
theorem HOk.lt(x:HOk P w H h)(e:H a=some o):a<h.objs.size:=(x a o e).lt
theorem HOk.fresh(x:HOk P w H h)(e:h.objs.size<=a):H a=none:=by
 cases q:H a with
 |none=>rfl
 |some u=>exact absurd (ue9 (x.lt q) e) (ul1 _)
theorem HOk.kept(x:HOk P w H h)(k:∀b u,h.get? b=some u->h'.get? b=some u):HOk P w H h':=λa o e=>
 (x a o e).stay (λb u _ q=>k b u q) (λ_ q=>q) λ_ _ q=>q
theorem HOk.laid(x:HOk P w H h)(k:∀b u,h.get? b=some u->h'.get? b=some u)(hp:h.objs.size<=a)(new:ObjOk P w (upd H a o) h' a o):HOk P w (upd H a o) h':=λb u e=>by
 have hn:=x.fresh hp
 by_cases hb:b=a
 .subst hb;rw[AL] at e;cases e;exact new
 .rw[Av hb] at e;exact(x b u e).stay (λc v _ q=>k c v q) (λc q=>by rw[Av (AG q hn)];exact q) λc xs q=>by rw[Av (AG q hn)];exact q
end
noncomputable def Rd(H:Hp)(a:fh)(u:HO):Prop:=H a=some u\/∃o,H a=some (.frz o u)
variable{P:fk}{w:fq}{h:Heap}
theorem Rd.ok{u:HO}(r:Rd H a u)(x:HOk P w H h):ObjOk P w H h a u:=by
 rcases r with r|⟨o,r⟩
 .exact x a u r
 .obtain⟨_,q⟩:=x a _ r;exact q
def Mut:Option HO->Prop
 |some (.lst _)=>True
 |some (.dK _)=>True
 |some (.dT _)=>True
 |some (.set _ _)=>True
 |some (.ins _ _ _)=>True
 |some (.ext _)=>True
 |_=>False
section
variable{P:fk}{w:fq}{H:Hp}{h h':Heap}{x e:fh}{o':HO}
theorem HOk.write(ok:HOk P w H h)(mu:Mut (H x))(he:e=x\/H e=some (.own x))(k:∀b u,b≠e->h.get? b=some u->h'.get? b=some u)(heo:∃u,h'.get? e=some u)
 (new:ObjOk P w (upd H x o') h' x o'):HOk P w (upd H x o') h':=λb u q=>by
 have nown:∀c y,H c=some (.own y)->c≠x:=λc y r z=>by subst z;rw[r] at mu;exact mu
 have ntup:∀c xs,H c=some (.tup xs)->c≠x:=λc xs r z=>by subst z;rw[r] at mu;exact mu
 by_cases hb:b=x
 .subst hb;rw[AL] at q;cases q;exact new
 .rw[Av hb] at q
  by_cases hbe:b=e
  .have q':H b=some (.own x):=by
    rcases he with z|z
    .exact absurd (hbe.trans z) hb
    .rw[hbe];exact z
   rw[q] at q';cases q'
   clear 5 heo v hv;exact⟨v,by rw[hbe];exact hv⟩
  .refine(ok b u q).stay (λc v hc r=>k c v ?_ r) (λc r=>by rw[Av (nown c b r)];exact r) λc xs r=>by rw[Av (ntup c xs r)];exact r
   rcases hc with rfl|hc
   .exact hbe
   .rintro rfl;rcases he with z|z
    .exact nown c b hc z
    .rw[hc] at z;cases z;exact hb rfl
end
structure Un(fs ex:List fh)(H H':Hp)(h h':Heap):Prop where
 keep:∀b o,h.get? b=some o->H b=none->b∉fs->b∉ex->h'.get? b=some o
 slot:∀b o,h.get? b=some o->H b=none->b∈fs->b∉ex->∃sl,h'.get? b=some {o with slots:=sl}
 free:∀b o,h.get? b=some o->H b=none->b∉ex->H' b=none
 there:∀b o,h.get? b=some o->b∉ex->∃o',h'.get? b=some o'
 tups:∀b xs,H b=some (.tup xs)->H' b=some (.tup xs)
 frzs:∀b o u,H b=some (.frz o u)->H' b=some (.frz o u)
 tbls:∀b ps,H b=some (.tbl ps)->∃more,H' b=some (.tbl (ps++more))
section
variable{fs fs' ex ex':List fh}{H H1 H2:Hp}{h h1 h2 h':Heap}{a x e:fh}{o:HO}
theorem Un.any(u:Un fs ex H H1 h h1){b:fh}{ob:Obj}(q:h.get? b=some ob)(n:H b=none)(hx:b∉ex):∃sl,h1.get? b=some {ob with slots:=sl}:=by
 by_cases hb:b∈fs
 .exact u.slot b ob q n hb hx
 .exact⟨ob.slots,u.keep b ob q n hb hx⟩
theorem Un.kept(k:∀b u,h.get? b=some u->h'.get? b=some u):Un fs ex H H h h':=
 ⟨λb ob q _ _ _=>k b ob q,λb ob q _ _ _=>⟨ob.slots,k b ob q⟩,λ_ _ _ n _=>n,λb ob q _=>⟨ob,k b ob q⟩,λ_ _ q=>q,λ_ _ _ q=>q,λ_ ps q=>⟨#[],by rw[q];simp⟩⟩
theorem Un.refl:Un fs ex H H h h:=Un.kept λ_ _ q=>q
theorem Un.laid(k:∀b u,h.get? b=some u->h'.get? b=some u)(hp:h.objs.size<=a)(hn:H a=none):Un fs ex H (upd H a o) h h' where
 keep:=λb u q _ _ _=>k b u q
 slot:=λb u q _ _ _=>⟨u.slots,k b u q⟩
 free:=λb u q n _=>by rw[Av (um4 (ue9 (um3 q) hp))];exact n
 there:=λb u q _=>⟨u,k b u q⟩
 tups:=λb xs q=>by rw[Av (AG q hn)];exact q
 frzs:=λb u xs q=>by rw[Av (AG q hn)];exact q
 tbls:=λb ps q=>⟨#[],by rw[Av (AG q hn),q];simp⟩
theorem Un.write(mu:Mut (H x))(he:e=x\/H e=some (.own x))(k:∀b u,b≠e->h.get? b=some u->h'.get? b=some u)(heo:∃u,h'.get? e=some u):Un fs ex H (upd H x o) h h':=by
 have hx:∀b,H b=none->b≠x:=λb n z=>by subst z;rw[n] at mu;exact mu
 have hb:∀b,H b=none->b≠e:=λb n z=>by
  subst z;rcases he with r|r
  .exact hx b n r
  .rw[n] at r;cases r
 have hm:∀b u,H b=some u->¬Mut (some u)->b≠x:=λb u q nm z=>by subst z;rw[q] at mu;exact nm mu
 refine⟨λb u q n _ _=>k b u (hb b n) q,λb u q n _ _=>⟨u.slots,k b u (hb b n) q⟩,λb u q n _=>by rw[Av (hx b n)];exact n,λb u q _=>?_,
  λb xs q=>by rw[Av (hm b _ q λz=>z)];exact q,λb u xs q=>by rw[Av (hm b _ q λz=>z)];exact q,λb ps q=>⟨#[],by rw[Av (hm b _ q λz=>z),q];simp⟩⟩
 by_cases hbe:b=e
 .subst hbe;exact heo
 .exact⟨u,k b u hbe q⟩
end
noncomputable def trk(h:Heap)(H:Hp):List fh:=(List.range h.objs.size).filter λa=>(H a).isSome
def Hj(h:Heap)(H:Hp):Heap:=PySem.W.hideAll h (trk h H)
theorem Rm(h:Heap)(H:Hp):(Hj h H).objs.size=h.objs.size:=PySem.W.hideAll_size _ _
variable{o:Obj}
theorem TU(e:h.get? b=some o)(n:H b=none):(Hj h H).get? b=some o:=
 PySem.W.hideAll_get _ e λhm=>by
  have q:(H b).isSome=true:=(List.mem_filter.mp hm).2;rw[n] at q;simp at q
theorem Wn(e:(Hj h H).get? b=some o):h.get? b=some o/\H b=none:=by
 have e':h.get? b=some o:=PySem.W.of_hideAll (trk h H) e;refine⟨e',?_⟩
 cases q:H b with
 |none=>rfl
 |some x=>
   have hm:b∈trk h H:=List.mem_filter.mpr ⟨uk4.mpr (um3 e'),by simp[q]⟩;have z:(Hj h H).get? b=none:=PySem.W.hideAll_none (trk h H) hm;rw[z] at e;cases e
noncomputable def Vh(g h:Heap)(L:fh):List (fh×Obj):=(List.range h.objs.size).filterMap λa=>if a=L\/(g.get? a).isSome=true then none else(h.get? a).map λo=>(a,o)
def rest(g h:Heap)(L d:fh):List (fh×Obj):=(Vh g h L).filter λp=>decide (p.1≠d)
structure Mod(K:fc)(mg:Str->Option fg)(base:Heap):Prop where
 kin:K.In base
 glob:base.Ns mainGlobals mg
 blt:∃mb,base.Ns builtinsNs mb/\∀x:Str,x≠"__name__"->mb x=bootBuiltins x
 nolimit:base.NoLimit
structure Cx where
 prog:fk
 w:fq
 K:fc
 mg:Str->Option fg
 base:Heap
 A:Around
 N:List Str
 s₀:fj
 H₀:Hp
 env:Env
 outer:List Env
 stack:List Env
 ex:List fh
 fn:Str->Bool
 calm:Bool
 pn:List (fh×Obj)
 xe:fg->fj->Prop
noncomputable def frs(l:List Env):List fh:=l.filterMap (·.frame)
abbrev Cx.fs(X:Cx):List fh:=frs X.outer
def Vis(sc:Scope)(x:Str):Prop:=sc.names.lookup x=some .local\/sc.names.lookup x=some .cell\/sc.names.lookup x=some .free
def Loc(sc:Scope)(x:Str):Prop:=sc.names.lookup x=some .local\/sc.names.lookup x=some .cell
def bJ(env:Env)(h:Heap)(m:Str->Option fg)(x:Str)(u:fg):Prop:=
 (env.kindOf x=some .local/\m x=some u)\/((env.kindOf x=some .cell\/env.kindOf x=some .free)/\∃c,env.cells.lookup x=some c/\h.IsCell c (some u))
structure Cx.Ok(X:Cx):Prop where
 mod:Mod X.K X.mg X.base
 kind:X.env.scope.kind=.function
 glob:X.env.globals=mainGlobals
 blt:X.env.builtins=builtinsNs
 above:X.s₀.heap.objs.size<=X.env.locals
 inj:∀x y c,X.env.cells.lookup x=some c->X.env.cells.lookup y=some c->x=y
 has:∀x,(X.env.kindOf x=some .cell\/X.env.kindOf x=some .free)->∃c,X.env.cells.lookup x=some c
 cab:∀x c,X.fn x=true->X.env.cells.lookup x=some c->X.s₀.heap.objs.size<=c
 hd:X.calm=true->X.A.handled=none
 frames:X.A.frames=some X.stack
 stk:X.stack=X.outer\/(X.stack=X.env::X.outer/\X.env.frame=some X.env.locals)
 exf:∀b∈X.ex,b≠X.env.locals/\∀x c,X.env.cells.lookup x=some c->c≠b
 bs:∀b o,X.base.get? b=some o->X.s₀.heap.get? b=some o/\X.H₀ b=none
 bsz:X.base.objs.size<=X.s₀.heap.objs.size
 noex:∀b o,X.base.get? b=some o->b∉X.ex
 exfs:∀b∈X.ex,b∉X.fs
 funs:X.s₀.heap.FunFrames X.base X.outer
 frf:∀b∈X.fs,X.H₀ b=none
structure Inv(X:Cx)(ff:List (fh×Obj))(σ:List (Option V))(H:Hp)(s:fj):Prop where
 ok:X.Ok
 os:s.os=X.s₀.os
 bare:AllBare s.gens
 base:Un X.fs X.ex X.H₀ H X.s₀.heap s.heap
 loc:∃m,s.heap.Ns X.env.locals m/\∀(i:Nat) (x:Str) (v:V),X.N[i]?=some x->σ[i]?=some (some v)->Vis X.env.scope x->∃u,RelV v u/\bJ X.env s.heap m x u
 cell:∀x c,X.env.cells.lookup x=some c->∃v,s.heap.IsCell c v
 free:H X.env.locals=none
 freeC:∀x c,X.env.cells.lookup x=some c->H c=none
 pin:∀p∈X.pn++ff,s.heap.get? p.1=some p.2/\H p.1=none/\p.1≠X.env.locals/\p.1∉X.fs/\∀v,p.2.data≠.cell v
 hok:HOk X.prog X.w H s.heap
 len:σ.length=X.N.length
variable{t' i:Nat}{E:fg->fj->Prop}{x:Str}{v:V}{u:fg}{Q:Unit->fj->Prop}
section
variable{X:Cx}{ff:List (fh×Obj)}{σ:List (Option V)}{H H':Hp}{s:fj}{h':Heap}
theorem Cx.Ok.nofr(ok:X.Ok){b:fh}{o:Obj}(e:X.base.get? b=some o):b∉X.fs:=λhb=>by
 have:=(ok.funs.mem hb).1;rw[e] at this;cases this
theorem Inv.bs(I:Inv X ff σ H s):∀b o,X.base.get? b=some o->s.heap.get? b=some o/\H b=none:=λb o e=>
 ⟨I.base.keep b o (I.ok.bs b o e).1 (I.ok.bs b o e).2 (I.ok.nofr e) (I.ok.noex b o e),I.base.free b o (I.ok.bs b o e).1 (I.ok.bs b o e).2 (I.ok.noex b o e)⟩
theorem Inv.bk(I:Inv X ff σ H s):∀b o,X.base.get? b=some o->s.heap.get? b=some o:=λb o e=>(I.bs b o e).1
theorem Inv.mod(I:Inv X ff σ H s):Mod X.K X.mg X.base:=I.ok.mod
theorem Inv.kIn(I:Inv X ff σ H s):X.K.In s.heap:=I.ok.mod.kin.keeps I.bk
theorem Inv.lt(I:Inv X ff σ H s):X.env.locals<s.heap.objs.size:=let ⟨_,hn,_⟩:=I.loc;hn.lt
theorem Inv.sz(I:Inv X ff σ H s):X.s₀.heap.objs.size<=s.heap.objs.size:=um5 I.ok.above (gM I.lt)
theorem Inv.nofs(I:Inv X ff σ H s){a:fh}(h:s.heap.objs.size<=a):a∉X.fs:=λhb=>by
 obtain⟨_,o,ho,_⟩:=I.ok.funs.mem hb;exact absurd (ue9 (um3 ho) (um5 I.sz h)) (ul1 _)
theorem Inv.cne(I:Inv X ff σ H s):∀x c,X.env.cells.lookup x=some c->c≠X.env.locals:=λx c e z=>by
 clear 5(I.cell x c e)v o ho hd;obtain⟨m,⟨o',es,ep,ho',hd',_⟩,_⟩:=I.loc;rw[z,ho'] at ho;cases ho;rw[hd'] at hd;cases hd
theorem Inv.funs(I:Inv X ff σ H s):s.heap.FunFrames X.base X.outer:=by
 have all:∀(l:List Env),(∀b∈frs l,b∈X.fs)->X.s₀.heap.FunFrames X.base l->s.heap.FunFrames X.base l:=by
  intro l
  induction l with
  |nil=>intro _ _;trivial
  |cons env r ih=>
    intro hs hl;obtain⟨hk,⟨L,o,hf,hn,ho,hd⟩,hr⟩:=hl;have hL:L∈X.fs:=hs L (by unfold frs;rw[ue1,hf];exact uf0);obtain⟨sl,e⟩:=I.base.slot L o ho (I.ok.frf L hL) hL λz=>I.ok.exfs L z hL;exact⟨hk,⟨L,_,hf,hn,e,hd⟩,ih (λb hb=>hs b (by unfold frs;rw[ue1,hf];exact ud5 _ hb)) hr⟩
 exact all X.outer (λ_ hb=>hb) I.ok.funs
theorem Inv.stack(I:Inv X ff σ H s):s.heap.FunFrames X.base X.stack:=by
 rcases I.ok.stk with e|⟨e,hf⟩
 .rw[e];exact I.funs
 .rw[e];obtain⟨m,hn,_⟩:=I.loc;refine .cons (by rw[I.ok.kind];decide) hf hn ?_ I.funs;exact Heap.get?_none_of_le (um5 I.ok.bsz I.ok.above)
theorem Inv.stkSub(I:Inv X ff σ H s):∀b∈frs X.stack,b∈X.env.locals::X.fs:=λb hb=>by
 rcases I.ok.stk with e|⟨e,hf⟩
 .rw[e] at hb;exact ud5 _ hb
 .rw[e] at hb;unfold frs at hb;rw[ue1,hf] at hb;exact hb
theorem Inv.stkFree(I:Inv X ff σ H s):∀b∈frs X.stack,H b=none:=λb hb=>by
 rcases ul2.mp (I.stkSub b hb) with e|hb
 .rw[e];exact I.free
 .obtain⟨_,o,ho,_⟩:=I.ok.funs.mem hb;exact I.base.free b o ho (I.ok.frf b hb) λz=>I.ok.exfs b z hb
theorem Inv.step{g':Array GenState}{t':Nat}{d':Drawn}{ch:List fh}(I:Inv X ff σ H s)
 (hch:∀b∈ch,(b∈X.ex\/X.s₀.heap.objs.size<=b)/\b≠X.env.locals/\(∀x c,X.env.cells.lookup x=some c->c≠b)/\∀p∈X.pn++ff,p.1≠b)
 (keep:∀b o,b≠X.env.locals->b∉X.fs->b∉ch->s.heap.get? b=some o->H b=none->h'.get? b=some o)
 (slot:∀b o,b≠X.env.locals->b∈X.fs->b∉ch->s.heap.get? b=some o->H b=none->∃sl,h'.get? b=some {o with slots:=sl}) (free:∀b o,b∉ch->s.heap.get? b=some o->H b=none->H' b=none)
 (there:∀b o,b∉ch->s.heap.get? b=some o->∃o',h'.get? b=some o')
 (tups:∀b xs,H b=some (.tup xs)->H' b=some (.tup xs)) (frzs:∀b o u,H b=some (.frz o u)->H' b=some (.frz o u)) (tbls:∀b ps,H b=some (.tbl ps)->∃more,H' b=some (.tbl (ps++more)))
 (ns:∀m,s.heap.Ns X.env.locals m->h'.Ns X.env.locals m) (hok:HOk X.prog X.w H' h') (hg:AllBare g') :
 Inv X ff σ H' {s with heap:=h',gens:=g',drawn:=d',toks:=t'}:=by
 have neL:∀b o,X.s₀.heap.get? b=some o->b≠X.env.locals:=λb o e=>um4 (ue9 (um3 e) I.ok.above);have neC:∀b o,X.s₀.heap.get? b=some o->b∉X.ex->b∉ch:=λb o e hx hb=>by
  rcases (hch b hb).1 with z|z
  .exact hx z
  .exact absurd (ue9 (um3 e) z) (ul1 _)
 have cellK:∀x c,X.env.cells.lookup x=some c->∀v,s.heap.IsCell c v->h'.IsCell c v:=λx c e v z9=>by
  clear 5 z9 o ho hd;have nch:c∉ch:=λz=>(hch c z).2.2.1 x c e rfl
  by_cases hc:c∈X.fs
  .clear 5(slot c o (I.cne x c e) hc nch ho (I.freeC x c e))sl q;exact⟨_,q,hd⟩
  .exact⟨o,keep c o (I.cne x c e) hc nch ho (I.freeC x c e),hd⟩
 refine⟨I.ok,I.os,hg,⟨λb o e n hb hx=>?_,λb o e n hb hx=>?_,λb o e n hx=>?_,λb o e hx=>?_,λb xs e=>tups b xs (I.base.tups b xs e),λb o xs e=>frzs b o xs (I.base.frzs b o xs e),λb ps e=>?_⟩,?_,λx c e=>?_,?_,λx c e=>?_,λp hp=>?_,hok,I.len⟩
 .exact keep b o (neL b o e) hb (neC b o e hx) (I.base.keep b o e n hb hx) (I.base.free b o e n hx)
 .clear 5(I.base.slot b o e n hb hx)sl e1;clear 5(slot b _ (neL b o e) hb (neC b o e hx) e1 (I.base.free b o e n hx))sl' e2;exact⟨sl',e2⟩
 .clear 5(I.base.there b o e hx)o' e1;exact free b o' (neC b o e hx) e1 (I.base.free b o e n hx)
 .clear 5(I.base.there b o e hx)o' e1;exact there b o' (neC b o e hx) e1
 .clear 5(I.base.tbls b ps e)m1 e1;clear 5(tbls b _ e1)m2 e2;exact⟨m1++m2,by rw[e2,Array.append_assoc]⟩
 .clear 5 I.loc m hn hl;refine⟨m,ns m hn,λi x v e1 e2 e3=>?_⟩;clear 5(hl i x v e1 e2 e3)u r l;refine⟨u,r,?_⟩;rcases l with l|⟨k,c,e,z⟩
  .exact .inl l
  .exact .inr ⟨k,c,e,cellK x c e _ z⟩
 .clear 5(I.cell x c e)v z;exact⟨v,cellK x c e v z⟩
 .obtain⟨m,⟨o,_,_,ho,_⟩,_⟩:=I.loc;exact free _ o (λz=>(hch _ z).2.1 rfl) ho I.free
 .clear 5(I.cell x c e)v o ho hd;exact free c o (λz=>(hch c z).2.2.1 x c e rfl) ho (I.freeC x c e)
 .clear 5(I.pin p hp)e n ne nf d;have nch:p.1∉ch:=λz=>(hch p.1 z).2.2.2 p hp rfl;exact⟨keep p.1 p.2 ne nf nch e n,free p.1 p.2 nch e n,ne,nf,d⟩
theorem Inv.un(I:Inv X ff σ H s)(u:Un X.fs [] H H' s.heap h')(hok:HOk X.prog X.w H' h'):Inv X ff σ H' {s with heap:=h',toks:=t'}:=by
 obtain⟨m,⟨o,es,ep,ho,r⟩,_⟩:=id I.loc;clear 5(u.any ho I.free (by simp))sl hL;exact I.step (g':=s.gens) (d':=s.drawn) (ch:=[]) (λ_ z=>nomatch z) (λb o _ hb _ e n=>u.keep b o e n hb (by simp)) (λb o _ hb _ e n=>u.slot b o e n hb (by simp)) (λb o _ e n=>u.free b o e n (by simp)) (λb o _ e=>u.there b o e (by simp)) u.tups u.frzs u.tbls (λm' hm=>by
  clear 5 hm o' es' ep' ho' r';rw[ho] at ho';cases ho'
  exact⟨_,es',ep',hL,r'⟩) hok I.bare
theorem Inv.call{g':Array GenState}{d':Drawn}{ch:List fh}(I:Inv X ff σ H s)(u:Un (frs X.stack) ch H H' s.heap h')(hok:HOk X.prog X.w H' h')(hg:AllBare g')
 (hch:∀b∈ch,(b∈X.ex\/X.s₀.heap.objs.size<=b)/\b≠X.env.locals/\(∀x c,X.env.cells.lookup x=some c->c≠b)/\∀p∈X.pn++ff,p.1≠b) :
 Inv X ff σ H' {s with heap:=h',gens:=g',drawn:=d',toks:=t'}:=by
 obtain⟨m,⟨o,es,ep,ho,r⟩,_⟩:=id I.loc;obtain⟨sl,hL⟩:=u.any ho I.free λz=>(hch _ z).2.1 rfl;exact I.step (ch:=ch) hch (λb o hL hb hc e n=>u.keep b o e n (λz=>(ul2.mp (I.stkSub b z)).elim hL hb) hc) (λb o _ _ hc e n=>u.any e n hc) (λb o hc e n=>u.free b o e n hc) (λb o hc e=>u.there b o e hc) u.tups u.frzs u.tbls (λm' hm=>by
  clear 5 hm o' es' ep' ho' r';rw[ho] at ho';cases ho'
  exact⟨_,es',ep',hL,r'⟩) hok hg
theorem Inv.turned{it:fh}(I:Inv X ff σ H s)(k:∀b o,b≠it->s.heap.get? b=some o->h'.get? b=some o)(hn:H it=none)(hL:it≠X.env.locals)
 (h1:it∈X.ex\/X.s₀.heap.objs.size<=it) (h2:∀x c,X.env.cells.lookup x=some c->c≠it) (h3:∀p∈X.pn++ff,p.1≠it):Inv X ff σ H {s with heap:=h',toks:=t'}:=by
 have nit:∀b u,H b=some u->b≠it:=λb u e z=>by rw[z,hn] at e;cases e
 refine I.step (g':=s.gens) (d':=s.drawn) (ch:=[it]) (λb hb=>?_) (λb o _ _ hc e _=>k b o (λz=>hc (by simp[z])) e) (λb o _ _ hc e _=>⟨o.slots,k b o (λz=>hc (by simp[z])) e⟩) (λ_ _ _ _ n=>n)
  (λb o hc e=>⟨o,k b o (λz=>hc (by simp[z])) e⟩) (λ_ _ e=>e) (λ_ _ _ e=>e) (λb ps e=>⟨#[],by rw[e];simp⟩) (λm hm=>?_) (λb u e=>?_) I.bare
 .have e:b=it:=by simpa using hb
  subst e;exact⟨h1,hL,h2,h3⟩
 .clear 5 hm o es ep ho r;exact⟨o,es,ep,k _ o (Ne.symm hL) ho,r⟩
 .refine(I.hok b u e).stay (λc v hc q=>k c v ?_ q) (λ_ q=>q) λ_ _ q=>q;rcases hc with z|z
  .rw[z];exact nit b u e
  .exact nit c _ z
theorem Inv.tok(I:Inv X ff σ H s)(t:Nat):Inv X ff σ H {s with toks:=t}:=I.un (h':=s.heap) (t':=t) Un.refl I.hok
theorem Inv.kept{t':Nat}(I:Inv X ff σ H s)(k:∀b u,s.heap.get? b=some u->h'.get? b=some u):Inv X ff σ H {s with heap:=h',toks:=t'}:=I.un (Un.kept k) (I.hok.kept k)
theorem Inv.laid{a:fh}{o:HO}{t':Nat}(I:Inv X ff σ H s)(k:∀b u,s.heap.get? b=some u->h'.get? b=some u)(hp:s.heap.objs.size<=a)(new:ObjOk X.prog X.w (upd H a o) h' a o) :
 Inv X ff σ (upd H a o) {s with heap:=h',toks:=t'}:=I.un (Un.laid k hp (I.hok.fresh hp)) (I.hok.laid k hp new)
theorem Inv.write{x e:fh}{o:HO}{t':Nat}(I:Inv X ff σ H s)(mu:Mut (H x))(he:e=x\/H e=some (.own x))(k:∀b u,b≠e->s.heap.get? b=some u->h'.get? b=some u)(heo:∃u,h'.get? e=some u)
 (new:ObjOk X.prog X.w (upd H x o) h' x o):Inv X ff σ (upd H x o) {s with heap:=h',toks:=t'}:=I.un (Un.write mu he k heo) (I.hok.write mu he k heo new)
theorem Inv.pins_of{pins':List (fh×Obj)}(I:Inv X ff σ H s)(h:∀p∈pins',s.heap.get? p.1=some p.2/\H p.1=none/\p.1≠X.env.locals/\p.1∉X.fs/\∀v,p.2.data≠.cell v):Inv X pins' σ H s:=
 ⟨I.ok,I.os,I.bare,I.base,I.loc,I.cell,I.free,I.freeC,λp hp=>(ui6.mp hp).elim (λz=>I.pin p (ud6 _ z)) (h p),I.hok,I.len⟩
theorem JA{N:List Str}(hN:N.Nodup){i j:Nat}{x:Str}(a:N[i]?=some x)(b:N[j]?=some x):i=j:=by
 clear 5(ua7.mp a)h1 e1;clear 5(ua7.mp b)h2 e2;exact(uh0 hN).mp (e1.trans e2.symm)
theorem LS{M:Model}{A:Around}(I:Inv X ff σ H s)(hN:X.N.Nodup)(hi:X.N[i]?=some x)(hx:Loc X.env.scope x)(r:RelV v u)
 (h:∀s',Inv X ff (σ.set i (some v)) H s'->(∃a,Heap.SameBut a s.heap s'.heap/\(a=X.env.locals\/X.env.cells.lookup x=some a))->Q () s') (hf:X.fn x=true\/X.env.scope.names.lookup x=some .local:=by walk_at"h"):wpAny M A (storeName X.env x u) Q E s:=by
 clear 5(id I.loc)m hn hl;have hcls:(X.env.scope.kind==.class||(X.env.scope.kind==.module&&X.env.locals != X.env.globals))=false:=by rw[I.ok.kind];rfl
 have hiσ:i < σ.length:=by rw[I.len];exact(ua7.mp hi).1
 have cne:=I.cne;have tracked:∀{a:fh}{h':Heap},(∃o,s.heap.get? a=some o/\H a=none)->Heap.SameBut a s.heap h'->HOk X.prog X.w H h':=λ{a h'} ha hs b ob e=>by
  obtain⟨_,_,hfree⟩:=ha;refine(I.hok b ob e).stay (λc w' hc q=>(hs.2 c ?_).trans q) (λ_ q=>q) λ_ _ q=>q;rintro rfl;rcases hc with rfl|hc
  .rw[hfree] at e;cases e
  .rw[hfree] at hc;cases hc
 rcases hx with hk|hk
 .refine wpAny_storeName_local hk hn (λh' hn' hs=>?_) hcls;obtain⟨oL,_,_,hoL,_⟩:=id hn;refine h _ ⟨I.ok,I.os,I.bare,⟨λb o e n hb hx=>?_,λb o e n hb hx=>?_,I.base.free,λb o e hx=>?_,I.base.tups,I.base.frzs,I.base.tbls⟩,⟨_,hn',λj y v' e1 e2 e3=>?_⟩,λy c e=>?_,I.free,I.freeC,λp hp=>?_,tracked ⟨oL,hoL,I.free⟩ hs,by simpa using I.len⟩ ⟨_,hs,.inl rfl⟩
  .exact(hs.2 b (um4 (ue9 (um3 e) I.ok.above))).trans (I.base.keep b o e n hb hx)
  .clear 5(I.base.slot b o e n hb hx)sl e1;exact⟨sl,(hs.2 b (um4 (ue9 (um3 e) I.ok.above))).trans e1⟩
  .clear 5(I.base.there b o e hx)o' e1;exact⟨o',(hs.2 b (um4 (ue9 (um3 e) I.ok.above))).trans e1⟩
  .by_cases hj:j=i
   .subst hj;rw[hi] at e1;cases e1
    rw[ub9 hiσ] at e2
    cases e2
    exact⟨u,r,.inl ⟨hk,by simp⟩⟩
   .rw[ud7 (Ne.symm hj)] at e2;clear 5(hl j y v' e1 e2 e3)u' r' q;refine⟨u',r',?_⟩;rcases q with⟨k,e⟩|⟨k,c,e,z⟩
    .refine .inl ⟨k,?_⟩;have:y≠x:=λe=>hj (JA hN e1 (e ▸ hi));simp[this,e]
    .exact .inr ⟨k,c,e,z.sameBut hs (cne y c e)⟩
  .clear 5(I.cell y c e)w' z;exact⟨w',z.sameBut hs (cne y c e)⟩
  .clear 5(I.pin p hp)e n ne nf d;exact⟨(hs.2 p.1 ne).trans e,n,ne,nf,d⟩
 .have hfn:X.fn x=true:=by
   rcases hf with z|z
   .exact z
   .rw[z] at hk;cases hk
  clear 5(I.ok.has x (.inl hk))c hc;clear 5(I.cell x c hc)w' z;refine wpAny_storeName_cell I.ok.kind hk hc z (λh' hc' hs=>?_);clear 5(id z)oc hoc hocd;refine h {s with heap:=h'} ⟨I.ok,I.os,I.bare,⟨λb o e n hb hx=>?_,λb o e n hb hx=>?_,I.base.free,λb o e hx=>?_,I.base.tups,I.base.frzs,I.base.tbls⟩,⟨m,hn.sameBut hs (Ne.symm (cne x c hc)),λj y v' e1 e2 e3=>?_⟩,λy c' e=>?_,I.free,I.freeC,λp hp=>?_,tracked ⟨oc,hoc,I.freeC x c hc⟩ hs,by simpa using I.len⟩ ⟨c,hs,.inr hc⟩
  .exact(hs.2 b (um4 (ue9 (um3 e) (I.ok.cab x c hfn hc)))).trans (I.base.keep b o e n hb hx)
  .clear 5(I.base.slot b o e n hb hx)sl e1;exact⟨sl,(hs.2 b (um4 (ue9 (um3 e) (I.ok.cab x c hfn hc)))).trans e1⟩
  .clear 5(I.base.there b o e hx)o' e1;exact⟨o',(hs.2 b (um4 (ue9 (um3 e) (I.ok.cab x c hfn hc)))).trans e1⟩
  .by_cases hj:j=i
   .subst hj;rw[hi] at e1;cases e1
    rw[ub9 hiσ] at e2
    cases e2
    exact⟨u,r,.inr ⟨.inl hk,c,hc,hc'⟩⟩
   .rw[ud7 (Ne.symm hj)] at e2;clear 5(hl j y v' e1 e2 e3)u' r' q;refine⟨u',r',?_⟩;rcases q with q|⟨k,c',e,z'⟩
    .exact .inl q
    .refine .inr ⟨k,c',e,z'.sameBut hs ?_⟩;rintro rfl;exact hj (JA hN e1 (I.ok.inj _ _ _ e hc ▸ hi))
  .by_cases hcc:c'=c
   .subst hcc;exact⟨_,hc'⟩
   .clear 5(I.cell y c' e)w2 z2;exact⟨w2,z2.sameBut hs hcc⟩
  .clear 5(I.pin p hp)e n ne nf d;refine⟨(hs.2 p.1 ?_).trans e,n,ne,nf,d⟩;intro q;rw[q,hoc] at e;have q':oc=p.2:=ui7 e;exact d w' (by rw[<-q'];exact hocd)
theorem HA{M:Model}{A:Around}(I:Inv X ff σ H s)(hN:X.N.Nodup)(hi:X.N[i]?=some x)(hx:Loc X.env.scope x)(r:RelV v u)
 (h:∀s',Inv X ff (σ.set i (some v)) H s'->Q () s') (hf:X.fn x=true\/X.env.scope.names.lookup x=some .local:=by walk_at"h"):wpAny M A (storeName X.env x u) Q E s:=
 LS I hN hi hx r (λs' I' _=>h s' I') hf
theorem Inv.call'{s':fj}{ch:List fh}(I:Inv X ff σ H s)(ho:s'.os=s.os)(u:Un (frs X.stack) ch H H' s.heap s'.heap)(hok:HOk X.prog X.w H' s'.heap)(hg:AllBare s'.gens)
 (hch:∀b∈ch,(b∈X.ex\/X.s₀.heap.objs.size<=b)/\b≠X.env.locals/\(∀x c,X.env.cells.lookup x=some c->c≠b)/\∀p∈X.pn++ff,p.1≠b):Inv X ff σ H' s':=by
 clear 5 s' h' g' d' t' o';have e:o'=s.os:=ho;subst e;exact I.call (g':=g') (t':=t') (d':=d') u hok hg hch
end
abbrev XK:=fg->Option fh->Hp->Prop
abbrev St:=List (Option V)
abbrev VK:=V->Hp->Prop
abbrev TE:=St->Hp->VK->Prop
abbrev TT:=St->Hp->(Bool->Hp->Prop)->Prop
abbrev TA:=St->Hp->(List V->Hp->Prop)->Prop
set_option genInjectivity false in structure Ends where
 nx:St->Hp->Prop
 rt:VK
 bk:St->Hp->Prop:=λ_ _=>False
 ct:St->Hp->Prop:=λ_ _=>False
abbrev TS:=Ends->St->Hp->Prop
inductive EP(X:Cx)(ff:List (fh×Obj))(σ:St)(Q:VK)(u:fg)(s':fj):Prop where
 |mk (v:V) (H':Hp) (i:Inv X ff σ H' s') (r:RelV v u) (q:Q v H'):EP X ff σ Q u s'
inductive TP(X:Cx)(ff:List (fh×Obj))(σ:St)(Q:Bool->Hp->Prop)(b:Bool)(s':fj):Prop where
 |mk (H':Hp) (i:Inv X ff σ H' s') (q:Q b H'):TP X ff σ Q b s'
inductive AP(X:Cx)(ff:List (fh×Obj))(σ:St)(Q:List V->Hp->Prop)(us:List fg)(s':fj):Prop where
 |mk (vs:List V) (H':Hp) (i:Inv X ff σ H' s') (r:Vals vs us) (q:Q vs H'):AP X ff σ Q us s'
def SP(X:Cx)(ff:List (fh×Obj))(D:Ends)(f:Flow)(s':fj):Prop:=
 match f with
 |.next=>∃σ' H',Inv X ff σ' H' s'/\D.nx σ' H'
 |.brk=>∃σ' H',Inv X ff σ' H' s'/\D.bk σ' H'
 |.cont=>∃σ' H',Inv X ff σ' H' s'/\D.ct σ' H'
 |.ret u=>∃v σ' H',Inv X ff σ' H' s'/\RelV v u/\D.rt v H'
def PE(X:Cx)(e:Expr)(t:TE):Prop:=
 ∀(ff:List (fh×Obj)) (s:fj) (σ:St) (H:Hp) (Q:VK),Inv X ff σ H s->t σ H Q->wpAny (model X.prog X.w) X.A (eval e X.env) (EP X ff σ Q) X.xe s
def PT(X:Cx)(e:Expr)(t:TT):Prop:=
 ∀(ff:List (fh×Obj)) (s:fj) (σ:St) (H:Hp) (Q:Bool->Hp->Prop),Inv X ff σ H s->t σ H Q->wpAny (model X.prog X.w) X.A (isTrue e X.env (eval e X.env)) (TP X ff σ Q) X.xe s
def PW(X:Cx)(e:Expr)(t:TT):Prop:=
 ∀(whole:Sem fg) (ff:List (fh×Obj)) (s:fj) (σ:St) (H:Hp) (Q:Bool->Hp->Prop),Inv X ff σ H s->t σ H Q->wpAny (model X.prog X.w) X.A (isTrue e X.env whole) (TP X ff σ Q) X.xe s
variable{X:Cx}{e:Expr}
theorem PW.pt{t:TT}(h:PW X e t):PT X e t:=h _
def PA(X:Cx)(es:List Expr)(t:TA):Prop:=
 ∀(pos:Pos) (ff:List (fh×Obj)) (s:fj) (σ:St) (H:Hp) (Q:List V->Hp->Prop),Inv X ff σ H s->t σ H Q->wpAny (model X.prog X.w) X.A (spliced (backTo pos (starEach es X.env))) (AP X ff σ Q) X.xe s
def PS(X:Cx)(st:Stmt)(t:TS):Prop:=
 ∀(ff:List (fh×Obj)) (s:fj) (σ:St) (H:Hp) (D:Ends),Inv X ff σ H s->t D σ H->wpAny (model X.prog X.w) X.A (exec st X.env) (SP X ff D) X.xe s
def PSs(X:Cx)(st:List Stmt)(t:TS):Prop:=
 ∀(ff:List (fh×Obj)) (s:fj) (σ:St) (H:Hp) (D:Ends),Inv X ff σ H s->t D σ H->wpAny (model X.prog X.w) X.A (execs st X.env) (SP X ff D) X.xe s
variable{s:fj}
theorem thn{α:Type}{t:Sem α}{Q Q':α->fj->Prop}{M:Model}{A:Around}(h:wpAny M A t Q E s)(hQ:∀a s,Q a s->Q' a s):wpAny M A t Q' E s:=uo3 h hQ λ_ _ x=>x
variable{ff:List (fh×Obj)}{σ:St}{c:Expr}
section
variable{X:Cx}
def Zz(i:Nat):TE:=λσ H Q=>∃v,σ[i]?=some (some v)/\Q v H
def tC(v:V):TE:=λ_ H Q=>Q v H
theorem GO{pos:Pos}(hN:X.N[i]?=some x)(hv:Vis X.env.scope x)(hd:(x==("__debug__":Str))=false:=by decide)(hcd:(x==("__classdict__":Str))=false:=by decide):PE X (.Name x pos) (Zz i):=by
 intro ff s σ H Q I h;clear 5 h v e h;clear 5 I.loc m hn hl;clear 5(hl i x v hN e hv)u r l;have fin:EP X ff σ Q u s:=⟨v,H,I,r,h⟩;rcases l with⟨hk,hm⟩|⟨hk,c,hc,hcell⟩
 .exact wpAny_Name (wpAny_loadName_local I.ok.kind hk hn hm fin) hd
 .rcases hk with hk|hk
  .exact wpAny_Name (wpAny_loadName_cell I.ok.kind hk hc hcell fin) hd
  .exact wpAny_Name (wpAny_loadName_free I.ok.kind hk hc hcell fin hcd) hd
theorem YZ{i j pos}:PE X (.Constant (.int i) j pos) (tC (.int i)):=λ_ _ _ H _ I h=>wpAny_Constant_int ⟨.int i,H,I.tok _,⟨_,rfl⟩,h⟩
theorem ap{b j pos}:PE X (.Constant (.bool b) j pos) (tC (.bl b)):=λ_ _ _ H _ I h=>Constant_bool ⟨.bl b,H,I,rfl,h⟩
theorem Y1{j pos}:PE X (.Constant .none j pos) (tC .non):=λ_ _ _ H _ I h=>Constant_none ⟨.non,H,I,rfl,h⟩
theorem Sa{x j pos}:PE X (.Constant (.str x) j pos) (tC (.str x)):=λ_ _ _ H _ I h=>Calls.Constant_str ⟨.str x,H,I.tok _,⟨_,rfl⟩,h⟩
def Gl(X:Cx)(x:Str):Prop:=X.env.kindOf x=some .globalImplicit
theorem ET{pos:Pos}{Q:fg->fj->Prop}(I:Inv X ff σ H s)(hg:Gl X x)(hm:X.mg x=some u)(h:Q u s)
 (hd:(x==("__debug__":Str))=false:=by decide):wpAny (model X.prog X.w) X.A (eval (.Name x pos) X.env) Q E s:=
 fu I.ok.kind hg (Calls.loadGlobal_global (by rw[I.ok.glob];exact I.mod.glob.keeps I.bk) hm h) hd
theorem GL{pos:Pos}{Q:fg->fj->Prop}(I:Inv X ff σ H s)(hg:Gl X x)(hm:X.mg x=none)(hv:bootBuiltins x=some u)(h:Q u s)
 (hn:x≠"__name__":=by decide) (hd:(x==("__debug__":Str))=false:=by decide):wpAny (model X.prog X.w) X.A (eval (.Name x pos) X.env) Q E s:=by
 clear 5 I.mod.blt mb h1 h2;exact fu I.ok.kind hg (Calls.loadGlobal_builtin (by rw[I.ok.glob];exact I.mod.glob.keeps I.bk) hm (by rw[I.ok.blt];exact h1.keeps I.bk) ((h2 x hn).trans hv) h) hd
theorem OR{pos:Pos}(hg:Gl X x)(hm:X.mg x=some u)(r:RelV v u)(hd:(x==("__debug__":Str))=false:=by decide):PE X (.Name x pos) (tC v):=
 λ_ _ _ H _ I h=>ET I hg hm ⟨v,H,I,r,h⟩ hd
theorem Wv{pos:Pos}(hg:Gl X x)(hm:X.mg x=none)(hv:bootBuiltins x=some u)(r:RelV v u)(hn:x≠"__name__":=by decide)(hd:(x==("__debug__":Str))=false:=by decide):PE X (.Name x pos) (tC v):=
 λ_ _ _ H _ I h=>GL I hg hm hv ⟨v,H,I,r,h⟩ hn hd
variable{a b:Expr}{ta tb:TE}{pos:Pos}
def tB(t:TE):TT:=λσ H Q=>t σ H λx H1=>∃c,x=.bl c/\Q c H1
theorem Y9{t:TE}(h:PE X e t)(he:∀whole,isTrue e X.env whole=(do let v <-whole;standAt e.pos;holding [v] (truthy v)):=by intro _;rfl):PT X e (tB t):=by
 intro ff s σ H Q I hw;refine isTrue_plain (thn (h ff s σ H _ I hw) λv s1 z9=>?_) (he _);clear 5 z9 x H1 I1 r1 q1;clear 5 q1 d rfl q
 cases r1
 exact gy ⟨H1,I1,q⟩
variable{tA tB':TT}{rest:List Expr}
def cq(t u:TT):TT:=λσ H Q=>t σ H λc H1=>if c=true then u σ H1 Q else Q false H1
def tOr(t u:TT):TT:=λσ H Q=>t σ H λc H1=>if c=true then Q true H1 else u σ H1 Q
def cF(t:TT):TT:=λσ H Q=>t σ H λc H1=>Q (!c) H1
theorem WN(ha:PT X a tA):PW X (.BoolOp .And [a] pos) tA:=by
 intro wh ff s σ H Q I h;refine isTrue_and (thn (ha ff s σ H Q I h) λc s1 e=>?_)
 cases c with
 |true=>exact isTrue_and_nil e
 |false=>exact e
theorem Zb(ha:PT X a tA):PW X (.BoolOp .Or [a] pos) tA:=by
 intro wh ff s σ H Q I h;refine isTrue_or (thn (ha ff s σ H Q I h) λc s1 e=>?_)
 cases c with
 |false=>exact isTrue_or_nil e
 |true=>exact e
theorem Za(ha:PT X a tA)(hb:PW X (.BoolOp .And (b::rest) pos) tB'):PW X (.BoolOp .And (a::b::rest) pos) (cq tA tB'):=by
 intro wh ff s σ H Q I h;refine isTrue_and (thn (ha ff s σ H _ I h) λc s1 z9=>?_);clear 5 z9 H1 I1 q1
 cases c with
 |true=>exact hb wh ff s1 σ H1 Q I1 q1
 |false=>exact⟨H1,I1,q1⟩
theorem az(ha:PT X a tA)(hb:PW X (.BoolOp .Or (b::rest) pos) tB'):PW X (.BoolOp .Or (a::b::rest) pos) (tOr tA tB'):=by
 intro wh ff s σ H Q I h;refine isTrue_or (thn (ha ff s σ H _ I h) λc s1 z9=>?_);clear 5 z9 H1 I1 q1
 cases c with
 |true=>exact⟨H1,I1,q1⟩
 |false=>exact hb wh ff s1 σ H1 Q I1 q1
theorem Y8(ha:PT X a tA):PT X (.UnaryOp .Not a pos) (cF tA):=by
 intro ff s σ H Q I h;refine isTrue_not (thn (ha ff s σ H (λc H1=>Q (!c) H1) I h) λc s1 z=>?_);clear 5 z H1 I1 q1;exact⟨H1,I1,q1⟩
def aG(ta tb:TE):TE:=λσ H Q=>ta σ H λx H1=>∃c,x=.bl c/\if c=true then tb σ H1 Q else Q (.bl false) H1
def aM(ta:TE):TE:=λσ H Q=>ta σ H λx H1=>∃c,x=.bl c/\Q (.bl (!c)) H1
theorem Y3{op}{t:TE}(h:PE X a t):PE X (.BoolOp op [a] pos) t:=λff s σ H Q I hw=>BoolOp_one (h ff s σ H Q I hw)
theorem YX(ha:PE X a ta)(hb:PE X (.BoolOp .And (b::rest) pos) tb):PE X (.BoolOp .And (a::b::rest) pos) (aG ta tb):=by
 intro ff s σ H Q I h;refine BoolOp_and (thn (ha ff s σ H _ I h) λv s1 z9=>?_);clear 5 z9 x H1 I1 r1 q1;clear 5 q1 c rfl q1
 cases r1
 refine gy ?_
 cases c with
 |true=>exact hb ff s1 σ H1 Q I1 q1
 |false=>exact⟨.bl false,H1,I1,rfl,q1⟩
theorem Y2(ha:PE X a ta):PE X (.UnaryOp .Not a pos) (aM ta):=by
 intro ff s σ H Q I h;refine UnaryOp_ (thn (ha ff s σ H _ I h) λv s1 z9=>?_);clear 5 z9 x H1 I1 r1 q1;clear 5 q1 c rfl q1
 cases r1
 exact not_of (gy ⟨.bl (!c),H1,I1,rfl,q1⟩)
def tIf(t:TT)(ta tb:TE):TE:=λσ H Q=>t σ H λc H1=>if c=true then ta σ H1 Q else tb σ H1 Q
theorem Ue(hc:PT X c tA)(ha:PE X a ta)(hb:PE X b tb):PE X (.IfExp c a b pos) (tIf tA ta tb):=by
 intro ff s σ H Q I h;refine wpAny_IfExp (thn (hc ff s σ H _ I h) λd s1 z9=>?_);clear 5 z9 H1 I1 q1
 cases d with
 |true=>exact ha ff s1 σ H1 Q I1 q1
 |false=>exact hb ff s1 σ H1 Q I1 q1
end
noncomputable def SqL(K:fc)(H:Hp)(a:fh)(xs:List V):Prop:=
 Rd H a (.lst xs)\/
  ∃(o:Obj) (its:Array fg) (n:Nat),K.lookup a=some o/\o.cls=.type "list"/\o.dict=none/\o.data=.seq its n/\its.size<=sizeLine/\Vals xs its.toList
noncomputable def SqT(K:fc)(H:Hp)(a:fh)(xs:List V):Prop:=
 Rd H a (.tup xs)\/
  ∃(o:Obj) (its:Array fg) (n:Nat),K.lookup a=some o/\o.cls=.type "tuple"/\o.data=.seq its n/\its.size<=sizeLine/\Vals xs its.toList
noncomputable def bQ:fg->Option V
 |.none=>some .non
 |.bool b=>some (.bl b)
 |.int i _=>some (.int i)
 |.str x _=>some (.str x)
 |.bytes b _=>some (.byt b)
 |.float b _=>some (.flt b)
 |.ref a=>some (.ref a)
 |.type n=>some (.ty n)
 |_=>none
theorem RelV.abs{x:V}(r:RelV x u):bQ u=some x:=by
 cases x with
 |non=>cases r;rfl
 |bl _=>cases r;rfl
 |int _=>clear 5 r t rfl;rfl
 |str _=>clear 5 r t rfl;rfl
 |byt _=>clear 5 r t rfl;rfl
 |flt _=>clear 5 r t rfl;rfl
 |ref _=>cases r;rfl
 |ty _=>cases r;rfl
theorem RelV.inj{x y:V}{u:fg}(r:RelV x u)(q:RelV y u):x=y:=ui7 (r.abs.symm.trans q.abs)
theorem Vals.inj{xs ys:List V}{us:List fg}(a:Vals xs us)(b:Vals ys us):xs=ys:=by
 cases a with
 |nil=>
   cases b
   rfl
 |cons r t=>
   cases b with
   |cons r' t'=>rw[r.inj r',Vals.inj t t']
variable{K:fc}
section
variable{X:Cx}{ff:List (fh×Obj)}{σ:St}{H:Hp}{s:fj}{a:fh}{xs ys:List V}
theorem SqL.of(h:H a=some (.lst xs)):SqL K H a xs:=.inl (.inl h)
theorem SqT.of(h:H a=some (.tup xs)):SqT K H a xs:=.inl (.inl h)
theorem Inv.list(I:Inv X ff σ H s)(h:SqL X.K H a xs):∃its:List fg,Vals xs its/\PlainL s.heap a its.toArray/\xs.length<=sizeLine:=by
 rcases h with h|⟨o,its,n,hk,hc,hd,hs,hz,r⟩
 .clear 5(h.ok I.hok)z its n r e;exact⟨its,r,⟨_,n,e,rfl,rfl,rfl⟩,z⟩
 .refine⟨its.toList,r,⟨o,n,I.kIn a o hk,hc,hd,by simpa using hs⟩,?_⟩;have e:=r.length;simp only[ue2] at e;lia
theorem Inv.tuple(I:Inv X ff σ H s)(h:SqT X.K H a xs):∃its:List fg,Vals xs its/\IsTup s.heap a its.toArray/\xs.length<=sizeLine:=by
 rcases h with h|⟨o,its,n,hk,hc,hs,hz,r⟩
 .clear 5(h.ok I.hok)z its r p;exact⟨its,r,p,z⟩
 .refine⟨its.toList,r,⟨o,I.kIn a o hk,hc,n,by simpa using hs⟩,?_⟩;have e:=r.length;simp only[ue2] at e;lia
theorem Inv.list_inj(I:Inv X ff σ H s)(h:SqL X.K H a xs)(h':SqL X.K H a ys):xs=ys:=by
 obtain⟨its,r,⟨o,n,e,_,_,d⟩,_⟩:=I.list h;obtain⟨its',r',⟨o',n',e',_,_,d'⟩,_⟩:=I.list h';rw[e] at e';cases e'
 rw[d] at d';injection d' with d1 _
 have:its=its':=by simpa using gY Array.toList d1
 subst this;exact r.inj r'
theorem Inv.tuple_inj(I:Inv X ff σ H s)(h:SqT X.K H a xs)(h':SqT X.K H a ys):xs=ys:=by
 obtain⟨its,r,⟨o,e,_,n,d⟩,_⟩:=I.tuple h;obtain⟨its',r',⟨o',e',_,n',d'⟩,_⟩:=I.tuple h';rw[e] at e';cases e'
 rw[d] at d';injection d' with d1 _
 have:its=its':=by simpa using gY Array.toList d1
 subst this;exact r.inj r'
end
abbrev Cx.wish(X:Cx)(E:fg->fj->Prop):Cx:={X with xe:=E}
abbrev Cx.nox(X:Cx):Cx:=X.wish λ_ _=>False
theorem Cx.Ok.wish{X:Cx}(ok:X.Ok)(E:fg->fj->Prop):(X.wish E).Ok:=
 ⟨ok.mod,ok.kind,ok.glob,ok.blt,ok.above,ok.inj,ok.has,ok.cab,ok.hd,ok.frames,ok.stk,ok.exf,ok.bs,ok.bsz,ok.noex,ok.exfs,ok.funs,ok.frf⟩
theorem Cx.Ok.unwish(ok:(X.wish E).Ok):X.Ok:=
 ⟨ok.mod,ok.kind,ok.glob,ok.blt,ok.above,ok.inj,ok.has,ok.cab,ok.hd,ok.frames,ok.stk,ok.exf,ok.bs,ok.bsz,ok.noex,ok.exfs,ok.funs,ok.frf⟩
section
variable{X:Cx}{ff:List (fh×Obj)}{σ:St}{H:Hp}{s:fj}{E:fg->fj->Prop}
theorem Inv.wish(I:Inv X ff σ H s)(E:fg->fj->Prop):Inv (X.wish E) ff σ H s:=⟨I.ok.wish E,I.os,I.bare,I.base,I.loc,I.cell,I.free,I.freeC,I.pin,I.hok,I.len⟩
theorem Inv.unwish(I:Inv (X.wish E) ff σ H s):Inv X ff σ H s:=⟨I.ok.unwish,I.os,I.bare,I.base,I.loc,I.cell,I.free,I.freeC,I.pin,I.hok,I.len⟩
theorem SP.unwish{D:Ends}{f:Flow}{s':fj}(h:SP (X.wish E) ff D f s'):SP X ff D f s':=by
 cases f with
 |next=>clear 5 h σ' H' I q;exact⟨σ',H',I.unwish,q⟩
 |brk=>clear 5 h σ' H' I q;exact⟨σ',H',I.unwish,q⟩
 |cont=>clear 5 h σ' H' I q;exact⟨σ',H',I.unwish,q⟩
 |ret u=>clear 5 h v σ' H' I r q;exact⟨v,σ',H',I.unwish,r,q⟩
theorem PSs.nox{st:List Stmt}{t:TS}(h:PSs X.nox st t):PSs X st t:=λff s σ H D I hw=>
 uo3 (h ff s σ H D (I.wish _) hw) (λ_ _ q=>q.unwish) λ_ _ z=>False.elim z
end
section
variable{X:Cx}{st:Stmt}{rest:List Stmt}{t u:TS}{e:Expr}{te:TE}{pos:Pos}
def U8:TS:=λD σ H=>D.nx σ H
def cH(t u:TS):TS:=λD σ H=>t {D with nx:=u D} σ H
theorem WK:PSs X [] U8:=λ_ _ σ H _ I h=>gE ⟨σ,H,I,h⟩
theorem Ul(h1:PS X st t)(h2:PSs X rest u):PSs X (st::rest) (cH t u):=by
 intro ff s σ H D I h;refine wpAny_execs_cons (thn (h1 ff s σ H {D with nx:=u D} I h) λf s1 q=>?_)
 cases f with
 |next=>
   clear 5 q σ' H' I' q;exact h2 ff s1 σ' H' D I' q
 |ret v=>exact q
 |brk=>exact q
 |cont=>exact q
theorem OV(h1:PS X st t):PSs X [st] t:=by
 intro ff s σ H D I h;refine wpAny_execs_cons (thn (h1 ff s σ H D I h) λf s1 q=>?_)
 cases f with
 |next=>exact gE q
 |ret v=>exact q
 |brk=>exact q
 |cont=>exact q
theorem WI:PS X (.Pass pos) U8:=λ_ _ σ H _ I h=>wpAny_Pass ⟨σ,H,I,h⟩
theorem Inv.quiet(I:Inv X ff σ H s):interactive X.env=false:=by simp[interactive,I.ok.kind]
def U7(te:TE):TS:=λD σ H=>te σ H λ_ H1=>D.nx σ H1
theorem Ld(he:PE X e te)(hs:swapsWith e none pos.line X.env=pure false:=by rfl):PS X (.Expr e pos) (U7 te):=by
 intro ff s σ H D I h;exact wpAny_Expr_any (thn (he ff s σ H _ I h) λv s1 z9=>by clear 5 z9 x H1 I1 r1 q1;exact⟨σ,H1,I1,q1⟩) I.quiet hs
def cG(te:TE):TS:=λD σ H=>te σ H D.rt
theorem Iu(he:PE X e te):PS X (.Return (some e) pos) (cG te):=by
 intro ff s σ H D I h;exact wpAny_Return_some (thn (he ff s σ H _ I h) λv s1 z9=>by clear 5 z9 x H1 I1 r1 q1;exact⟨x,σ,H1,I1,r1,q1⟩)
def cB(c:TT)(t u:TS):TS:=λD σ H=>c σ H λb H1=>if b=true then t D σ H1 else u D σ H1
theorem ay{a b:List Stmt}{tc:TT}(hc:PT X c tc)(ha:PSs X a t)(hb:PSs X b u):PS X (.If c a b pos) (cB tc t u):=by
 intro ff s σ H D I h;refine wpAny_If (thn (hc ff s σ H _ I h) λd s1 z9=>?_);clear 5 z9 H1 I1 q1
 cases d with
 |true=>exact ha ff s1 σ H1 D I1 q1
 |false=>exact hb ff s1 σ H1 D I1 q1
end
abbrev TG:=V->St->Hp->(St->Hp->Prop)->Prop
abbrev TGs:=List V->St->Hp->(St->Hp->Prop)->Prop
def PG(X:Cx)(target:Expr)(t:TG):Prop:=
 ∀(ff:List (fh×Obj)) (s:fj) (σ:St) (H:Hp) (v:V) (u:fg) (Q:St->Hp->Prop),Inv X ff σ H s->RelV v u->t v σ H Q->
  wpAny (model X.prog X.w) X.A (assign target X.env u) (λ_ s'=>∃σ' H',Inv X ff σ' H' s'/\Q σ' H') X.xe s
def PGs(X:Cx)(ts:List Expr)(t:TGs):Prop:=
 ∀(ff:List (fh×Obj)) (s:fj) (σ:St) (H:Hp) (vs:List V) (us:List fg) (Q:St->Hp->Prop),Inv X ff σ H s->Vals vs us->t vs σ H Q->
  wpAny (model X.prog X.w) X.A (assignInOrder ((assignEach ts X.env).map (·.2)) us) (λ_ s'=>∃σ' H',Inv X ff σ' H' s'/\Q σ' H') X.xe s
abbrev SX:=V->V->V->Hp->(Hp->Prop)->Prop
def SW(X:Cx)(t:SX):Prop:=
 ∀(ff:List (fh×Obj)) (s:fj) (σ:St) (H:Hp) (o i v:V) (ov iv u:fg) (Q:Hp->Prop),Inv X ff σ H s->RelV o ov->RelV i iv->RelV v u->t o i v H Q->
  wpAny (model X.prog X.w) X.A (setItem ov iv u) (λ_ s'=>∃H',Inv X ff σ H' s'/\Q H') X.xe s
variable{tg:Expr}
section
variable{X:Cx}{pos:Pos}
def Ka(i:Nat):TG:=λv σ H Q=>Q (σ.set i (some v)) H
theorem WA(hN:X.N.Nodup)(hi:X.N[i]?=some x)(hx:Loc X.env.scope x)(hf:X.fn x=true\/X.env.scope.names.lookup x=some .local:=by walk_at"h"):PG X (.Name x pos) (Ka i):=by
 intro ff s σ H v u Q I r h;exact wpAny_assign_Name (HA I hN hi hx r (λs' I'=>⟨_,H,I',h⟩) hf)
def bW:TGs:=λvs σ H Q=>vs=[]/\Q σ H
def UW(t:TG)(u:TGs):TGs:=λvs σ H Q=>∃v r,vs=v::r/\t v σ H λσ' H'=>u r σ' H' Q
theorem WB:PGs X [] bW:=by
 intro ff s σ H vs us Q I r h;clear 5 h e h;subst e
 cases r
 exact assignInOrder_nil ⟨σ,H,I,h⟩
theorem Ug{es:List Expr}{t:TG}{u:TGs}(h1:PG X e t)(h2:PGs X es u)
 (hs:(assignEach (e::es) X.env).map (·.2)=assign e X.env::(assignEach es X.env).map (·.2):=by rfl):PGs X (e::es) (UW t u):=by
 intro ff s σ H vs us Q I r h;clear 5 h v vr e1 h;subst e1
 cases r with
 |cons r rr=>
   rw[hs];refine assignInOrder_cons (thn (h1 ff s σ H _ _ _ I r h) λ_ s1 z9=>?_);clear 5 z9 σ1 H1 I1 q1;exact h2 ff s1 σ1 H1 _ _ Q I1 rr q1
def bY(K:fc)(n:Nat)(t:TGs):TG:=λv σ H Q=>∃a xs,v=.ref a/\SqT K H a xs/\xs.length=n/\t xs σ H Q
theorem Y5{es:List Expr}{k:Nat}{t:TGs}{n:Nat}(hc:X.calm=true)(h:PGs X es t)
 (hn:(assignEach es X.env).length=n:=by rfl) (hst:(assignEach es X.env).findIdx? (·.1)=none:=by rfl):PG X (.Tuple es k pos) (bY X.K n t):=by
 intro ff s σ H v u Q I r hw;clear 5 hw a xs e1 hq hl hw;subst e1
 cases r
 clear 5(I.tuple hq)its rv ht hz;refine assign_Tuple_tuple (I.ok.hd hc) ht (by simp[hn,<-hl,rv.length]) hst λh' hx=>?_;have I1:Inv X ff σ H {s with heap:=h'}:=I.kept (t':=s.toks) λb o e=>hx b o (um4 (um3 e)) e;exact h ff _ σ H xs _ Q I1 (by simpa using rv) hw
def bX(to ti:TE)(t:SX):TG:=λv σ H Q=>to σ H λo H1=>ti σ H1 λi H2=>t o i v H2 λH3=>Q σ H3
theorem Np{o i:Expr}{to ti:TE}{t:SX}(ho:PE X o to)(hi:PE X i ti)(hs:SW X t)
 (ha:∀v,assign (.Subscript o i pos) X.env v=(do
   let ov <-holding [v] (eval o X.env)
   let iv <-holding [v,ov] (eval i X.env)
   standAt pos
   holding [v,ov,iv] (setItem ov iv v)
   release [v,ov,iv] []):=by intro _;rfl):PG X (.Subscript o i pos) (bX to ti t):=by
 intro ff s σ H v u Q I r h;rw[ha];refine uo1 (um2 (thn (ho ff s σ H _ I h) λov s1 z9=>?_));clear 5 z9 x H1 I1 r1 q1;refine uo1 (um2 (thn (hi ff s1 σ H1 _ I1 q1) λiv s2 z9=>?_));clear 5 z9 y H2 I2 r2 q2;refine uo1 (gI (uo1 (um2 (thn (hs ff s2 σ H2 x y v ov iv u _ I2 r1 r2 r q2) λ_ s3 z9=>?_))));clear 5 z9 H3 I3 q3;exact wpAny_release ⟨σ,H3,I3,q3⟩
def NQ(te:TE)(g:TG):TS:=λD σ H=>te σ H λx H1=>g x σ H1 D.nx
theorem Sf{te:TE}{g:TG}(he:PE X e te)(hg:PG X tg g)(hs:swapsWithSole [tg] e pos.line X.env=pure false:=by rfl)(hw:swappedStores [tg] e X.env=pure none:=by rfl)
 (h1:(assignEach [tg] X.env).map (·.2)=[assign tg X.env]:=by rfl):PS X (.Assign [tg] e pos) (NQ te g):=by
 intro ff s σ H D I h;refine wpAny_Assign_stores (thn (he ff s σ H _ I h) λv s1 z9=>?_) hs hw;clear 5 z9 x H1 I1 r1 q1;rw[h1];exact thn (hg ff s1 σ H1 x v _ I1 r1 q1) λ_ s2 q=>q
theorem Nu{te:TE}{pos':Pos}(hN:X.N.Nodup)(hi:X.N[i]?=some x)(hx:Loc X.env.scope x)(he:PE X e te)(hs:swapsWith e (some (.Name x pos')) pos.line X.env=pure false:=by rfl)(hf:X.fn x=true\/X.env.scope.names.lookup x=some .local:=by walk_at"h") :
 PS X (.Assign [.Name x pos'] e pos) (NQ te (Ka i)):=by
 intro ff s σ H D I h;refine wpAny_Assign_Name (thn (he ff s σ H _ I h) λv s1 z9=>?_) hs;clear 5 z9 y H1 I1 r1 q1;exact HA I1 hN hi hx r1 (λs2 I2=>⟨_,H1,I2,q1⟩) hf
end
section
variable{X:Cx}{pos:Pos}
def SE(c:TT)(tb:TS):TS:=λD σ H=>∃W:Nat->St->Hp->Prop,(∃m,W m σ H)/\∀m σ H,W m σ H->
 c σ H λb H1=>if b=true then ∃N:St->Hp->Prop,(∀σ' H',N σ' H'->∃m',m'<m/\W m' σ' H')/\tb {D with nx:=N,ct:=N,bk:=D.nx} σ H1 else D.nx σ H1
theorem Uk{body:List Stmt}{tc:TT}{tb:TS}(hp:PassesOwn (model X.prog X.w) X.A X.env X.xe)(hc:PT X c tc)(hb:PSs X body tb):PS X (.While c body [] pos) (SE tc tb):=by
 intro ff s σ H D I h;obtain⟨W,⟨m0,w0⟩,turn⟩:=h;refine wpAny_While (codeAny_whileLoop (λn s'=>∃σ' H',Inv X ff σ' H' s'/\W n σ' H') ?_ m0 ⟨σ,H,I,w0⟩);rintro n s1 ⟨σ1,H1,I1,w1⟩;refine gF hp (thn (hc ff s1 σ1 H1 _ I1 (turn n σ1 H1 w1)) λb s2 z9=>?_);clear 5 z9 H2 I2 q2
 cases b with
 |true=>
   clear 5 q2 N hN q2;rw[hX rfl];refine gF hp (thn (hb ff s2 σ1 H2 _ I2 q2) λf s3 q3=>?_)
   cases f with
   |next=>
     clear 5 q3 σ3 H3 I3 n3;clear 5(hN σ3 H3 n3)m' hm w3;exact⟨m',hm,σ3,H3,I3,w3⟩
   |cont=>
     clear 5 q3 σ3 H3 I3 n3;clear 5(hN σ3 H3 n3)m' hm w3;exact⟨m',hm,σ3,H3,I3,w3⟩
   |brk=>exact q3
   |ret v=>exact q3
 |false=>
   rw[ia uf1];exact gE ⟨σ1,H2,I2,q2⟩
end
set_option genInjectivity false in structure It where
 go:Nat->Hp->Prop
 yld:Nat->Hp->V->Hp->Prop
 stop:Nat->Hp->Prop
def FpOk(X:Cx)(ff:List (fh×Obj))(H:Hp)(b:fh):Prop:=
 H b=none/\b≠X.env.locals/\b∉X.fs/\(b∈X.ex\/X.s₀.heap.objs.size<=b)/\(∀x c,X.env.cells.lookup x=some c->c≠b)/\∀p∈X.pn++ff,p.1≠b
theorem Inv.fpOk{H':Hp}(I:Inv X ff σ H s)(hb:s.heap.objs.size<=b)(hn:H' b=none):FpOk X ff H' b:=by
 refine⟨hn,um6 (ue9 I.lt hb),I.nofs hb,.inr (um5 I.sz hb),λx c e z=>?_,λp hp z=>?_⟩
 .clear 5(I.cell x c e)v q;exact absurd (ue9 q.lt (by rw[z];exact hb)) (ul1 _)
 .exact absurd (ue9 (um3 (I.pin p hp).1) (by rw[z];exact hb)) (ul1 _)
structure Turn(P:fk)(w:fq)(K:fc)(tg:Expr)(J:It)(fp:List fh)(it:fh)(tn:Nat->Heap->Prop):Prop where
 mem:it∈fp
 obj:∀i h,tn i h->∀b∈fp,∃o,h.get? b=some o/\∀v,o.data≠.cell v
 keep:∀i h h',tn i h->(∀b∈fp,∀o,h.get? b=some o->h'.get? b=some o)->tn i h'
 item:∀(X:Cx),X.prog=P->X.w=w->X.K=K->X.calm=true->∀(i:Nat) (ff:List (fh×Obj)) (s:fj) (σ:St) (H:Hp) (E:fg->fj->Prop),Inv X ff σ H s->(∀b∈fp,FpOk X ff H b)->tn i s.heap->J.go i H->
  wpAny (model P w) X.A (pyNext (.ref it)) (λr s1=>∃u,r=some u/\
   wpAny (model P w) X.A (letOwnedTupleGo tg (.ref it) u) (λ_ s2=>∃x H',Inv X ff σ H' s2/\RelV x u/\J.yld i H x H'/\tn (i+1) s2.heap/\∀b∈fp,H' b=none) E s1) E s
 done:∀(X:Cx),X.prog=P->X.w=w->X.K=K->X.calm=true->∀(i:Nat) (ff:List (fh×Obj)) (s:fj) (σ:St) (H:Hp) (E:fg->fj->Prop),Inv X ff σ H s->(∀b∈fp,FpOk X ff H b)->tn i s.heap->J.stop i H->
  wpAny (model P w) X.A (pyNext (.ref it)) (λr s1=>r=none/\Inv X ff σ H s1) E s
 self:∀(A:Around) (i:Nat) (s:fj) (Q:fg->fj->Prop) (E:fg->fj->Prop),tn i s.heap->Q (.ref it) s->wpAny (model P w) A (pyIter (.ref it)) Q E s
abbrev TI:=St->Hp->(It->Hp->Prop)->Prop
def PIE(X:Cx)(ff:List (fh×Obj))(σ:St)(tg:Expr)(R:It->Hp->Prop)(itv:fg)(s2:fj):Prop:=
 ∃(it:fh) (fp:List fh) (tn:Nat->Heap->Prop) (J:It) (H':Hp),itv=.ref it/\Inv X ff σ H' s2/\Turn X.prog X.w X.K tg J fp it tn/\tn 0 s2.heap/\(∀b∈fp,FpOk X ff H' b)/\R J H'
def PI(X:Cx)(tg iter:Expr)(wi:TI):Prop:=
 ∀(ff:List (fh×Obj)) (s:fj) (σ:St) (H:Hp) (R:It->Hp->Prop),Inv X ff σ H s->wi σ H R->
  wpAny (model X.prog X.w) X.A (eval iter X.env) (λv s1=>wpAny (model X.prog X.w) X.A (pyIter v) (PIE X ff σ tg R) X.xe s1) X.xe s
theorem Mg{M:Model}{A:Around}{it:fh}{n:String}{vs:Array fg}(ho:s.heap.get? it=some o)(hc:o.cls=.type n)(hd:o.data=.fields vs)
 (hn:["enumerate", "zip", "dict_itemiterator", "dict_reverseitemiterator", "odict_iterator", "itertools.zip_longest", "itertools.pairwise"].contains n=false) (hQ:Q () s):wpAny M A (letOwnedTupleGo tg (.ref it) u) Q E s:=by
 unfold letOwnedTupleGo
 cases tg<;>first
  |exact uo2 hQ
  | (cases u <;> first
      |exact uo2 hQ
      | (refine uo1 (wpAny_load ho ?_)
         rw[hc,hd];show wpAny M A (if (["enumerate", "zip", "dict_itemiterator", "dict_reverseitemiterator", "odict_iterator", "itertools.zip_longest", "itertools.pairwise"].contains n&&vs[0]?==some (rawInt _))=true then _ else _) Q E s;rw[ia (by intro h;rw[hn,uk5] at h;cases h)]
         exact uo2 hQ))
noncomputable def Itl(K:fc)(a:fh):It:=
 ⟨λi H=>∃xs x,SqL K H a xs/\xs[i]?=some x,λi H x H'=>H'=H/\∀xs,SqL K H a xs->xs[i]?=some x,λi H=>∃xs,SqL K H a xs/\xs.length<=i⟩
noncomputable def Itt(K:fc)(a:fh):It:=
 ⟨λi H=>∃xs x,SqT K H a xs/\xs[i]?=some x,λi H x H'=>H'=H/\∀xs,SqT K H a xs->xs[i]?=some x,λi H=>∃xs,SqT K H a xs/\xs.length<=i⟩
noncomputable def Itr(lo:Int)(n:Nat):It:=⟨λi _=>i<n,λi H x H'=>H'=H/\x=.int (lo+i),λi _=>n<=i⟩
theorem SI(a it:fh):Turn P w K tg (Itl K a) [it] it (λi h=>h.IsListIter it a i) where
 mem:=by simp
 obj:=λi h st b hb=>by
  have e:b=it:=by simpa using hb
  subst e;clear 5 st o e c d;exact⟨o,e,λv z=>by rw[d] at z;cases z⟩
 keep:=λi h h' st k=>st.at λo e=>k it (by simp) o e
 item:=by
  intro X hP hw hK hc i ff s σ H E I hf st hg;subst hP hw hK;clear 5 hg xs x hq hx;clear 5(I.list hq)its rv p hz;clear 5(rv.get hx)u hu ru;clear 5(hf it (by simp))f0 f1 f2 f3 f4 f5;refine wpAny_pyNext_list_item st p.isList (x:=u) (by simpa using hu) λh' st' sb=>?_;have I1:Inv X ff σ H {s with heap:=h'}:=I.turned (t':=s.toks) (λb o hb e=>(sb.2 b hb).trans e) f0 f1 f3 f4 f5;clear 5(id st')o e c d;exact⟨u,rfl,Mg (s:={s with heap:=h'}) e c d (by decide) ⟨x,H,I1,ru,⟨rfl,λys hy=>by rw[I.list_inj hy hq];exact hx⟩,st',λb hb=>(hf b hb).1⟩⟩
 done:=by
  intro X hP hw hK hc i ff s σ H E I hf st hg;subst hP hw hK;clear 5 hg xs hq hx;clear 5(I.list hq)its rv p hz;clear 5(hf it (by simp))f0 f1 f2 f3 f4 f5;have hl:=rv.length;exact wpAny_pyNext_list_end (I.ok.hd hc) st p.isList (by simp;lia) λh' eb=>⟨rfl,I.turned (t':=s.toks) (λb o hb e=>eb b o hb e) f0 f1 f3 f4 f5⟩
 self:=λ_ _ _ _ _ st h=>wpAny_pyIter_listiter st h
theorem Qy(a it:fh):Turn P w K tg (Itt K a) [it] it (λi h=>h.IsTupleIter it a i) where
 mem:=by simp
 obj:=λi h st b hb=>by
  have e:b=it:=by simpa using hb
  subst e;clear 5 st o e c d;exact⟨o,e,λv z=>by rw[d] at z;cases z⟩
 keep:=λi h h' st k=>st.at λo e=>k it (by simp) o e
 item:=by
  intro X hP hw hK hc i ff s σ H E I hf st hg;subst hP hw hK;clear 5 hg xs x hq hx;clear 5(I.tuple hq)its rv p hz;clear 5(rv.get hx)u hu ru;clear 5(hf it (by simp))f0 f1 f2 f3 f4 f5;refine wpAny_pyNext_tuple_item st (show s.heap.IsTuple a its.toArray from p) (x:=u) (by simpa using hu) λh' st' sb=>?_;have I1:Inv X ff σ H {s with heap:=h'}:=I.turned (t':=s.toks) (λb o hb e=>(sb.2 b hb).trans e) f0 f1 f3 f4 f5;clear 5(id st')o e c d;exact⟨u,rfl,Mg (s:={s with heap:=h'}) e c d (by decide) ⟨x,H,I1,ru,⟨rfl,λys hy=>by rw[I.tuple_inj hy hq];exact hx⟩,st',λb hb=>(hf b hb).1⟩⟩
 done:=by
  intro X hP hw hK hc i ff s σ H E I hf st hg;subst hP hw hK;clear 5 hg xs hq hx;clear 5(I.tuple hq)its rv p hz;clear 5(hf it (by simp))f0 f1 f2 f3 f4 f5;have hl:=rv.length;exact wpAny_pyNext_tuple_end (I.ok.hd hc) st (show s.heap.IsTuple a its.toArray from p) (by simp;lia) λh' eb=>⟨rfl,I.turned (t':=s.toks) (λb o hb e=>eb b o hb e) f0 f1 f3 f4 f5⟩
 self:=λ_ _ _ _ _ st h=>wpAny_pyIter_tupleiter st h
theorem Qx(it:fh)(lo:Int)(n:Nat):Turn P w K tg (Itr lo n) [it] it (λi h=>IsRangeIter h it (lo+(i:Nat)*1) ((n:Int)-(i:Nat)) 1) where
 mem:=by simp
 obj:=λi h st b hb=>by
  have e:b=it:=by simpa using hb
  subst e;exact⟨_,st,λv z=>by
   have z':Data.fields _=Data.cell v:=z
   cases z'⟩
 keep:=λi h h' st k=>k it (by simp) _ st
 item:=by
  intro X hP hw hK hc i ff s σ H E I hf st hg;subst hP hw hK;clear 5(hf it (by simp))f0 f1 f2 f3 f4 f5;have W:=Walks.range (prog:=X.prog) (w:=X.w) (I.ok.hd hc) it lo 1 n;refine W.item i s _ _ hg st λv h' tk hv st' kk=>?_;clear 5 hv t rfl;have I1:Inv X ff σ H {s with heap:=h',toks:=tk}:=I.turned (λb o hb e=>kk b o (by simpa using hb) e) f0 f1 f3 f4 f5;refine⟨_,rfl,Mg (s:={s with heap:=h',toks:=tk}) (n:="range_iterator") st' rfl rfl (by decide) ⟨.int (lo+i),H,I1,⟨t,?_⟩,⟨rfl,rfl⟩,st',λb hb=>(hf b hb).1⟩⟩;rw[Int.mul_one]
 done:=by
  intro X hP hw hK hc i ff s σ H E I hf st hg;subst hP hw hK;clear 5(hf it (by simp))f0 f1 f2 f3 f4 f5;exact wpAny_pyNext_range_end (I.ok.hd hc) st (by have:n<=i:=hg;lia) λh' eb=>⟨rfl,I.turned (t':=s.toks) (λb o hb e=>eb b o hb e) f0 f1 f3 f4 f5⟩
 self:=λ_ _ _ _ _ st h=>wpAny_pyIter_rangeiter st h
variable{fp:List fh}
section
variable{X:Cx}{tg:Expr}
theorem Nw{R:It->Hp->Prop}{lo hi:Int}{t u v:Tok}{tk:Nat}(I:Inv X ff σ H s)(h1 : -(2 ^ 62)<=lo)(h2:lo<2 ^ 62)(h3 : -(2 ^ 62)<=hi)(h4:hi<2 ^ 62)
 (q:R (Itr lo (hi-lo).toNat) H):wpAny (model X.prog X.w) X.A (pyIter (.ref s.heap.objs.size)) (PIE X ff σ tg R) E {s with heap:=s.heap.push {cls:=.type "range",data:=.fields #[.int lo t,.int hi u,.int 1 v]},toks:=tk}:=by
 refine wpAny_pyIter_range (IsRange.new ..) (small_one h1 h2 h3 h4) ?_;have I1:Inv X ff σ H {s with heap:=s.heap.push {cls:=.type "range",data:=.fields #[.int lo t,.int hi u,.int 1 v]},toks:=tk}:=I.kept λb o e=>uc0 _ e;refine⟨(s.heap.push {cls:=.type "range",data:=.fields #[.int lo t,.int hi u,.int 1 v]}).objs.size,[(s.heap.push {cls:=.type "range",data:=.fields #[.int lo t,.int hi u,.int 1 v]}).objs.size],_,_,H,rfl,
  I1.kept (t':=tk) λb o e=>uc0 _ e,Qx _ lo (hi-lo).toNat,?_,λb hb=>?_,q⟩
 .have e1:lo+((0:Nat):Int)*1=lo:=by simp
  have e2:(((hi-lo).toNat:Nat):Int)-((0:Nat):Int)=Builtin.Range.rangeSize lo hi 1:=by rw[rangeSize_one];split<;>lia
  show IsRangeIter _ _ (lo+((0:Nat):Int)*1) ((((hi-lo).toNat:Nat):Int)-((0:Nat):Int)) 1;rw[e1,e2];exact ue3 _ rfl
 .have e:b=(s.heap.push {cls:=.type "range",data:=.fields #[.int lo t,.int hi u,.int 1 v]}).objs.size:=by simpa using hb
  subst e;exact I1.fpOk (un6 _) (I1.hok.fresh (un6 _))
def af(ta:TA):TI:=λσ H R=>ta σ H λvs H1=>∃j:Int,vs=[.int j]/\-(2 ^ 62)<=j/\j<2 ^ 62/\R (Itr 0 j.toNat) H1
def ah(ta:TA):TI:=λσ H R=>ta σ H λvs H1=>∃i j:Int,vs=[.int i,.int j]/\(-(2 ^ 62)<=i/\i<2 ^ 62/\-(2 ^ 62)<=j/\j<2 ^ 62)/\R (Itr i (j-i).toNat) H1
theorem Sc{a:Expr}{ta:TA}{p pos:Pos}(hg:Gl X "range")(hm:X.mg "range" = none)(ha:PA X [a] ta)(hs:starEach [a] X.env=[(false,eval a X.env)]:=by rfl):PI X tg (.Call (.Name "range" p) [a] [] pos) (af ta):=by
 intro ff s σ H R I h;refine Call_ (GL I hg hm boot_range (ua2 (thn (ha pos ff s σ H _ I h) λus s1 z9=>?_) hs rfl));clear 5 z9 vs H1 I1 r1 q1;clear 5 q1 j e q1 q2 q;subst e
 cases r1 with
 |cons r rr=>
   cases rr
   clear 5 r t rfl;exact call_range_1 (Nw I1 (by lia) (by lia) q1 q2 (by simpa using q))
theorem Sd{a b:Expr}{ta:TA}{p pos:Pos}(hg:Gl X "range")(hm:X.mg "range" = none)(ha:PA X [a,b] ta)(hs:starEach [a,b] X.env=[(false,eval a X.env),(false,eval b X.env)]:=by rfl)(hs2:starEach [b] X.env=[(false,eval b X.env)]:=by rfl) :
 PI X tg (.Call (.Name "range" p) [a,b] [] pos) (ah ta):=by
 intro ff s σ H R I h;refine Call_ (GL I hg hm boot_range (ua2 (thn (ha pos ff s σ H _ I h) λus s1 z9=>?_) (by rw[hs,hs2]) (by rw[hs2];rfl)));clear 5 z9 vs H1 I1 r1 q1;obtain⟨i,j,e,⟨q1,q2,q3,q4⟩,q⟩:=q1;subst e
 cases r1 with
 |cons r rr=>
   cases rr with
   |cons r' rr=>
     cases rr
     clear 5 r t rfl;clear 5 r' t' rfl;exact call_range_2 (Nw I1 q1 q2 q3 q4 q)
def Qu(wi:TI)(g:TG)(tb:TS):TS:=λD σ H=>wi σ H λJ H1=>∃W:Nat->Nat->St->Hp->Prop,(∃m,W 0 m σ H1)/\∀i m σ H,W i m σ H->
 (J.stop i H/\D.nx σ H)\/(J.go i H/\∃N:St->Hp->Prop,(∀σ' H',N σ' H'->∃m',m'<m/\W (i+1) m' σ' H')/\∀x H',J.yld i H x H'->g x σ H' λσ2 H2=>tb {D with nx:=N,ct:=N,bk:=D.nx} σ2 H2)
noncomputable def Ir(fp:List fh)(h:Heap):List (fh×Obj):=fp.filterMap λb=>(h.get? b).map λo=>(b,o)
theorem FF(hb:b∈fp)(e:h.get? b=some o):(b,o)∈Ir fp h:=List.mem_filterMap.mpr ⟨b,hb,by rw[e];rfl⟩
theorem R1{p:fh×Obj}(hp:p∈Ir fp h):p.1∈fp/\h.get? p.1=some p.2:=by
 clear 5(List.mem_filterMap.mp hp)b hb e
 cases q:h.get? b with
 |none=>rw[q] at e;cases e
 |some o=>
   rw[q] at e;have e':(b,o)=p:=ui7 e;subst e';exact⟨hb,q⟩
theorem Inv.pinned(I:Inv X ff σ H s)(hf:∀b∈fp,FpOk X ff H b)(ho:∀b∈fp,∃o,s.heap.get? b=some o/\∀v,o.data≠.cell v):Inv X (ff++Ir fp s.heap) σ H s:=
 I.pins_of λp hp=>(ui6.mp hp).elim (λz=>I.pin p (uc6 _ z)) λz=>by
  clear 5(R1 z)hb e;obtain⟨f0,f1,f2,_⟩:=hf p.1 hb;clear 5(ho p.1 hb)o e' d;rw[e] at e';cases e'
  exact⟨e,f0,f1,f2,d⟩
theorem Inv.unpinned{pl:List (fh×Obj)}(I:Inv X (ff++pl) σ H s):Inv X ff σ H s:=I.pins_of λp hp=>I.pin p (uc6 _ (ud6 _ hp))
theorem Nt{iter:Expr}{body:List Stmt}{wi:TI}{g:TG}{tb:TS}{pos:Pos}(hp:PassesOwn (model X.prog X.w) X.A X.env X.xe)(hc:X.calm=true)(hi:PI X tg iter wi)(hg:PG X tg g)(hb:PSs X body tb)
 (hs:∀x,foldedSetIterable iter X.env x=pure x:=by intro _;rfl):PS X (.For tg iter body [] pos) (Qu wi g tb):=by
 intro ff s σ H D I h;refine wpAny_For (thn (hi ff s σ H _ I h) λv s1 h1=>thn h1 λitv s2 h2=>?_) hs;obtain⟨it,fp,tn,J,H2,e,I2,T,st2,f2,W,⟨m0,w0⟩,turn⟩:=h2;subst e
 -- what stays true of the iterator's objects through the loop
 have stat:∀{H':Hp},(∀b∈fp,H' b=none)->∀b∈fp,FpOk X ff H' b:=λhn b hb=>⟨hn b hb,(f2 b hb).2⟩;refine codeAny_forLoop_any (λn s'=>∃i σ' H',Inv X ff σ' H' s'/\tn i s'.heap/\(∀b∈fp,H' b=none)/\W i n σ' H') ?_ m0 ⟨0,σ,H2,I2,st2,λb hb=>(f2 b hb).1,w0⟩;rintro n s3 ⟨i,σ3,H3,I3,st3,fr3,w3⟩;rcases turn i n σ3 H3 w3 with⟨stop,qn⟩|⟨go,N,hN,step⟩
 .refine gF hp (thn (T.done X rfl rfl rfl hc i ff s3 σ3 H3 X.xe I3 (stat fr3) st3 stop) λr s4 z9=>?_);clear 5 z9 hr I4;subst hr;exact gE ⟨σ3,H3,I4,qn⟩
 .refine gF hp (thn (T.item X rfl rfl rfl hc i ff s3 σ3 H3 X.xe I3 (stat fr3) st3 go) λr s4 z9=>?_);clear 5 z9 u hr h4;subst hr;refine gF hp (thn h4 λ_ s5 z9=>?_);clear 5 z9 x H5 I5 r5 y5 st5 fr5;have I5':=I5.pinned (stat fr5) (T.obj _ _ st5);refine gF hp (thn (hg _ s5 σ3 H5 x u _ I5' r5 (step x H5 y5)) λ_ s6 z9=>?_);clear 5 z9 σ6 H6 I6 q6;refine gF hp (thn (hb _ s6 σ6 H6 _ I6 q6) λf s7 q7=>?_);have again:∀{σ7:St}{H7:Hp},Inv X (ff++Ir fp s5.heap) σ7 H7 s7->N σ7 H7->∃m,m<n/\∃i σ' H',Inv X ff σ' H' s7/\tn i s7.heap/\(∀b∈fp,H' b=none)/\W i m σ' H':=λ{σ7 H7} I7 n7=>by
   clear 5(hN σ7 H7 n7)m' hm w7;refine⟨m',hm,i+1,σ7,H7,I7.unpinned,T.keep _ _ _ st5 λb hb o e=>(I7.pin (b,o) (uc6 _ (uc6 _ (FF hb e)))).1,λb hb=>?_,w7⟩;clear 5(T.obj _ _ st5 b hb)o e d;exact(I7.pin (b,o) (uc6 _ (uc6 _ (FF hb e)))).2.1
  cases f with
  |next=>clear 5 q7 σ7 H7 I7 n7;exact again I7 n7
  |cont=>clear 5 q7 σ7 H7 I7 n7;exact again I7 n7
  |brk=>clear 5 q7 σ7 H7 I7 q7;exact⟨σ7,H7,I7.unpinned,q7⟩
  |ret v=>clear 5 q7 x7 σ7 H7 I7 r7 q7;exact⟨x7,σ7,H7,I7.unpinned,r7,q7⟩
end
abbrev R2:=V->V->Hp->VK->Prop
def OpR(X:Cx)(f:fg->fg->Sem fg)(r:R2):Prop:=
 ∀(ff:List (fh×Obj)) (s:fj) (σ:St) (H:Hp) (x y:V) (v u:fg) (Q:VK),Inv X ff σ H s->RelV x v->RelV y u->r x y H Q->
  wpAny (model X.prog X.w) X.A (f v u) (EP X ff σ Q) X.xe s
def UnR(X:Cx)(f:fg->Sem fg)(r:V->Hp->VK->Prop):Prop:=
 ∀(ff:List (fh×Obj)) (s:fj) (σ:St) (H:Hp) (x:V) (v:fg) (Q:VK),Inv X ff σ H s->RelV x v->r x H Q->
  wpAny (model X.prog X.w) X.A (f v) (EP X ff σ Q) X.xe s
def Do(X:Cx)(f:fg)(r:List V->Hp->VK->Prop):Prop:=
 ∀(ff:List (fh×Obj)) (s:fj) (σ:St) (H:Hp) (xs:List V) (us:List fg) (Q:VK),Inv X ff σ H s->Vals xs us->r xs H Q->
  wpAny (model X.prog X.w) X.A (call f us) (EP X ff σ Q) X.xe s
def tOp(r:R2)(ta tb:TE):TE:=λσ H Q=>ta σ H λx H1=>tb σ H1 λy H2=>r x y H2 Q
def tUn(r:V->Hp->VK->Prop)(ta:TE):TE:=λσ H Q=>ta σ H λx H1=>r x H1 Q
def rI(C:Int->Int->Prop)(g:Int->Int->V):R2:=λx y H Q=>∃i j,x=.int i/\y=.int j/\C i j/\Q (g i j) H
def rI0(g:Int->Int->V):R2:=λx y H Q=>∃i j,x=.int i/\y=.int j/\Q (g i j) H
def rU(g:Int->V):V->Hp->VK->Prop:=λx H Q=>∃i,x=.int i/\Q (g i) H
variable{r:R2}{f:fg->fg->Sem fg}
section
variable{X:Cx}{a b c:Expr}{ta tb tc:TE}{pos:Pos}
theorem Te(ha:PE X a ta)(hb:PE X b tb){ff:List (fh×Obj)}{s:fj}{σ:St}{H:Hp}{R:V->V->Hp->Prop}(I:Inv X ff σ H s)
 (h:ta σ H λx H1=>tb σ H1 λy H2=>R x y H2){Q:fg->fj->Prop}{f:fg->fg->Sem fg}
 (hf:∀v u s2 x y H2,Inv X ff σ H2 s2->RelV x v->RelV y u->R x y H2->wpAny (model X.prog X.w) X.A (f v u) Q X.xe s2) :
 wpAny (model X.prog X.w) X.A (eval a X.env) (λv s₁=>wpAny (model X.prog X.w) X.A (eval b X.env) (λu s₂=>wpAny (model X.prog X.w) X.A (f v u) Q X.xe s₂) X.xe s₁) X.xe s:=by
 refine thn (ha ff s σ H _ I h) λv s1 z9=>?_;clear 5 z9 x H1 I1 r1 q1;refine thn (hb ff s1 σ H1 _ I1 q1) λu s2 z9=>?_;clear 5 z9 y H2 I2 r2 q2;exact hf v u s2 x y H2 I2 r1 r2 q2
theorem Qh{op:Operator}(ho:OpR X (binaryOp op) r)(ha:PE X a ta)(hb:PE X b tb):PE X (.BinOp a op b pos) (tOp r ta tb):=by
 intro ff s σ H Q I h;exact wpAny_BinOp (Te ha hb I h λv u s2 x y H2 I2 rx ry q=>ho ff s2 σ H2 x y v u Q I2 rx ry q)
theorem aq{op:UnaryOp}{r:V->Hp->VK->Prop}(ho:UnR X (unaryOp op) r)(ha:PE X a ta):PE X (.UnaryOp op a pos) (tUn r ta):=by
 intro ff s σ H Q I h;exact UnaryOp_ (thn (ha ff s σ H _ I h) λv s1 z9=>by clear 5 z9 x H1 I1 r1 q1;exact ho ff s1 σ H1 x v Q I1 r1 q1)
theorem opI{C:Int->Int->Prop}{g:Int->Int->Int}
 (rule:∀(i j:Int) (t u:Tok) (s:fj) (Q:fg->fj->Prop) (E:fg->fj->Prop),C i j->Q (.int (g i j) s.toks) {s with toks:=s.toks+1}->wpAny (model X.prog X.w) X.A (f (.int i t) (.int j u)) Q E s) :
 OpR X f (rI C λi j=>.int (g i j)):=by
 intro ff s σ H x y v u Q I rx ry h;clear 5 h i j rfl rfl hc q;clear 5 rx t rfl;clear 5 ry t' rfl;exact rule i j t t' s _ _ hc ⟨.int (g i j),H,I.tok _,⟨_,rfl⟩,q⟩
theorem YN{g:Int->Int->Int}
 (rule:∀(i j:Int) (t u:Tok) (s:fj) (Q:fg->fj->Prop) (E:fg->fj->Prop),Q (.int (g i j) s.toks) {s with toks:=s.toks+1}->wpAny (model X.prog X.w) X.A (f (.int i t) (.int j u)) Q E s) :
 OpR X f (rI0 λi j=>.int (g i j)):=by
 intro ff s σ H x y v u Q I rx ry h;clear 5 h i j rfl rfl q;clear 5 rx t rfl;clear 5 ry t' rfl;exact rule i j t t' s _ _ ⟨.int (g i j),H,I.tok _,⟨_,rfl⟩,q⟩
theorem Qg{g:Int->Int->Bool}
 (rule:∀(i j:Int) (t u:Tok) (s:fj) (Q:fg->fj->Prop) (E:fg->fj->Prop),Q (.bool (g i j)) s->wpAny (model X.prog X.w) X.A (f (.int i t) (.int j u)) Q E s) :
 OpR X f (rI0 λi j=>.bl (g i j)):=by
 intro ff s σ H x y v u Q I rx ry h;clear 5 h i j rfl rfl q;clear 5 rx t rfl;clear 5 ry t' rfl;exact rule i j t t' s _ _ ⟨.bl (g i j),H,I,rfl,q⟩
def Xy(i j:Int):Prop:=0<j/\j<1073741824
def Xz(i j:Int):Prop:=0<=j/\j<=1000000/\i.natAbs<2 ^ 64
def CMul(i j:Int):Prop:=(-(2 ^ 64)<i/\i<2 ^ 64)\/(-(2 ^ 64)<j/\j<2 ^ 64)
theorem CMul.ok{i j:Int}(h:CMul i j):IntMulOk i j:=by
 rcases h with⟨h1,h2⟩|⟨h1,h2⟩
 .exact .of_left (intBits_le_64 h1 h2)
 .exact .of_right (intBits_le_64 h1 h2)
theorem two_pow_nn(k:Nat):(0:Int)<=2 ^ k:=by
 rw[two_pow_cast];exact Int.natCast_nonneg _
theorem op_add:OpR X (binaryOp .Add) (rI0 λi j=>.int (i+j)):=YN λ_ _ _ _ _ _ _ q=>add_int q
theorem YV:OpR X (binaryOp .Sub) (rI0 λi j=>.int (i-j)):=YN λ_ _ _ _ _ _ _ q=>sub_int q
theorem YS:OpR X (binaryOp .Mult) (rI CMul λi j=>.int (i*j)):=opI λ_ _ _ _ _ _ _ hc q=>mul_int q hc.ok
theorem Wp:OpR X (binaryOp .FloorDiv) (rI Xy λi j=>.int (i/j)):=opI λi j _ _ _ _ _ hc q=>by
 have h1:(0:Int)<j:=hc.1;have h2:j<1073741824:=hc.2;exact floordiv_int (by lia) (by rw[fv i (by lia)];exact q) (.inl (PyProof.noPylong_small (by lia)))
theorem YR:OpR X (binaryOp .Mod) (rI (λ_ j=>0<j) λi j=>.int (i%j)):=opI λi j _ _ _ _ _ hc q=>by
 have h1:(0:Int)<j:=hc;exact mod_int' (by lia) (by rw[Int.fmod_eq_emod_of_nonneg i (by lia)];exact q)
theorem YT:OpR X (binaryOp .Pow) (rI Xz λi j=>.int (i ^ j.toNat)):=opI λ_ _ _ _ _ _ _ hc q=>pow_int_small hc.1 hc.2.1 hc.2.2 q
theorem YU:OpR X (binaryOp .RShift) (rI (λ_ j=>0<=j) λi j=>.int (i/2 ^ j.toNat)):=opI λi j _ _ _ _ _ hc q=>
 rshift_int hc (by rw[fv i (two_pow_nn _)];exact q)
theorem unI{f:fg->Sem fg}{g:Int->Int}
 (rule:∀(i:Int) (t:Tok) (s:fj) (Q:fg->fj->Prop) (E:fg->fj->Prop),Q (.int (g i) s.toks) {s with toks:=s.toks+1}->wpAny (model X.prog X.w) X.A (f (.int i t)) Q E s) :
 UnR X f (rU λi=>.int (g i)):=by
 intro ff s σ H x v Q I rx h;clear 5 h i rfl q;clear 5 rx t rfl;exact rule i t s _ _ ⟨.int (g i),H,I.tok _,⟨_,rfl⟩,q⟩
theorem ZC:UnR X (unaryOp .USub) (rU λi=>.int (-i)):=unI λ_ _ _ _ _ q=>neg_int q
end
variable{op:CmpOp}{us:List fg}
section
variable{X:Cx}{a b c:Expr}{ta tb tc:TE}{pos:Pos}
theorem op_lt:OpR X (compareOp .Lt) (rI0 λi j=>.bl (decide (i<j))):=Qg λ_ _ _ _ _ _ _ q=>lt_int q
theorem op_le:OpR X (compareOp .LtE) (rI0 λi j=>.bl (decide (i<=j))):=Qg λ_ _ _ _ _ _ _ q=>le_int q
theorem op_gt:OpR X (compareOp .Gt) (rI0 λi j=>.bl (decide (j<i))):=Qg λ_ _ _ _ _ _ _ q=>gt_int q
theorem op_ge:OpR X (compareOp .GtE) (rI0 λi j=>.bl (decide (j<=i))):=Qg λ_ _ _ _ _ _ _ q=>ge_int q
theorem OpR.or{r':R2}(h:OpR X f r)(h':OpR X f r'):OpR X f (λx y H Q=>r x y H Q\/r' x y H Q):=by
 intro ff s σ H x y v u Q I rx ry q;rcases q with q|q
 .exact h ff s σ H x y v u Q I rx ry q
 .exact h' ff s σ H x y v u Q I rx ry q
theorem Di(b:Expr){op:CmpOp}(h:op≠.In:=by decide)(h2:op≠.NotIn:=by decide):behindInMarks op b=false:=by
 have e1:(op==CmpOp.In)=false:=by cases op<;>first|rfl|exact absurd rfl h
 have e2:(op==CmpOp.NotIn)=false:=by cases op<;>first|rfl|exact absurd rfl h2
 cases b<;>simp[behindInMarks,e1,e2]
theorem Ww(ho:OpR X (compareOp op) r)(ha:PE X a ta)(hb:PE X b tb)(hm:behindInMarks op b=false):PE X (.Compare a [op] [b] pos) (tOp r ta tb):=by
 intro ff s σ H Q I h;exact wpAny_Compare1 (Te ha hb I h λv u s2 x y H2 I2 rx ry q=>ho ff s2 σ H2 x y v u Q I2 rx ry q) hm
def aO(t:TE):TT:=λσ H Q=>t σ H λx H'=>∃k,x=.bl k/\Q k H'
theorem WL(ho:OpR X (compareOp op) r)(ha:PE X a ta)(hb:PE X b tb)(hm:behindInMarks op b=false):PT X (.Compare a [op] [b] pos) (aO (tOp r ta tb)):=by
 intro ff s σ H Q I h;refine wpAny_isTrue_Compare1 (thn (ha ff s σ H _ I h) λv s1 ⟨x,H1,I1,r1,q1⟩=>thn (hb ff s1 σ H1 _ I1 q1) λu s2 ⟨y,H2,I2,r2,q2⟩=>
  thn (ho ff s2 σ H2 x y v u _ I2 r1 r2 q2) λc s3 ⟨z,H3,I3,r3,k,e,q3⟩=>?_) hm
 subst e
 cases r3
 exact gy ⟨H3,I3,q3⟩
def SD(r r':R2)(ta tb tc:TE):TE:=λσ H Q=>ta σ H λx H1=>tb σ H1 λy H2=>r x y H2 λz H3=>∃k,z=.bl k/\
 (if k=true then tc σ H3 λw' H4=>r' y w' H4 Q else Q (.bl false) H3)
theorem Ud{op':CmpOp}{r':R2}(ho:OpR X (compareOp op) r)(ho':OpR X (compareOp op') r')(ha:PE X a ta)(hb:PE X b tb)(hc:PE X c tc)
 (hm:lastMarks [op,op'] [b,c]=false:=by with_unfolding_all rfl):PE X (.Compare a [op,op'] [b,c] pos) (SD r r' ta tb tc):=by
 intro ff s σ H Q I h;refine Compare_chain (thn (ha ff s σ H _ I h) λv s1 ⟨x,H1,I1,r1,q1⟩=>chain_link (thn (hb ff s1 σ H1 _ I1 q1) λu s2 ⟨y,H2,I2,r2,q2⟩=>
  thn (ho ff s2 σ H2 x y v u _ I2 r1 r2 q2) λd s3 ⟨z,H3,I3,r3,k,e,q3⟩=>?_)) hm
 subst e
 cases r3
 refine gy ?_
 cases k with
 |false=>exact ite_ff ⟨.bl false,H3,I3,rfl,q3⟩
 |true=>exact ite_tt (chain_last (thn (hc ff s3 σ H3 _ I3 q3) λw' s4 z9=>by clear 5 z9 z' H4 I4 r4 q4;exact ho' ff s4 σ H4 y z' u w' Q I4 r2 r4 q4))
theorem Ih:(sizeLine:Nat)<2 ^ 63:=by rw[gR];decide
theorem op_add_str:OpR X (binaryOp .Add) (λx y H Q=>∃i j,x=.str i/\y=.str j/\i.length+j.length<=sizeLine/\Q (.str (i++j)) H):=by
 intro ff s σ H x y v u Q I rx ry h;clear 5 h i j rfl rfl hz q;clear 5 rx t rfl;clear 5 ry t' rfl;exact add_str (λt' tk=>⟨.str (i++j),H,I.tok _,⟨_,rfl⟩,q⟩) hz
theorem Jb{x:V}(r:Vals [x] us):∃u,us=[u]/\RelV x u:=by
 cases r with
 |cons r1 r2=>cases r2;exact⟨_,rfl,r1⟩
theorem U9{x y:V}(r:Vals [x,y] us):∃u w',us=[u,w']/\RelV x u/\RelV y w':=by
 cases r with
 |cons r1 r2=>
   cases r2 with
   |cons r3 r4=>cases r4;exact⟨_,_,rfl,r1,r3⟩
theorem QR(hc:X.calm=true):Do X (.builtin "min") (λxs H Q=>∃i j,xs=[.int i,.int j]/\Q (.int (if j<i then j else i)) H):=by
 intro ff s σ H xs us Q I r h;clear 5 h i j rfl q;obtain⟨u,w',rfl,⟨t,rfl⟩,⟨t',rfl⟩⟩:=U9 r;refine min_two_ints (I.ok.hd hc) λh' tk k=>⟨_,H,I.kept k,?_,q⟩
 by_cases hj:j<i
 .rw[hX hj,hX hj];exact⟨_,rfl⟩
 .rw[ia hj,ia hj];exact⟨_,rfl⟩
theorem QQ:Do X (.type "int") (λxs H Q=>(∃i,xs=[.int i]/\Q (.int i) H)\/∃k,xs=[.bl k]/\Q (.int (if k then 1 else 0)) H):=by
 intro ff s σ H xs us Q I r h;rcases h with⟨i,rfl,q⟩|⟨k,rfl,q⟩
 .clear 5(Jb r)u rfl t rfl;exact call_int_int ⟨.int i,H,I,⟨_,rfl⟩,q⟩
 .obtain⟨u,rfl,r1⟩:=Jb r
  cases r1
  exact call_int_bool ⟨.int (if k then 1 else 0),H,I.tok _,⟨_,rfl⟩,q⟩
theorem Tj:Do X (.builtin "ord") (λxs H Q=>∃x,xs=[.str x]/\x.length=1/\Q (.int (x.cps.getD 0 0:Nat)) H):=by
 intro ff s σ H xs us Q I r h;clear 5 h x rfl hz q;clear 5(Jb r)u rfl t rfl;exact ord_of_one hz ⟨.int _,H,I.tok _,⟨_,rfl⟩,q⟩
def XB(K:fc)(x:V)(H:Hp)(n:Nat):Prop:=
 match x with
 |.str y=>y.length<=sizeLine/\n=y.length
 |.byt y=>y.size<=sizeLine/\n=y.size
 |.ref p=>(∃xs,SqL K H p xs/\n=xs.length)\/∃xs,SqT K H p xs/\n=xs.length
 |_=>False
theorem Ti:Do X (.builtin "len") (λxs H Q=>∃x n,xs=[x]/\XB X.K x H n/\Q (.int n) H):=by
 intro ff s σ H xs us Q I r h;clear 5 h x n rfl e q;clear 5(Jb r)u rfl rx;have hl:=Ih;have hs:sizeLine=16777216:=gR
 cases x with
 |str y=>
   clear 5 rx t rfl;obtain⟨hy,e'⟩:y.length<=sizeLine/\n=y.length:=e;subst e';exact len_str (by lia) ⟨.int _,H,I.tok _,⟨_,rfl⟩,q⟩
 |byt y=>
   clear 5 rx t rfl;obtain⟨hy,e'⟩:y.size<=sizeLine/\n=y.size:=e;subst e';exact PySem.W.len_bytes (by lia) ⟨.int _,H,I.tok _,⟨_,rfl⟩,q⟩
 |ref p=>
   cases rx
   have e':(∃xs,SqL X.K H p xs/\n=xs.length)\/∃xs,SqT X.K H p xs/\n=xs.length:=e;rcases e' with⟨xs,hx,e'⟩|⟨xs,hx,e'⟩
   .subst e';clear 5(I.list hx)its r' pl hz;have hlen:=r'.length;exact Calls.call_len_list pl.isList (by simp only[ug0];lia) ⟨.int xs.length,H,I.tok _,⟨_,by simp only[ug0];rw[hlen]⟩,q⟩
   .subst e';clear 5(I.tuple hx)its r' pl hz;have hlen:=r'.length;exact len_tuple pl (by simp only[ug0];lia) ⟨.int xs.length,H,I.tok _,⟨_,by simp only[ug0];rw[hlen]⟩,q⟩
 |_=>exact(show False from e).elim
end
structure ObjM(h:Heap)(x dx C:fh)(mA:Str->Option fg):Prop where
 obj:h.get? x=some (PySem.W.instObj C dx)
 ns:h.Ns1 dx mA
 ne:dx≠x
theorem Rz{dx:fh}{mA:Str->Option fg}(n:h.Ns1 dx mA):∃od,h.get? dx=some od/\∀name,PySem.W.lookIn name od=some (mA name):=by
 obtain⟨o,es,ep,ho,hd,hk,_,hm⟩:=n;refine⟨o,ho,λname=>?_⟩;have e:=hm name;unfold nsFind findBy at e;rw[<-Array.find?_toList] at e;unfold PySem.W.lookIn;rw[hd];dsimp only
 split
 .rename_i y q;rw[q] at e;exact gY some e
 .rename_i q;rw[q] at e;have a:es.toList.any (·.refKey)=false:=by
   rw[List.any_eq_false];intro y hy;clear 5(hk y (Array.mem_toList_iff.mp hy))z t hkey;simp[DictEntry.refKey,hkey]
  have a':¬es.toList.any (·.refKey)=true:=by rw[a];exact uf1
  rw[ia a'];exact gY some e
variable{C:fh}
theorem ObjM.look{x dx:fh}{mA:Str->Option fg}(I:ObjM h x dx C mA):∃od,PySem.W.InstAt h x (PySem.W.instObj C dx) C (some od)/\∀name,PySem.W.lookIn name od=some (mA name):=
 let ⟨od,ho,hl⟩:=Rz I.ns
 ⟨od,⟨I.obj,rfl,rfl,ho⟩,hl⟩
variable{pl:Sem Bool}{kw:List (Str×fg)}
section
variable{prog:fk}{w:fq}{A:Around}{E:fg->fj->Prop}{s:fj}{K:fc}{x dx C f:fh}{mA:Str->Option fg}{name:Str}{v:fg}
theorem VR{expr:Bool}{Q:fg->fj->Prop}(X:K.In s.heap)(I:ObjM s.heap x dx C mA)(hg:PySem.W.plainGet K C name=true)(hh:PySem.W.hasDictIn K C=true)
 (ha:PySem.W.findIn K (.ref C) name=some none) (hv:mA name=some v) (hv':PySem.W.handedIn v=true) (h:Q v {s with toks:=s.toks+1}) :
 wpAny (model prog w) A (getAttr (.ref x) name expr) Q E s:=by
 clear 5 I.look od J hl;exact PySem.W.get_value X J (ue4 hg).1 (PySem.W.findObj_own hh ha rfl (by rw[hl,hv])) hv' h
theorem TN{Q:fg×List fg->fj->Prop}(X:K.In s.heap)(I:ObjM s.heap x dx C mA)(hg:PySem.W.plainGet K C name=true)
 (hf:PySem.W.findIn K (.ref C) name=some (some (.ref f))) (ht:PySem.W.isFn K (.ref f)=true) (hv:mA name=none) (h:Q (.ref f,[.ref x]) s) :
 wpAny (model prog w) A (getMethod (.ref x) name pl) Q E s:=by
 clear 5 I.look od J hl;exact PySem.W.method_fn X J (ue4 hg).1 (ue4 hg).2 hf (gS.mp ht) (by show(PySem.W.lookIn name od).map (·.isSome)=some false;rw[hl,hv];rfl) h
theorem Xe{ns:List Str}(X:K.In s.heap)(I:ObjM s.heap x dx C mA)
 (hs:PySem.W.findIn K (.ref C) "__setattr__" = some (some (.builtin "object.__setattr__"))) (hp:PySem.W.plainOver K C=true) (ht:PySem.W.takerIn K C name=some none) (hh:PySem.W.hasDictIn K C=true)
 (hw:PySem.Within mA ns) (hsz:ns.length<=sizeLine)
 (h:∀h',ObjM h' x dx C (λy=>if y=name then some v else mA y)->Heap.SameBut dx s.heap h'->Q () {s with heap:=h',toks:=s.toks+2}) :
 wpAny (model prog w) A (setAttr (.ref x) name v) Q E s:=by
 clear 5 I.look od J hl;refine PySem.W.set_plain X J hs (PySem.W.osa_open (s:={s with toks:=s.toks+1}) (r:=none) X J hp ht λb=>?_);clear 5(PySem.W.any_some hh)cd hc hd';have hx:s.heap.get? x=some ⟨.ref C,some dx,.plain,#[]⟩:=I.obj;refine uo1 (uo2 (uo1 (uo1 (wpAny_loadPart hx (uo1 (PySem.W.Looks.here (s:={s with toks:=s.toks+1}) (PySem.W.looks_clsIn X hc) ?_))))));rw[hd'];refine uo2 (a:=some dx) (uo1 (uo2 (uo1 ?_)));refine wpAny_nsSet1 (s:={s with toks:=s.toks+1}) I.ns λh' hn2 hs2=>?_;clear 5(hn2.count (PySem.Within.cons name v hw))oD esD epD hoD hdD hcD;refine uo1 (wpAny_lookBehind hoD (by rw[hdD];exact pastItsLine_dict (um5 hcD (by rw[uh1];lia))) ?_);exact uo2 (h _ ⟨(hs2.2 _ (Ne.symm I.ne)).trans I.obj,hn2,I.ne⟩ hs2)
theorem T2{R:Result->fj->Prop}{vs:List fg}(X:K.In s.heap)(hm:PySem.W.makesIn K C=true)
 (hi:PySem.W.findIn K (.ref C) "__init__" = some (some (.ref f))) (hf:PySem.W.typeIn K (.ref f)=some (.type "function"))
 (h:codeAny (model prog w) (A.under (.builtin "type.__call__" ⟨.ref C :: vs,kw⟩)) (.call (.ref f) ⟨.ref (s.heap.objs.size + 1) :: vs,kw⟩) (PySem.W.InitBack (s.heap.objs.size + 1) R)
   {s with heap:=(s.heap.push PySem.W.emptyDict).push (PySem.W.instObj C s.heap.objs.size)}) :
 codeAny (model prog w) A (.call (.ref C) ⟨vs,kw⟩) R s:=by
 clear 5 s hh g d t os;exact PySem.W.make_core (PySem.W.makes_of X hm) (PySem.W.looks_findIn X hi) (λself=>PySem.W.bind_fn X self hf) (.inl rfl) h
end
noncomputable def Da(f:Str)(v:V):List (Str×V)->List (Str×V)
 |[]=>[(f,v)]
 |(g,x)::r=>if g=f then(g,v)::r else(g,x)::Da f v r
theorem Jl(f g:Str)(v:V):∀fs:List (Str×V),(Da f v fs).lookup g=if g=f then some v else fs.lookup g
 |[]=>by
   show List.lookup g [(f,v)]=_
   by_cases h:g=f
   .have hb:(g==f)=true:=gS.mpr h;simp only[List.lookup,hb,hX h]
   .have hb:(g==f)=false:=gp.mpr h;simp only[List.lookup,hb,ia h]
 |(k,x)::r=>by
   have ih:=Jl f g v r;rw[show Da f v ((k,x)::r)=(if k=f then(k,v)::r else(k,x)::Da f v r) from rfl]
   by_cases hk:k=f
   .rw[hX hk]
    by_cases h:g=k
    .have hb:(g==k)=true:=gS.mpr h;simp only[List.lookup,hb,hX (h.trans hk)]
    .have hb:(g==k)=false:=gp.mpr h;simp only[List.lookup,hb,ia (λe:g=f=>h (e.trans hk.symm))]
   .rw[ia hk]
    by_cases h:g=k
    .have hb:(g==k)=true:=gS.mpr h;simp only[List.lookup,hb,ia (λe:g=f=>hk (h.symm.trans e))]
    .have hb:(g==k)=false:=gp.mpr h;simp only[List.lookup,hb];exact ih
theorem Ie(f:Str)(v:V):∀fs:List (Str×V),f∈(Da f v fs).map (·.1)/\∀g,g∈fs.map (·.1)->g∈(Da f v fs).map (·.1)
 |[]=>⟨by simp[Da],λg h=>by simp at h⟩
 |(k,x)::r=>by
   clear 5(Ie f v r)i1 i2;rw[show Da f v ((k,x)::r)=(if k=f then(k,v)::r else(k,x)::Da f v r) from rfl]
   by_cases hk:k=f
   .rw[hX hk];subst hk;exact⟨by simp,λg h=>by simpa using h⟩
   .rw[ia hk];refine⟨?_,λg h=>?_⟩
    .rw[ul3];exact ud5 _ i1
    .rw[ul3] at h⊢;rcases ul2.mp h with e|e
     .exact ul2.mpr (.inl e)
     .exact ud5 _ (i2 g e)
theorem Ji(f:Str)(v:V):∀fs:List (Str×V),(Da f v fs).length<=fs.length+1
 |[]=>by simp[Da]
 |(k,x)::r=>by
   have ih:=Ji f v r;rw[show Da f v ((k,x)::r)=(if k=f then(k,v)::r else(k,x)::Da f v r) from rfl]
   by_cases hk:k=f
   .rw[hX hk,uh1,uh1];lia
   .rw[ia hk,uh1,uh1];lia
theorem RelO.some_of{o:Option fg}(r:RelO (some v) o):∃u,o=some u/\RelV v u:=by
 cases o with
 |none=>exact(show False from r).elim
 |some u=>exact⟨u,rfl,r⟩
theorem RelO.none_of{o:Option fg}(r:RelO none o):o=none:=by
 cases o with
 |none=>rfl
 |some u=>exact(show False from r).elim
theorem Ri(r:RelV v u):PySem.W.handedIn u=true:=by
 cases v with
 |non=>cases (show u=Value.none from r);rfl
 |bl b=>cases (show u=Value.bool b from r);rfl
 |int i=>clear 5((show ∃t,u=Value.int i t from r))t e;cases e;rfl
 |str x=>clear 5((show ∃t,u=Value.str x t from r))t e;cases e;rfl
 |byt b=>clear 5((show ∃t,u=Value.bytes b t from r))t e;cases e;rfl
 |flt b=>clear 5((show ∃t,u=Value.float b t from r))t e;cases e;rfl
 |ref a=>cases (show u=Value.ref a from r);rfl
 |ty n=>cases (show u=Value.type n from r);rfl
section
variable{P:fk}{w:fq}{H H':Hp}{h h':Heap}{a C dx:fh}{fs fs':List (Str×V)}
theorem IS(hok:HOk P w H h)(e:H a=some (.ins C dx fs)):∃mA,ObjM h a dx C mA/\(∀f,RelO (fs.lookup f) (mA f))/\PySem.Within mA (fs.map (·.1))/\fs.length<=1000/\H dx=some (.own a):=by
 clear 5((show ObjOk P w H h a (.ins C dx fs) from hok a _ e))d z ne ob mA n r q;exact⟨mA,⟨ob,n,ne⟩,r,q,z,d⟩
end
structure Cls(K:fc)(C:fh):Prop where
 pg:PySem.W.plainGet K C Str.empty=true
 hd:PySem.W.hasDictIn K C=true
 po:PySem.W.plainOver K C=true
 sa:PySem.W.findIn K (.ref C) "__setattr__" = some (some (.builtin "object.__setattr__"))
theorem Cls.get{K:fc}{C:fh}(c:Cls K C)(f:Str):PySem.W.plainGet K C f=true:=c.pg
def NoAttr(K:fc)(C:fh)(f:Str):Prop:=PySem.W.findIn K (.ref C) f=some none
theorem NoAttr.taker{f:Str}(n:NoAttr K C f):PySem.W.takerIn K C f=some none:=by
 unfold PySem.W.takerIn;rw[show PySem.W.findIn K (.ref C) f=some none from n];rfl
structure Con(K:fc)(C:fh)(f:Str)(v:V)(u:fg):Prop where
 at_:PySem.W.findIn K (.ref C) f=some (some u)
 rel:RelV v u
 get:PySem.W.specialIn K u "__get__" = some none
 cp:PySem.W.copiedNames.contains f=false
structure Meth(K:fc)(C:fh)(m:Str)(f:fh):Prop where
 at_:PySem.W.findIn K (.ref C) m=some (some (.ref f))
 fn:PySem.W.isFn K (.ref f)=true
 kp:PySem.W.keepIn K (.ref f)=true
section
variable{X:Cx}{ff:List (fh×Obj)}{σ:St}{H:Hp}{s:fj}{a C dx:fh}{fs:List (Str×V)}{f:Str}{v:V}{A:Around}{E:fg->fj->Prop}
theorem PY{b:Bool}{Q:fg->fj->Prop}(I:Inv X ff σ H s)(e:H a=some (.ins C dx fs))(c:Cls X.K C)(n:NoAttr X.K C f)(l:fs.lookup f=some v)
 (h:∀u s',Inv X ff σ H s'->RelV v u->Q u s'):wpAny (model X.prog X.w) A (getAttr (.ref a) f b) Q E s:=by
 obtain⟨mA,O,r,_,_,_⟩:=IS I.hok e;clear 5(RelO.some_of (v:=v) (o:=mA f) (by rw[<-l];exact r f))u hu ru;exact VR I.kIn O (c.get f) c.hd n hu (Ri ru) (h u _ (I.tok _) ru)
theorem PZ{m:Str}{g:fh}{Q:fg×List fg->fj->Prop}(I:Inv X ff σ H s)(e:H a=some (.ins C dx fs))(c:Cls X.K C)(k:Meth X.K C m g)(l:fs.lookup m=none)
 (h:Q (.ref g,[.ref a]) s):wpAny (model X.prog X.w) A (getMethod (.ref a) m pl) Q E s:=by
 obtain⟨mA,O,r,_,_,_⟩:=IS I.hok e;have hn:mA m=none:=RelO.none_of (by rw[<-l];exact r m);exact TN I.kIn O (c.get m) k.at_ k.fn hn h
theorem Qs{y:V}(I:Inv X ff σ H s)(e:H a=some (.ins C dx fs))(c:Cls X.K C)(n:NoAttr X.K C f)(hl:fs.length<1000)(ry:RelV y u)
 (h:∀s',Inv X ff σ (upd H a (.ins C dx (Da f y fs))) s'->Q () s'):wpAny (model X.prog X.w) A (setAttr (.ref a) f u) Q E s:=by
 obtain⟨mA,O,r,wi,_,ho⟩:=IS I.hok e;have hz:(fs.map (·.1)).length<=sizeLine:=by rw[ui8,gR];lia
 refine Xe I.kIn O c.sa c.po n.taker c.hd wi hz λh' O' sb=>h _ ?_;have hd:∃o,h'.get? dx=some o:=let ⟨o,_,_,e',_⟩:=O'.ns;⟨o,e'⟩;refine I.write (x:=a) (e:=dx) (by rw[e];exact True.intro) (.inr ho) (λb q hb z=>(sb.2 b hb).trans z) hd ?_;refine⟨by rw[Av O.ne];exact ho,?_,O.ne,O'.obj,_,O'.ns,λg=>?_,λg hg=>?_⟩
 .have:=Ji f y fs;lia
 .show RelO ((Da f y fs).lookup g) (if g=f then some u else mA g);rw[Jl]
  by_cases q:g=f
  .rw[hX q,hX q];exact ry
  .rw[ia q,ia q];exact r g
 .by_cases q:g=f
  .rw[q];exact(Ie f y fs).1
  .refine(Ie f y fs).2 g (wi g λz=>hg ?_);show(if g=f then some u else mA g)=none;rw[ia q];exact z
theorem Inv.made(I:Inv X ff σ H s):Inv X ff σ (upd (upd H s.heap.objs.size (.own (s.heap.objs.size+1))) (s.heap.objs.size+1) (.ins C s.heap.objs.size []))
 {s with heap:=(s.heap.push PySem.W.emptyDict).push (PySem.W.instObj C s.heap.objs.size)}:=by
 have e1:(s.heap.push PySem.W.emptyDict).get? s.heap.objs.size=some PySem.W.emptyDict:=ue3 s.heap rfl;have e2:((s.heap.push PySem.W.emptyDict).push (PySem.W.instObj C s.heap.objs.size)).get? (s.heap.objs.size+1)=some (PySem.W.instObj C s.heap.objs.size):=by
  have:=ue3 (s.heap.push PySem.W.emptyDict) (o:=PySem.W.instObj C s.heap.objs.size) rfl
  rwa [uk6] at this
 have e3:(s.heap.push PySem.W.emptyDict).Ns s.heap.objs.size (λ_=>none):=⟨PySem.W.emptyDict,#[],_,e1,rfl,(λe he=>absurd he (by simp)),λ_=>rfl⟩;have I1:=I.laid (a:=s.heap.objs.size) (o:=.own (s.heap.objs.size+1)) (h':=s.heap.push PySem.W.emptyDict) (t':=s.toks) (λb u q=>uc0 _ q) (un6 _) ⟨_,e1⟩;refine I1.laid (a:=s.heap.objs.size+1) (o:=.ins C s.heap.objs.size []) (t':=s.toks) (λb u q=>uc0 _ q) (gN (uk6 _ _)) ?_;have ne:s.heap.objs.size≠s.heap.objs.size+1:=um4 (uh2 _);refine⟨by rw[Av ne,AL],un7 _,ne,e2,λ_=>none,(Heap.Ns1.of_empty e3).at λo q=>uc0 _ q,λ_=>True.intro,λy hy=>absurd rfl hy⟩
theorem Vj{prog:fk}{env:Env}{f:Str}{pos:Pos}{s:fj}{Q:fg->fj->Prop}(hb:attributeBase e f env (eval e env)=eval e env)
 (h:wpAny (model prog w) A (eval e env) (λo s₁=>wpAny (model prog w) A (getAttr o f true) Q E s₁) E s):wpAny (model prog w) A (eval (.Attribute e f pos) env) Q E s:=
 Attribute_any_ h (by rw[arm_eval_Attribute,hb])
end
def cy(K:fc)(ta:TE)(f:Str):TE:=λσ H Q=>ta σ H λx H1=>∃a C dx fs v,x=.ref a/\H1 a=some (.ins C dx fs)/\Cls K C/\NoAttr K C f/\fs.lookup f=some v/\Q v H1
def cj(K:fc)(ta tv:TE)(f:Str):TS:=λD σ H=>tv σ H λy H1=>ta σ H1 λx H2=>∃a C dx fs,x=.ref a/\H2 a=some (.ins C dx fs)/\Cls K C/\NoAttr K C f/\fs.length<1000/\
 D.nx σ (upd H2 a (.ins C dx (Da f y fs)))
section
variable{X:Cx}{o e value:Expr}{f:Str}{pos pos' tpos:Pos}{ta tv:TE}
theorem YY(he:PE X e ta)(hb:attributeBase e f X.env (eval e X.env)=eval e X.env):PE X (.Attribute e f pos) (cy X.K ta f):=by
 intro ff s σ H Q I h;refine Vj hb (thn (he ff s σ H _ I h) λu s1 z9=>?_);clear 5 z9 x H1 I1 rx a C dx fs v ex ea c n l q;subst ex;obtain rfl:u=Value.ref a:=rx;exact PY I1 ea c n l λu' s2 I2 ru=>⟨v,H1,I2,ru,q⟩
theorem Y6(ha:PE X o ta)(hv:PE X value tv)(hs:swapsWith value (some (.Attribute o f pos')) pos.line X.env=pure false):PS X (.Assign [.Attribute o f pos'] value pos) (cj X.K ta tv f):=by
 intro ff s σ H D I h;refine plainObj_wpAny_Assign_Attribute (thn (hv ff s σ H _ I h) λu s1 ⟨y,H1,I1,ry,q⟩=>thn (ha ff s1 σ H1 _ I1 q) λov s2 z9=>?_) hs;clear 5 z9 x H2 I2 rx a C dx fs ex ea c n l q2;subst ex;obtain rfl:ov=Value.ref a:=rx;exact Qs I2 ea c n l ry λs3 I3=>⟨σ,_,I3,q2⟩
end
section
variable{X:Cx}{ff:List (fh×Obj)}{σ:St}{H:Hp}{s:fj}{A:Around}{E:fg->fj->Prop}{Q:fg->fj->Prop}{c:fg}{b:Bool}
inductive TyOf(K:fc)(H:Hp):V->fg->Prop where
 |non:TyOf K H .non (.type "NoneType")
 |bl (x:Bool):TyOf K H (.bl x) (.type "bool")
 |int (i:Int):TyOf K H (.int i) (.type "int")
 |str (x:Str):TyOf K H (.str x) (.type "str")
 |flt (x:UInt64):TyOf K H (.flt x) (.type "float")
 |lst {a:fh}{xs:List V} (e:H a=some (.lst xs)):TyOf K H (.ref a) (.type "list")
 |frz {a:fh}{o:Obj}{xs:List V} (e:H a=some (.frz o (.lst xs))):TyOf K H (.ref a) (.type "list")
 |tup {a:fh}{xs:List V} (e:H a=some (.tup xs)):TyOf K H (.ref a) (.type "tuple")
 |dK {a:fh}{kvs:List (Key×V)} (e:H a=some (.dK kvs)):TyOf K H (.ref a) (.type "dict")
 |dT {a:fh}{kvs:List (List Key×V)} (e:H a=some (.dT kvs)):TyOf K H (.ref a) (.type "dict")
 | ins {a C dx:fh} {fs:List (Str×V)} (e:H a=some (.ins C dx fs)) (cl:Cls K C) (ha:PySem.W.findIn K (.ref C) "__class__" = some (some (.builtin "object.__class__")))
    (hn:PySem.W.specialIn K (.builtin "object.__class__") "__get__" = some (some (.builtin "getset_descriptor.__get__"))) (htk:PySem.W.takesIn K (.builtin "object.__class__")=some true)
    (hm:PySem.W.mroIn K C (.type "object")=some true):TyOf K H (.ref a) (.ref C)
theorem Rt{x:V}{t:fg}(I:Inv X ff σ H s)(rx:RelV x u)(ty:TyOf X.K H x t)(e:PySem.W.kitOne X.K t c=some b)(h:∀tk,Q (.bool b) {s with toks:=tk}) :
 wpAny (model X.prog X.w) A (call (.builtin "isinstance") [u,c]) Q E s:=by
 cases ty with
 |non=>cases (show u=Value.none from rx);exact ui9 PySem.W.kitx_none I.kIn True.intro e (λz=>nomatch z) h
 |bl y=>cases (show u=Value.bool y from rx);exact ui9 PySem.W.kitx_bool I.kIn True.intro e (λz=>nomatch z) h
 |int i=>clear 5((show ∃t,u=Value.int i t from rx))t q;cases q;exact ui9 PySem.W.kitx_int I.kIn True.intro e (λz=>nomatch z) h
 |str y=>clear 5((show ∃t,u=Value.str y t from rx))t q;cases q;exact ui9 PySem.W.kitx_str I.kIn True.intro e (λz=>nomatch z) h
 |flt y=>clear 5((show ∃t,u=Value.float y t from rx))t q;cases q;exact ui9 PySem.W.kitx_float I.kIn True.intro e (λz=>nomatch z) h
 |@lst a xs ea=>
   cases (show u=Value.ref a from rx)
   obtain⟨_,_,n,_,h1⟩:=(show ObjOk X.prog X.w H s.heap a (.lst xs) from I.hok a _ ea);exact ui9 PySem.W.kitx_list I.kIn ⟨_,h1,rfl⟩ e (λz=>nomatch z) h
 |@frz a ob xs ea=>
   cases (show u=Value.ref a from rx)
   obtain⟨_,_,_,n,_,h1⟩:=(show ObjOk X.prog X.w H s.heap a (.frz ob (.lst xs)) from I.hok a _ ea);exact ui9 PySem.W.kitx_list I.kIn ⟨_,h1,rfl⟩ e (λz=>nomatch z) h
 |@tup a xs ea=>
   cases (show u=Value.ref a from rx)
   obtain⟨_,_,_,p⟩:=(show ObjOk X.prog X.w H s.heap a (.tup xs) from I.hok a _ ea);obtain⟨o,h1,h2,_⟩:=p;exact ui9 PySem.W.kitx_tuple I.kIn ⟨o,h1,h2⟩ e (λz=>nomatch z) h
 |@dK a kvs ea=>
   cases (show u=Value.ref a from rx)
   obtain⟨_,_,vs,_,p⟩:=(show ObjOk X.prog X.w H s.heap a (.dK kvs) from I.hok a _ ea);obtain⟨o,es,ep,h1,h2,_⟩:=p;exact ui9 PySem.W.kitx_dict I.kIn ⟨o,h1,h2.1⟩ e (λz=>nomatch z) h
 |@dT a kvs ea=>
   cases (show u=Value.ref a from rx)
   obtain⟨_,_,xs,_,o,es,ep,h1,h2,_⟩:=(show ObjOk X.prog X.w H s.heap a (.dT kvs) from I.hok a _ ea);exact ui9 PySem.W.kitx_dict I.kIn ⟨o,h1,h2.1⟩ e (λz=>nomatch z) h
 |@ins a C dx fs ea cl ha hn htk hm=>
   cases (show u=Value.ref a from rx)
   obtain⟨mA,O,_⟩:=IS I.hok ea;obtain⟨od,J,_⟩:=O.look;exact ui9 (PySem.W.kitx_own (cl.get _) cl.hd ha hn htk hm) I.kIn J e (λz=>nomatch z) h
end
structure Room(k:Nat)(A:Around):Prop where
 hd:A.handled=none
 dp:A.depth+3*k+5<recursionLimit
 un:A.units+16*k+200<cLine
theorem Room.mono{j k:Nat}{A:Around}(r:Room k A)(h:j<=k):Room j A:=⟨r.hd,by have:=r.dp;lia,by have:=r.un;lia⟩
theorem Room.deeper{k:Nat}{A:Around}(r:Room (k+1) A)(env:Env):Room k (A.deeper env):=
 ⟨r.hd,by have:=r.dp;show A.depth+1+3*k+5<_;lia,by have:=r.un;show A.units+3+16*k+200<_;lia⟩
theorem Qa{A:Around}:(A.under (.builtin "type.__call__" ⟨.ref C::us,kw⟩)).depth=A.depth+1:=by
 first|rfl|simp[Around.under,Code.weight,Code.isCreation,Code.isGuard,Code.isCaller,Code.frames,Code.isFrame,guardIds]
theorem Qb{A:Around}:(A.under (.builtin "type.__call__" ⟨.ref C::us,kw⟩)).units=A.units+1:=by
 first|rfl|simp[Around.under,Code.cUnits,Code.frames,Code.isFrame]
theorem Room.make{k:Nat}{A:Around}(r:Room (k+1) A)(C:fh)(us:List fg)(kw:List (Str×fg)):Room k (A.under (.builtin "type.__call__" ⟨.ref C::us,kw⟩)):=
 ⟨r.hd,by have:=r.dp;rw[Qa];lia,by have:=r.un;rw[Qb];lia⟩
theorem Room.depth{k:Nat}{A:Around}(r:Room k A):A.depth<recursionLimit:=by have:=r.dp;lia
theorem Room.units{k:Nat}{A:Around}(r:Room k A):A.units+64<cLine:=by have:=r.un;lia
def cE:TA:=λ_ H Q=>Q [] H
def aI(ta:TE)(tr:TA):TA:=λσ H Q=>ta σ H λx H1=>tr σ H1 λxs H2=>Q (x::xs) H2
section
variable{X:Cx}{e:Expr}{es:List Expr}{te:TE}{t:TA}{pos:Pos}
theorem YW:PA X [] cE:=λ_ _ _ _ H Q I h=>Calls.spliced_nil ⟨[],H,I,.nil,h⟩
theorem Wt(ha:PE X e te)(hr:PA X es t)(hs:starEach (e::es) X.env=(false,eval e X.env)::starEach es X.env:=by rfl):PA X (e::es) (aI te t):=by
 intro pos ff s σ H Q I h;rw[hs];show wpAny _ _ (spliced ((false,eval e X.env)::backTo pos (starEach es X.env))) _ _ s;refine Calls.spliced_cons (thn (ha ff s σ H _ I h) λu s1 z9=>?_);clear 5 z9 x H1 I1 r1 q1;exact thn (hr pos ff s1 σ H1 _ I1 q1) λus s2 ⟨xs,H2,I2,r2,q2⟩=>⟨x::xs,H2,I2,.cons r1 r2,q2⟩
def cI(t:TA):TE:=λσ H Q=>t σ H λxs H1=>xs.length<=sizeLine/\∀p,H1 p=none->Q (.ref p) (upd H1 p (.tup xs))
def cD(t:TA):TE:=λσ H Q=>t σ H λxs H1=>xs.length<=sizeLine/\∀p,H1 p=none->Q (.ref p) (upd H1 p (.lst xs))
theorem Y4{x1}(h:PA X es t):PE X (.Tuple es x1 pos) (cI t):=by
 intro ff s σ H Q I hq;refine wpAny_Tuple_spliced (thn (h pos ff s σ H _ I hq) λus s1 z9=>?_);clear 5 z9 xs H1 I1 r z q;refine⟨by rw[<-r.length];exact z,?_⟩;have hf:H1 s1.heap.objs.size=none:=I1.hok.fresh (un6 _);refine⟨.ref s1.heap.objs.size,upd H1 s1.heap.objs.size (.tup xs),I1.laid (t':=s1.toks) (λb u e=>uc0 _ e) (un6 _) ?_,rfl,q _ hf⟩;exact⟨z,us,r,⟨_,ue3 _ rfl,rfl,_,rfl⟩⟩
theorem Y0(h:PA X es t):PE X (.List es pos) (cD t):=by
 intro ff s σ H Q I hq;refine wpAny_List_spliced (thn (h pos ff s σ H _ I hq) λus s1 z9=>?_);clear 5 z9 xs H1 I1 r z q;refine⟨by rw[<-r.length];exact z,?_⟩;have hf:H1 s1.heap.objs.size=none:=I1.hok.fresh (un6 _);refine⟨.ref s1.heap.objs.size,upd H1 s1.heap.objs.size (.lst xs),I1.laid (t':=s1.toks) (λb u e=>uc0 _ e) (un6 _) ?_,rfl,q _ hf⟩;exact⟨z,us,0,r,ue3 _ rfl⟩
end
abbrev Sp:=List V->Hp->VK->XK->Prop
abbrev CXT:=List Env->Hp->fj->XK->fg->fj->Prop
structure Env0(P:fk)(w:fq)(K:fc)(mg:Str->Option fg)(base:Heap)(A:Around)(outer:List Env)(s:fj)(H:Hp):Prop where
 frames:A.frames=some outer
 mod:Mod K mg base
 bs:∀b o,base.get? b=some o->s.heap.get? b=some o/\H b=none
 bsz:base.objs.size<=s.heap.objs.size
 funs:s.heap.FunFrames base outer
 frf:∀b∈frs outer,H b=none
 hok:HOk P w H s.heap
 bare:AllBare s.gens
def CE(outer:List Env)(P:fk)(w:fq)(H:Hp)(s:fj)(Q:VK)(u:fg)(s':fj):Prop:=
 ∃v H',s'.os=s.os/\AllBare s'.gens/\Un (frs outer) [] H H' s.heap s'.heap/\HOk P w H' s'.heap/\RelV v u/\Q v H'
def CR(CX:CXT)(outer:List Env)(P:fk)(w:fq)(H:Hp)(s:fj)(Q:VK)(E:XK)(r:Result)(s':fj):Prop:=
 match r with
 |.ok (.ret u)=>CE outer P w H s Q u s'
 |.ok _=>False
 |.error e=>CX outer H s E e s'
structure FnOk(P:fk)(w:fq)(K:fc)(mg:Str->Option fg)(base:Heap)(CX:CXT)(k:Nat)(f:fh)(fd:ft)(ps:List Str)(sp:Sp):Prop where
 len:∀vs H Q E,sp vs H Q E->vs.length=ps.length
 run:∀(A:Around) (outer:List Env) (s:fj) (H:Hp) (args:Args) (us:List fg) (vs:List V) (Q:VK) (E:XK),Room k A->Env0 P w K mg base A outer s H->BindsTo s fd args (ps.zip us)->Vals vs us->sp vs H Q E->
  codeAny (model P w) A (.call (.ref f) args) (CR CX outer P w H s Q E) s
theorem FnOk.mono{P:fk}{w:fq}{K:fc}{mg:Str->Option fg}{base:Heap}{CX:CXT}{j k:Nat}{f:fh}{fd:ft}{ps:List Str}{sp:Sp}(F:FnOk P w K mg base CX j f fd ps sp)(h:j<=k) :
 FnOk P w K mg base CX k f fd ps sp:=⟨F.len,λA outer s H args us vs Q E hr=>F.run A outer s H args us vs Q E (hr.mono h)⟩
variable{mg:Str->Option fg}{base:Heap}
theorem Env0.make{A:Around}{outer:List Env}(e:Env0 P w K mg base A outer s H)(C:fh)(us:List fg)(kw:List (Str×fg)) :
 Env0 P w K mg base (A.under (.builtin "type.__call__" ⟨.ref C::us,kw⟩)) outer s H:=⟨by first|exact e.frames|(simpa[Around.under,Code.envs,Code.isFrame,pushEnvs] using e.frames),e.mod,e.bs,e.bsz,e.funs,e.frf,e.hok,e.bare⟩
section
variable{X:Cx}{ff:List (fh×Obj)}{σ:St}{H:Hp}{s s':fj}
theorem Inv.env0(I:Inv X ff σ H s):Env0 X.prog X.w X.K X.mg X.base X.A X.stack s H:=
 ⟨I.ok.frames,I.ok.mod,I.bs,um5 I.ok.bsz I.sz,I.stack,I.stkFree,I.hok,I.bare⟩
theorem Inv.after{Q:VK}(I:Inv X ff σ H s)(h:CE X.stack X.prog X.w H s Q u s'):EP X ff σ Q u s':=by
 clear 5 h v H' os bare un hok r q;clear 5 s' hh g d t os';obtain rfl:os'=s.os:=os;exact⟨v,H',I.call (h':=hh) (g':=g) (d':=d) (t':=t) (ch:=[]) un hok bare (λb z=>absurd z (by simp)),r,q⟩
end
def aH(sp:Sp)(dvs:List V)(E:XK)(t:TA):TE:=λσ H Q=>t σ H λvs H1=>sp (vs++dvs) H1 Q E
def aL(C:fh)(m:Str)(sp:Sp)(dvs:List V)(E:XK)(ta:TE)(t:TA):TE:=λσ H Q=>ta σ H λx H1=>∃a dx fs,x=.ref a/\H1 a=some (.ins C dx fs)/\fs.lookup m=none/\
 t σ H1 λvs H2=>sp (x::(vs++dvs)) H2 Q E
def aK(C:fh)(sp:Sp)(dvs:List V)(E:XK)(t:TA):TE:=λσ H Q=>t σ H λvs H1=>∀x dx,H1 x=none->H1 dx=none->dx≠x->
 sp (.ref x::(vs++dvs)) (upd (upd H1 dx (.own x)) x (.ins C dx [])) (λv H2=>v=.non/\Q (.ref x) H2) E
def Binds(K:fc)(fd:ft)(ps:List Str)(ds:List fg):Prop:=
 ∀(s:fj) (us:List fg),K.In s.heap->(us++ds).length=ps.length->BindsTo s fd ⟨us,[]⟩ (ps.zip (us++ds))
theorem Binds.all{fd:ft}{ps:List Str}(h:∀us:List fg,us.length=ps.length->bindArgs fd ⟨us,[]⟩=pure (ps.zip us)):Binds K fd ps []:=λs us _ hl=>by
 rw[uj0] at hl⊢;exact .of_eq (h us hl)
def GF(CX:CXT)(X:Cx)(E:XK):Prop:=∀(ff:List (fh×Obj)) (σ:St) (H:Hp) (s:fj) (e:fg) (s':fj),Inv X ff σ H s->CX X.stack H s E e s'->X.xe e s'
variable{vs:List V}
section
variable{X:Cx}{CX:CXT}{k:Nat}{f C:fh}{fd:ft}{ps:List Str}{sp:Sp}{dvs:List V}{ds:List fg}{E:XK}{x m:Str}{p pos apos:Pos}{e o:Expr}{es:List Expr}{ta:TE}{t:TA}
theorem Ss{Q:VK}(F:FnOk X.prog X.w X.K X.mg X.base CX k f fd ps sp)(hr:Room k X.A)(hb:Binds X.K fd ps ds)(hd:Vals dvs ds)(hx:GF CX X E)
 (I:Inv X ff σ H s) (r:Vals vs us) (h:sp (vs++dvs) H Q E):wpAny (model X.prog X.w) X.A (call (.ref f) us) (EP X ff σ Q) X.xe s:=by
 have r2:Vals (vs++dvs) (us++ds):=r.append hd;have hl:(us++ds).length=ps.length:=by rw[<-r2.length];exact F.len _ _ _ _ h
 refine gU (gO (F.run X.A X.stack s H ⟨us,[]⟩ (us++ds) (vs++dvs) Q E hr I.env0 (hb s us I.kIn hl) r2 h) λr s' hq=>?_)
 cases r with
 |error e=>exact hx ff σ H s e s' I hq
 |ok fl=>
   cases fl with
   |ret u=>exact I.after hq
   |next=>exact False.elim hq
   |brk=>exact False.elim hq
   |cont=>exact False.elim hq
theorem OQ(F:FnOk X.prog X.w X.K X.mg X.base CX k f fd ps sp)(hr:Room k X.A)(hg:Gl X x)(hm:X.mg x=some (.ref f))(hk:PySem.W.keepIn X.K (.ref f)=true)(hb:Binds X.K fd ps ds)(hd:Vals dvs ds)(hx:GF CX X E)
 (ha:PA X (e::es) t) (hdb:(x==("__debug__":Str))=false:=by decide) (he:starEach (e::es) X.env=(false,eval e X.env)::starEach es X.env:=by rfl) (hpl:(backTo pos (starEach es X.env)).any (·.1)=false:=by rfl) :
 PE X (.Call (.Name x p) (e::es) [] pos) (aH sp dvs E t):=by
 intro ff s σ H Q I h;refine gw (ET I hg hm ?_ hdb);refine uf2 (h₀:=X.base) I.ok.mod.kin hk (thn (ha pos ff s σ H _ I h) λus s1 z9=>?_) he hpl;clear 5 z9 vs H1 I1 r q;refine⟨I1.kIn,?_⟩;exact Ss F hr hb hd hx I1 r q
theorem Wz(he:PE X o ta)(c:Cls X.K C)(hm:Meth X.K C m f)(F:FnOk X.prog X.w X.K X.mg X.base CX k f fd ps sp)(hr:Room k X.A)(hb:Binds X.K fd ps ds)(hd:Vals dvs ds)(hx:GF CX X E)(ha:PA X (e::es) t)
 (hst:starEach (e::es) X.env=(false,eval e X.env)::starEach es X.env:=by rfl) (hpl:(backTo pos (starEach es X.env)).any (·.1)=false:=by rfl)
 (ht:eval (.Call (.Attribute o m apos) (e :: es) [] pos) X.env=(do
   let ov <-eval o X.env
   standAt apos.atName
   let (f,first) <-holding [ov] (getMethod ov m pl)
   callWith pos f first (backTo pos (starEach (e::es) X.env)) (backToKw pos (keywordEach [] X.env))):=by rfl) :
 PE X (.Call (.Attribute o m apos) (e::es) [] pos) (aL C m sp dvs E ta t):=by
 intro ff s σ H Q I h;refine PySem.W.methodCall_KW (pl:=pl) (thn (he ff s σ H _ I h) λu s1 z9=>?_) ht;clear 5 z9 x H1 I1 rx a dx fs ex ea l q;subst ex;obtain rfl:u=Value.ref a:=rx;refine PZ I1 ea c hm l ?_;refine uf2 (first:=[.ref a]) (h₀:=X.base) I.ok.mod.kin hm.kp (thn (ha pos ff s1 σ H1 _ I1 q) λus s2 z9=>?_) hst hpl;clear 5 z9 vs H2 I2 r q2;refine⟨I2.kIn,?_⟩;exact Ss (us:=.ref a::us) (vs:=.ref a::vs) F hr hb hd hx I2 (.cons rfl r) q2
structure Mk(K:fc)(C f:fh):Prop where
 makes:PySem.W.makesIn K C=true
 init:PySem.W.findIn K (.ref C) "__init__" = some (some (.ref f))
 fn:PySem.W.isFn K (.ref f)=true
 kp:PySem.W.keepIn K (.ref C)=true
theorem Uq{Q:VK}(M:Mk X.K C f)(F:FnOk X.prog X.w X.K X.mg X.base CX k f fd ps sp)(hr:Room (k+1) X.A)(hb:Binds X.K fd ps ds)(hd:Vals dvs ds)
 (hx:GF CX X E) (I:Inv X ff σ H s) (r:Vals vs us)
 (h:∀x dx,H x=none->H dx=none->dx≠x->sp (.ref x::(vs++dvs)) (upd (upd H dx (.own x)) x (.ins C dx [])) (λv H2=>v=.non/\Q (.ref x) H2) E) :
 wpAny (model X.prog X.w) X.A (call (.ref C) us) (EP X ff σ Q) X.xe s:=by
 have hq:=h (s.heap.objs.size+1) s.heap.objs.size (I.hok.fresh (un8 _)) (I.hok.fresh (un6 _)) (um4 (uh2 _));have I2:=Inv.made (C:=C) I;have r2:Vals (V.ref (s.heap.objs.size+1)::(vs++dvs)) (Value.ref (s.heap.objs.size+1)::(us++ds)):=.cons rfl (r.append hd);have hl:(Value.ref (s.heap.objs.size+1)::us++ds).length=ps.length:=by
  have e:=r2.length;rw[F.len _ _ _ _ hq] at e;exact e.symm
 refine gU (T2 (f:=f) I.kIn M.makes M.init (gS.mp M.fn) (gO (F.run _ X.stack _ _ ⟨Value.ref (s.heap.objs.size+1)::us,[]⟩ (Value.ref (s.heap.objs.size+1)::(us++ds)) _ _ E (hr.make C us [])
  (I2.env0.make C us []) (hb _ (Value.ref (s.heap.objs.size+1)::us) I2.kIn hl) r2 hq) λr s' hq'=>?_))
 cases r with
 |error e=>exact hx ff σ _ _ e s' I2 hq'
 |ok fl=>
   cases fl with
   |ret u=>
     clear 5(I2.after hq')v H' I3 rv ev q3;subst ev;exact⟨rv,⟨V.ref (s.heap.objs.size+1),H',I3,rfl,q3⟩⟩
   |next=>exact False.elim hq'
   |brk=>exact False.elim hq'
   |cont=>exact False.elim hq'
theorem Wy(M:Mk X.K C f)(F:FnOk X.prog X.w X.K X.mg X.base CX k f fd ps sp)(hr:Room (k+1) X.A)(hg:Gl X x)(hm:X.mg x=some (.ref C))(hb:Binds X.K fd ps ds)(hd:Vals dvs ds)(hx:GF CX X E)
 (ha:PA X (e::es) t) (hdb:(x==("__debug__":Str))=false:=by decide) (he:starEach (e::es) X.env=(false,eval e X.env)::starEach es X.env:=by rfl) (hpl:(backTo pos (starEach es X.env)).any (·.1)=false:=by rfl) :
 PE X (.Call (.Name x p) (e::es) [] pos) (aK C sp dvs E t):=by
 intro ff s σ H Q I h;refine gw (ET I hg hm ?_ hdb);refine uf2 (h₀:=X.base) I.ok.mod.kin M.kp (thn (ha pos ff s σ H _ I h) λus s1 z9=>?_) he hpl;clear 5 z9 vs H1 I1 r q;refine⟨I1.kIn,?_⟩;exact Uq M F hr hb hd hx I1 r q
end
section
variable{X:Cx}{CX:CXT}{k:Nat}{f C:fh}{fd:ft}{ps ks:List Str}{sp:Sp}{E:XK}{x m:Str}{p pos apos kpos:Pos}{e o:Expr}{es:List Expr}{kws:List Keyword}{te ta:TE}{t tk:TA}{nm:Option Str}
structure KBinds(K:fc)(fd:ft)(ps ks:List Str)(g:List fg->List fg->List fg)(gV:List V->List V->List V):Prop where
 to:∀(s:fj) (us ws:List fg),K.In s.heap->(g us ws).length=ps.length->BindsTo s fd ⟨us,ks.zip ws⟩ (ps.zip (g us ws))
 rel:∀{vs:List V}{us:List fg}{zs:List V}{ws:List fg},Vals vs us->Vals zs ws->Vals (gV vs zs) (g us ws)
variable{g:List fg->List fg->List fg}{gV:List V->List V->List V}
end
structure FnScope(N P:List Str)(sc:Scope):Prop where
 kind:sc.kind=.function
 co:sc.isCoroutine=false
 gen:sc.isGenerator=false
 nd:N.Nodup
 pre:N.take P.length=P
 par:∀x∈P,sc.names.lookup x=some .local\/sc.names.lookup x=some .cell
 nofree:∀y∈sc.names,y.2≠.free
theorem Lz{kindOf:Str->Option NameKind}{x:Str}:∀{binds:List (Str×fg)}{m:Str->Option fg},(∀v,(x,v)∉binds)->bindL kindOf binds m x=m x
 |[],_,_=>rfl
 |(n,v)::r,m,h=>by
   unfold bindL;rw[Lz λw hw=>h w (ud5 _ hw)]
   split
   .have:x≠n:=by rintro rfl;exact h v uf0
    simp[this]
   .rfl
theorem Lx{kindOf:Str->Option NameKind}{x:Str}:∀{binds:List (Str×fg)}{m:Str->Option fg},(∀v,(x,v)∉binds)->bindC kindOf binds m x=m x
 |[],_,_=>rfl
 |(n,v)::r,m,h=>by
   unfold bindC;rw[Lx λw hw=>h w (ud5 _ hw)]
   split
   .rfl
   .have:x≠n:=by rintro rfl;exact h v uf0
    simp[this]
theorem Ly{kindOf:Str->Option NameKind}{x:Str}{v:fg}:∀{P:List Str}{vs:List fg}{i:Nat}{m:Str->Option fg},P.Nodup->P[i]?=some x->vs[i]?=some v->kindOf x=some .local->
 bindL kindOf (P.zip vs) m x=some v
 |[],_,_,_,_,h,_,_=>by simp at h
 |_::_,[],_,_,_,_,h,_=>by simp at h
 |p::P,w::vs,0,m,nd,h1,h2,hk=>by
   simp at h1 h2;subst h1;subst h2;show bindL kindOf ((p,w)::P.zip vs) m p=_;unfold bindL;rw[Lz λv hv=>(uj1.mp nd).1 (uj2 hv).1,hX hk];simp
 |p::P,w::vs,i+1,m,nd,h1,h2,hk=>by
   show bindL kindOf ((p,w)::P.zip vs) m x=_;unfold bindL;exact Ly (i:=i) (uj1.mp nd).2 (by simpa using h1) (by simpa using h2) hk
theorem Lw{kindOf:Str->Option NameKind}{x:Str}{v:fg}:∀{P:List Str}{vs:List fg}{i:Nat}{m:Str->Option fg},P.Nodup->P[i]?=some x->vs[i]?=some v->kindOf x≠some .local->
 bindC kindOf (P.zip vs) m x=some v
 |[],_,_,_,_,h,_,_=>by simp at h
 |_::_,[],_,_,_,_,h,_=>by simp at h
 |p::P,w::vs,0,m,nd,h1,h2,hk=>by
   simp at h1 h2;subst h1;subst h2;show bindC kindOf ((p,w)::P.zip vs) m p=_;unfold bindC;rw[Lx λv hv=>(uj1.mp nd).1 (uj2 hv).1,ia hk];simp
 |p::P,w::vs,i+1,m,nd,h1,h2,hk=>by
   show bindC kindOf ((p,w)::P.zip vs) m x=_;unfold bindC;exact Lw (i:=i) (uj1.mp nd).2 (by simpa using h1) (by simpa using h2) hk
noncomputable def Eb(N:List Str)(vs:List V):St:=vs.map some++List.replicate (N.length-vs.length) none
noncomputable def EM(CX:CXT)(P:fk)(w:fq)(K:fc)(mg:Str->Option fg)(base:Heap)(N:List Str)(qual:Str)(scope:Scope)(f:fh)(cd:fg)(A:Around)(outer:List Env)(s:fj)(H:Hp)(E:XK):Cx where
 prog:=P
 w:=w
 K:=K
 mg:=mg
 base:=base
 A:=A.deeper (envOfC qual scope s.heap.objs.size f cd)
 N:=N
 s₀:=s
 H₀:=H
 env:=envOfC qual scope s.heap.objs.size f cd
 outer:=outer
 stack:=envOfC qual scope s.heap.objs.size f cd::outer
 ex:=[]
 calm:=true
 fn:=λ_=>true
 pn:=[]
 xe:=λe s'=>wpAny (model P w) (A.deeper (envOfC qual scope s.heap.objs.size f cd)) (leaving (envOfC qual scope s.heap.objs.size f cd) e) (λ_ s''=>CX outer H s E e s'') (λe' s''=>CX outer H s E e' s'') s'
theorem MN{sc:Scope}{n:Nat}(h:sc.names.lookup x=some .cell):∃c,(cellsFrom n sc.names []).lookup x=some c:=by
 have q:=gh sc.names n [] (.inl h);exact Option.isSome_iff_exists.mp q
theorem Ro{CX:CXT}{N ps:List Str}{qual:Str}{scope:Scope}{f:fh}{cd:fg}{A:Around}{outer:List Env}{s1:fj}{E:XK}
 (S:FnScope N ps scope) (hd:A.handled=none) (e0:Env0 P w K mg base A outer s H) (hl:vs.length=ps.length) (r:Vals vs us)
 (x:InCallC s s.heap.objs.size (bindL (envOfC qual scope s.heap.objs.size f cd).kindOf (ps.zip us) λ_=>none) (cellsFrom (s.heap.objs.size+1) scope.names []) (bindC (envOfC qual scope s.heap.objs.size f cd).kindOf (ps.zip us) λ_=>none) s1) :
 Inv (EM CX P w K mg base N qual scope f cd A outer s H E) [] (Eb N vs) H s1:=by
 have hpl:ps.length<=N.length:=by have:=gY List.length S.pre;rw[uh3] at this;lia
 clear 5 x.done h1 tk rfl hk;have noA:∀b:fh,b∉(EM CX P w K mg base N qual scope f cd A outer s H E).ex:=λb z=>absurd (show b∈([]:List fh) from z) (by simp);refine⟨⟨e0.mod,S.kind,rfl,rfl,un6 _,λy z c h1 h2=>?_,λy hy=>?_,λy c _ h=>?_,λ_=>hd,Around.frames_deeper e0.frames,.inr ⟨rfl,rfl⟩,λb z=>absurd z (noA b),e0.bs,e0.bsz,λb _ _=>noA b,λb z=>absurd z (noA b),e0.funs,e0.frf⟩,
  rfl,e0.bare,Un.kept hk,⟨_,x.toInCall.ns,λi y v h1 h2 h3=>?_⟩,λy c h=>⟨_,x.cell y c h⟩,e0.hok.fresh (un6 _),λy c h=>?_,λp hp=>absurd (show p∈([]:List (fh×Obj)) from hp) (by simp),e0.hok.kept hk,?_⟩
 .exact name_of_addr x.apart (gq h1) (gq h2)
 .have hy:scope.names.lookup y=some .cell\/scope.names.lookup y=some .free:=hy;rcases hy with hy|hy
  .exact MN hy
  .exact absurd rfl (S.nofree _ (gq hy))
 .exact gM (x.above y c (gq h))
 .have hi:i<vs.length:=by
   unfold Eb at h2
   by_cases hi:i<vs.length
   .exact hi
   .rw[ua4 (by simpa using hi)] at h2;rw[ub3] at h2
    split at h2<;>cases h2
  have ha:vs[i]?=some v:=by
   unfold Eb at h2;rw[ua8 (by simpa using hi),ug1] at h2
   cases e:vs[i]? with
   |none=>rw[e] at h2;cases h2
   |some a=>rw[e] at h2;cases h2;rfl
  clear 5(r.get ha)u hu rv;have hp:ps[i]?=some y:=by
   rw[<-S.pre,ub1 (by lia)];exact h1
  have ndP:ps.Nodup:=by rw[<-S.pre];exact S.nd.sublist (List.take_sublist _ _)
  refine⟨u,rv,?_⟩;rcases S.par y (ud8 hp) with k|k
  .exact .inl ⟨k,Ly ndP hp hu k⟩
  .clear 5(MN (n:=s.heap.objs.size+1) k)c e;refine .inr ⟨.inl k,c,e,?_⟩;have q:=x.cell y c e;rw[Lw ndP hp hu (by show scope.names.lookup y≠_;rw[k];decide)] at q;exact q
 .exact e0.hok.fresh (gM (x.above y c (gq h)))
 .unfold Eb;show _=N.length;rw[uf3,ui8,uc7];lia
theorem UV{CX:CXT}{k:Nat}{f:fh}{name qual:Str}{params:Arguments}{body:List Stmt}{scope:Scope}{dV kV doc pm cdv ct oc:fg}{an od:Option fh}
 {osl:Array (Option fg)}{N ps:List Str}{sp:Sp} (lk:K.lookup f=some ⟨oc,od,.func (PySem.W.fnOf name qual params body scope dV kV doc pm an cdv ct),osl⟩) (hcd:codeIn K cdv qual=true) (S:FnScope N ps scope)
 (len:∀vs H Q E,sp vs H Q E->vs.length=ps.length)
 (hbody:∀(A:Around) (outer:List Env) (s:fj) (H:Hp) (vs:List V) (Q:VK) (E:XK),Room k (A.deeper (envOfC qual scope s.heap.objs.size f cdv))->sp vs H Q E->
   ∃t,PSs (EM CX P w K mg base N qual scope f cdv A outer s H E) body t/\t {nx:=λ_ H'=>Q .non H',rt:=Q} (Eb N vs) H) :
 FnOk P w K mg base CX (k+1) f (PySem.W.fnOf name qual params body scope dV kV doc pm an cdv ct) ps sp:=by
 refine⟨len,λA outer s H args us vs Q E hr e0 hb r hsp=>?_⟩;have hl:=len _ _ _ _ hsp;have KX:K.In s.heap:=e0.mod.kin.keeps λb o e=>(e0.bs b o e).1;have lim:s.heap.NoLimit:=e0.mod.nolimit.keeps λb o e=>(e0.bs b o e).1;have hkind:∀y∈ps.zip us,scope.names.lookup y.1=some .local\/(scope.names.lookup y.1=some .cell/\((cellsFrom (s.heap.objs.size+1) scope.names []).lookup y.1).isSome=true):=λz9 hy=>by
  clear 5 z9 n v;rcases S.par n (uj2 hy).1 with q|q
  .exact .inl q
  .exact .inr ⟨q,gh _ _ _ (.inl q)⟩
 refine codeAny_call_function hr.depth (KX _ _ lk) rfl S.co S.gen rfl (PySem.W.codeRec_of KX hcd) (hb _ _ _ _ ?_);refine wpAny_newFunctionEnv_cells S.kind hkind λenv he s1 x=>?_;subst he;refine⟨lim.keeps x.toInCall.keep,codeAny_func ?_⟩;clear 5(hbody A outer s H vs Q E (hr.deeper _) hsp)t ht hq;have I:Inv (EM CX P w K mg base N qual scope f cdv A outer s H E) [] (Eb N vs) H s1:=Ro S hr.hd e0 hl r x;refine uo3 (ht [] s1 (Eb N vs) H _ I hq) (λfl s' hs=>?_) λe s' hs=>hs;have fin:∀{σ':St}{H':Hp}{v:V}{u:fg},Inv (EM CX P w K mg base N qual scope f cdv A outer s H E) [] σ' H' s'->RelV v u->Q v H'->CE outer P w H s Q u s':=
  λ{σ' H' v u} J rv q=>⟨v,H',J.os,J.bare,J.base,J.hok,rv,q⟩
 cases fl with
 |ret u=>
   clear 5 hs v σ' H' J rv q;exact fin J rv q
 |next=>
   clear 5 hs σ' H' J q;exact fin (v:=V.non) (u:=Value.none) J rfl q
 |brk=>
   obtain⟨_,_,_,q⟩:=hs;exact False.elim q
 |cont=>
   obtain⟨_,_,_,q⟩:=hs;exact False.elim q
section
variable{X:Cx}{x:Str}{p pos:Pos}{e:Expr}{es:List Expr}{t:TA}{id T:String}{r:List V->Hp->VK->Prop}
def tCB(r:List V->Hp->VK->Prop)(t:TA):TE:=λσ H Q=>t σ H λvs H1=>r vs H1 Q
theorem Ub(hc:Do X (.builtin id) r)(hg:Gl X x)(hm:X.mg x=none)(hv:bootBuiltins x=some (.builtin id))(ha:PA X (e::es) t)(hn:x≠"__name__":=by decide)(hdb:(x==("__debug__":Str))=false:=by decide)
 (he:starEach (e::es) X.env=(false,eval e X.env)::starEach es X.env:=by rfl) (hpl:(backTo pos (starEach es X.env)).any (·.1)=false:=by rfl):PE X (.Call (.Name x p) (e::es) [] pos) (tCB r t):=by
 intro ff s σ H Q I h;refine gw (GL I hg hm hv ?_ hn hdb);exact PyProof.Rows.callWith_builtin1 (thn (ha pos ff s σ H _ I h) λus s1 z9=>by clear 5 z9 vs H1 I1 r1 q1;exact hc ff s1 σ H1 vs us Q I1 r1 q1) he hpl
theorem LN(hc:Do X (.type T) r)(hg:Gl X x)(hm:X.mg x=none)(hv:bootBuiltins x=some (.type T))(ha:PA X (e::es) t)(hn:x≠"__name__":=by decide)(hdb:(x==("__debug__":Str))=false:=by decide)
 (he:starEach (e::es) X.env=(false,eval e X.env)::starEach es X.env:=by rfl) (hpl:(backTo pos (starEach es X.env)).any (·.1)=false:=by rfl):PE X (.Call (.Name x p) (e::es) [] pos) (tCB r t):=by
 intro ff s σ H Q I h;refine gw (GL I hg hm hv ?_ hn hdb);exact ua2 (thn (ha pos ff s σ H _ I h) λus s1 z9=>by clear 5 z9 vs H1 I1 r1 q1;exact hc ff s1 σ H1 vs us Q I1 r1 q1) he hpl
end
end
end L2
namespace HT
open PySem PyProof.Rows
section
open PySem.SeqAt
open PySem.AutoSeq1 (wpAny_loadPart')
open PySem.MeetsSeq PySem.MeetsSeq2 PySem.MeetsSeq3
end
section
variable{prog:fk}{w:fq}{A:Around}{E:fg->fj->Prop}{s:fj}
noncomputable def sIx(n d:Nat):Option Int->Nat
 |none=>d
 |some v=>if v<0 then(v+(n:Int)).toNat else min v.toNat n
theorem Zn(n d:Nat)(hd:d<=n)(o:Option Int):sIx n d o<=n:=by
 cases o with
 |none=>exact hd
 |some v=>
   show(if v<0 then(v+(n:Int)).toNat else min v.toNat n)<=n
   by_cases hv:v<0
   .rw[hX hv];lia
   .rw[ia hv];exact Nat.min_le_right _ _
theorem Ol(v:Int)(n d:Nat):(if v<0 then max (v+(n:Int)) 0 else min v (n:Int))=((sIx n d (some v):Nat):Int):=by
 show(if v<0 then max (v+(n:Int)) 0 else min v (n:Int))=(((if v<0 then(v+(n:Int)).toNat else min v.toNat n):Nat):Int)
 by_cases hv:v<0
 .simp only[hX hv];lia
 .simp only[ia hv];lia
theorem Px(lo hi:Option Int)(n:Nat):Builtin.Slice.sliceAdjust lo hi 1 (n:Int)=(((sIx n 0 lo:Nat):Int),((sIx n n hi:Nat):Int)):=by
 have h1:¬((1:Int)<0):=by lia
 unfold Builtin.Slice.sliceAdjust;simp only[h1,gZ];refine Prod.ext ?_ ?_
 .cases lo with
  |none=>rfl
  |some v=>exact Ol v n 0
 .cases hi with
  |none=>rfl
  |some v=>exact Ol v n n
theorem Qk(i j:Nat):Builtin.Slice.slicePlaces (i:Int) (j:Int) 1=j-i:=by
 unfold Builtin.Slice.slicePlaces;have h1:(1:Int) > 0:=by lia
 simp only[h1,hU,Int.ediv_one]
 split<;>lia
theorem Kr{v:fg}{o:Option Int}{Q:Option Int->fj->Prop}(p:IsPart v o)(h:Q o s):wpAny (model prog w) A (Builtin.Slice.slicePartIndex v) Q E s:=by
 cases p with
 |none=>exact slicePart_none h
 |int i t=>exact slicePart_int h
theorem Ga{sl:fh}{vl vu:fg}{lo hi:Option Int}{n:Nat}{Q:Int×Int×Nat->fj->Prop}(hs:s.heap.IsSliceOf sl vl vu .none)(pl:IsPart vl lo)(pu:IsPart vu hi)
 (h:Q (((sIx n 0 lo:Nat):Int),1,sIx n n hi-sIx n 0 lo) s):wpAny (model prog w) A (Builtin.Slice.sliceApplied (.ref sl) (pure (n:Int))) Q E s:=by
 clear 5(id hs)os hos hcs hds;unfold Builtin.Slice.sliceApplied Builtin.Slice.sliceFields;refine uo1 (uo1 (uo0 hos hds (x:=vl) rfl (uo1 (uo0 hos hds (x:=vu) rfl (uo1 (uo0 hos hds (x:=.none) rfl (uo2 ?_)))))));refine uo1 (slicePart_none ?_);show wpAny _ _ (if ((1:Int)==0)=true then _ else _) _ _ s;rw[ia (by decide)];refine uo1 (Kr pl (uo1 (Kr pu (uo1 (uo2 ?_)))));show wpAny _ _ (match Builtin.Slice.sliceAdjust lo hi 1 (n:Int) with|(lo,hi)=>pure (lo,(1:Int),Builtin.Slice.slicePlaces lo hi 1)) _ _ s;rw[Px lo hi n];show wpAny _ _ (pure (((sIx n 0 lo:Nat):Int),(1:Int),Builtin.Slice.slicePlaces ((sIx n 0 lo:Nat):Int) ((sIx n n hi:Nat):Int) 1)) _ _ s;rw[Qk];exact uo2 h
theorem Uh(xs:Array fg)(i k:Nat):((List.range k).filterMap λ(m:Nat)=>xs[((i:Int)+(m:Int)*1).toNat]?).toArray=((xs.toList.drop i).take k).toArray:=by
 have e:(λ(m:Nat)=>xs[((i:Int)+(m:Int)*1).toNat]?)=λm=>xs[i+m]?:=by
  funext m
  have:((i:Int)+(m:Int)*1).toNat=i+m:=by lia
  rw[this]
 rw[e];have:=pick_run xs i k;rw[List.filterMap_map] at this;have e2:((λx=>xs[x]?) ∘ λx=>i+x)=λm=>xs[i+m]?:=rfl;rw[e2] at this;rw[this]
theorem Jg{t sl:fh}{items:Array fg}{vl vu:fg}{lo hi:Option Int}{Q:fg->fj->Prop}(ht:IsTup s.heap t items)(hs:s.heap.IsSliceOf sl vl vu .none)(pl:IsPart vl lo)(pu:IsPart vu hi)
 (hw:¬(sIx items.size 0 lo=0/\sIx items.size items.size hi=items.size))
 (h:Q (.ref s.heap.objs.size) {s with heap:=s.heap.push {cls:=.type "tuple",data:=.seq ((items.toList.drop (sIx items.size 0 lo)).take (sIx items.size items.size hi-sIx items.size 0 lo)).toArray} })
 (hsz:items.size<=sizeLine):wpAny (model prog w) A (getItem (.ref t) (.ref sl)) Q E s:=by
 have htake:sizeOk (.seq ((items.toList.drop (sIx items.size 0 lo)).take (sIx items.size items.size hi-sIx items.size 0 lo)).toArray):=by
  show((items.toList.drop (sIx items.size 0 lo)).take (sIx items.size items.size hi-sIx items.size 0 lo)).toArray.size<=sizeLine;rw[ug0,uh3,uh4,ue2];lia
 have hj:sIx items.size items.size hi<=items.size:=Zn _ _ (un6 _) hi;clear 5(id hs)os hos hcs hds;have hTs:s.TypeIs (.ref sl) "slice":=⟨os,hos,hcs⟩;unfold getItem
 try with_reducible refine um2 ?_
 first|refine uo1 (uo2 ?_)|skip
 refine uo1 (wpAny_sequenceKey ht.typeIs (by decide) ?_);refine uo1 (wpAny_callSpecial?_slot (name:=Str.ofString "__getitem__") ht.typeIs ua0
  (wpAny_call_entry ua0 ht.typeIs entry_tuple_getitem ?_ (args_tuple_getitem _ _)))
 show wpAny _ _ (Builtin.Tuple.tupleItemsOf (.ref t) >>= _) _ _ s;refine uo1 (tupleItemsOf_ ht ?_);refine uo1 (wpAny_typeOf hTs ?_);rw[hX (by decide)];refine uo1 (Ga hs pl pu ?_);have hno:¬((((sIx items.size 0 lo:Nat):Int)==0&&(1:Int)==1&&(sIx items.size items.size hi-sIx items.size 0 lo)==items.size)=true):=by
  intro q;rw[uh5,uh5] at q;have q1:((sIx items.size 0 lo:Nat):Int)=0:=eq_of_beq q.1.1;have q2:sIx items.size items.size hi-sIx items.size 0 lo=items.size:=eq_of_beq q.2;exact hw ⟨by lia,by lia⟩
 show wpAny _ _ (if (((sIx items.size 0 lo:Nat):Int)==0&&(1:Int)==1&&(sIx items.size items.size hi-sIx items.size 0 lo)==items.size)=true then _ else _) _ _ s;rw[ia hno,Uh]
 first
  |exact uo1 (m:=Builtin.Tuple.tupleExact _) (gz (uo2 ⟨_,rfl,uo2 h⟩) htake)
  |exact uo1 (m:=Builtin.Tuple.tupleExact _) (gz (uo1 (uo2 (uo2 ⟨_,rfl,uo2 h⟩))) htake)
  |exact uo1 (uo1 (m:=Builtin.Tuple.tupleExact _) (gz (uo2 (uo2 ⟨_,rfl,uo2 h⟩)) htake))
  |exact uo1 (uo1 (m:=Builtin.Tuple.tupleExact _) (gz (uo2 ⟨_,rfl,uo2 h⟩) htake))
end
end HT
namespace L2
open PySem PySem.Spec PyProof.Rows
abbrev TO:=St->Hp->(Option Int->Hp->Prop)->Prop
def PO(X:Cx)(e:Option Expr)(t:TO):Prop:=
 ∀(ff:List (fh×Obj)) (s:fj) (σ:St) (H:Hp) (Q:Option Int->Hp->Prop),Inv X ff σ H s->t σ H Q->
  wpAny (model X.prog X.w) X.A (evalPart e X.env) (λu s'=>∃o H',Inv X ff σ H' s'/\IsPart u o/\Q o H') X.xe s
def Xi:TO:=λ_ H Q=>Q none H
def aN(t:TE):TO:=λσ H Q=>t σ H λx H1=>∃i,x=.int i/\Q (some i) H1
section
variable{X:Cx}{e:Expr}{te:TE}{lo hi:Option Expr}{tl th:TO}{pos p2:Pos}
theorem WF:PO X none Xi:=by
 intro ff s σ H Q I h;rw[evalPart_none];exact uo2 ⟨none,H,I,.none,h⟩
theorem WG(h:PE X e te):PO X (some e) (aN te):=by
 intro ff s σ H Q I hw;rw[evalPart_some];refine thn (h ff s σ H _ I hw) λu s1 z9=>?_;clear 5 z9 x H1 I1 r1 q1;clear 5 q1 i rfl q;clear 5 r1 t rfl;exact⟨some i,H1,I1,.int i t,q⟩
def SlR(X:Cx)(r:V->Option Int->Option Int->Hp->VK->Prop):Prop:=
 ∀(ff:List (fh×Obj)) (s:fj) (σ:St) (H:Hp) (x:V) (v vl vu:fg) (lo hi:Option Int) (sl:fh) (Q:VK),Inv X ff σ H s->RelV x v->s.heap.IsSliceOf sl vl vu .none->IsPart vl lo->IsPart vu hi->r x lo hi H Q->
  ∃T id,typeLookup (.type T) "__getitem__" = pure (some (.builtin id))/\s.TypeIs v T/\wpAny (model X.prog X.w) X.A (getItem v (.ref sl)) (EP X ff σ Q) X.xe s
theorem SlR.or{r r':V->Option Int->Option Int->Hp->VK->Prop}(h:SlR X r)(h':SlR X r'):SlR X (λx lo hi H Q=>r x lo hi H Q\/r' x lo hi H Q):=by
 intro ff s σ H x v vl vu lo hi sl Q I rx hs pl pu q;rcases q with q|q
 .exact h ff s σ H x v vl vu lo hi sl Q I rx hs pl pu q
 .exact h' ff s σ H x v vl vu lo hi sl Q I rx hs pl pu q
def tSl(r:V->Option Int->Option Int->Hp->VK->Prop)(te:TE)(tl th:TO):TE:=λσ H Q=>te σ H λx H1=>tl σ H1 λl H2=>th σ H2 λu H3=>r x l u H3 Q
theorem Uf{r:V->Option Int->Option Int->Hp->VK->Prop}(hr:SlR X r)(he:PE X e te)(hl:PO X lo tl)(hu:PO X hi th):PE X (.Subscript e (.Slice lo hi none p2) pos) (tSl r te tl th):=by
 intro ff s σ H Q I h;refine Subscript_ (thn (he ff s σ H _ I h) λv s1 z9=>?_);clear 5 z9 x H1 I1 r1 q1;refine wpAny_Slice (thn (hl ff s1 σ H1 _ I1 q1) λvl s2 ⟨l,H2,I2,pl,q2⟩=>thn (hu ff s2 σ H2 _ I2 q2) λvu s3 z9=>?_);clear 5 z9 u H3 I3 pu q3;rw[evalPart_none];refine uo2 ?_;have I4:Inv X ff σ H3 {s3 with heap:=s3.heap.push {cls:=.type "slice",data:=.fields #[vl,vu,.none]} }:=I3.kept (t':=s3.toks) λb ob q=>uc0 _ q;clear 5(hr ff {s3 with heap:=s3.heap.push {cls:=.type "slice",data:=.fields #[vl,vu,.none]} } σ H3 x v vl vu l u s3.heap.objs.size Q I4 r1 (Heap.IsSliceOf.new ..) pl pu q3)T id hT ht hg;show wpAny (model X.prog X.w) X.A (subscriptTail e (.Slice lo hi none p2) v (.ref s3.heap.objs.size)) (EP X ff σ Q) X.xe {s3 with heap:=s3.heap.push {cls:=.type "slice",data:=.fields #[vl,vu,.none]} };exact tail_any (ops:=[.ref s3.heap.objs.size,v]) ht hT hg (by with_unfolding_all rfl)
def He(xs:List V)(lo hi:Option Int):List V:=(xs.drop (HT.sIx xs.length 0 lo)).take (HT.sIx xs.length xs.length hi-HT.sIx xs.length 0 lo)
theorem Jh(xs:List V)(lo hi:Option Int):(He xs lo hi).length<=xs.length:=by
 unfold He;rw[uh3,uh4];lia
def Zj(K:fc):V->Option Int->Option Int->Hp->VK->Prop:=λx lo hi H Q=>∃a xs,x=.ref a/\SqT K H a xs/\
 ¬(HT.sIx xs.length 0 lo=0/\HT.sIx xs.length xs.length hi=xs.length)/\∀p,H p=none->Q (.ref p) (upd H p (.tup (He xs lo hi)))
theorem Zu:SlR X (Zj X.K):=by
 intro ff s σ H x v vl vu lo hi sl Q I rx hs pl pu h;clear 5 h a xs rfl hx hw q
 cases rx
 clear 5(I.tuple hx)its r ht hz;have hlen:its.toArray.size=xs.length:=by rw[ug0];exact r.length.symm
 refine⟨"tuple",_,ua0.lookup,ht.typeIs,?_⟩;refine HT.Jg ht hs pl pu (by rw[hlen];exact hw) ?_ (by rw[hlen];exact hz);rw[hlen];refine⟨.ref s.heap.objs.size,_,I.laid (t':=s.toks) (o:=.tup (He xs lo hi)) (λb ob q=>uc0 _ q) (un6 _) ?_,rfl,q _ (I.hok.fresh (un6 _))⟩;exact⟨um5 (Jh xs lo hi) hz,_,(r.drop (HT.sIx xs.length 0 lo)).take (HT.sIx xs.length xs.length hi-HT.sIx xs.length 0 lo),IsTup.new _ _⟩
theorem Vals.nil_iff{xs:List V}{us:List fg}(r:Vals xs us):us=[]↔xs=[]:=by
 cases r with
 |nil=>simp
 |cons _ _=>simp
end
noncomputable def ixN(n:Nat)(i:Int):Option Nat:=if 0<=i then(if i<n then some i.toNat else none) else if -(n:Int)<=i then some (i+n).toNat else none
def atI{α:Type}(xs:List α)(i:Int):Option α:=(ixN xs.length i).bind λj=>xs[j]?
theorem OE{n:Nat}{i:Int}{j:Nat}(h:ixN n i=some j):seqIndex? i n=some j/\j<n/\-(n:Int)<=i/\i<n:=by
 unfold ixN at h
 by_cases h0:0<=i
 .rw[hX h0] at h
  by_cases h1:i<n
  .rw[hX h1] at h;have e:i.toNat=j:=ui7 h;exact⟨by rw[seqIndex_of h0 h1,e],by lia,by lia,h1⟩
  .rw[ia h1] at h;cases h
 .rw[ia h0] at h
  by_cases h1 : -(n:Int)<=i
  .rw[hX h1] at h;have e:(i+n).toNat=j:=ui7 h;exact⟨by rw[seqIndex_neg (by lia) h1,e],by lia,h1,by lia⟩
  .rw[ia h1] at h;cases h
theorem KN{α:Type}{xs:List α}{i:Int}{v:α}(h:atI xs i=some v):∃j,seqIndex? i xs.length=some j/\xs[j]?=some v/\j<xs.length/\-(xs.length:Int)<=i/\i<xs.length:=by
 unfold atI at h
 cases e:ixN xs.length i with
 |none=>rw[e] at h;cases h
 |some j=>
   rw[e] at h;clear 5(OE e)h1 h2 h3 h4;exact⟨j,h1,h,h2,h3,h4⟩
theorem IJ{α:Type}{xs:List α}{j:Nat}{v:α}(h:xs[j]?=some v):atI xs (j:Int)=some v:=by
 have hj:j<xs.length:=(ua7.mp h).1;have e:ixN xs.length (j:Int)=some j:=by
  unfold ixN;rw[hX (by lia),hX (by lia)];simp
 unfold atI;rw[e];exact h
def KL(b:Expr):Prop:=∀o i,subscripted b false o i=operate [o,i] (getItem o i)
def IxR(X:Cx)(r:R2):Prop:=
 ∀(value slice:Expr) (ff:List (fh×Obj)) (s:fj) (σ:St) (H:Hp) (x y:V) (v u:fg) (Q:VK),Inv X ff σ H s->RelV x v->RelV y u->r x y H Q->
  subscripted slice false v u=operate [v,u] (getItem v u)->wpAny (model X.prog X.w) X.A (subscriptTail value slice v u) (EP X ff σ Q) X.xe s
def MtR(X:Cx)(id:String)(r:V->List V->Hp->VK->Prop):Prop:=
 ∀(ff:List (fh×Obj)) (s:fj) (σ:St) (H:Hp) (x:V) (xs:List V) (v:fg) (us:List fg) (Q:VK),Inv X ff σ H s->RelV x v->Vals xs us->r x xs H Q->
  wpAny (model X.prog X.w) X.A (call (.builtin id) (v::us)) (EP X ff σ Q) X.xe s
section
variable{X:Cx}{a b:Expr}{ta tb:TE}{pos:Pos}
theorem IxR.or{r r':R2}(h:IxR X r)(h':IxR X r'):IxR X (λx y H Q=>r x y H Q\/r' x y H Q):=by
 intro value slice ff s σ H x y v u Q I rx ry q hs;rcases q with q|q
 .exact h value slice ff s σ H x y v u Q I rx ry q hs
 .exact h' value slice ff s σ H x y v u Q I rx ry q hs
theorem UY{r:R2}(hr:IxR X r)(ha:PE X a ta)(hb:PE X b tb)(hs:KL b):PE X (.Subscript a b pos) (tOp r ta tb):=by
 intro ff s σ H Q I h;exact Subscript_ (Te ha hb I h λv u s2 x y H2 I2 rx ry q=>hr a b ff s2 σ H2 x y v u Q I2 rx ry q (hs _ _))
def Ze(K:fc):R2:=λx y H Q=>∃p xs i v,x=.ref p/\y=.int i/\SqL K H p xs/\atI xs i=some v/\Q v H
def Zg(K:fc):R2:=λx y H Q=>∃p xs i v,x=.ref p/\y=.int i/\SqT K H p xs/\atI xs i=some v/\Q v H
def Zf:R2:=λx y H Q=>∃z i c,x=.str z/\y=.int i/\z.length<=sizeLine/\atI z.cps.toList i=some c/\Q (.str ⟨#[c]⟩) H
theorem ix_list:IxR X (Ze X.K):=by
 intro value slice ff s σ H x y v u Q I rx ry h hs;clear 5 h p xs i z rfl rfl hq he q
 cases rx
 clear 5 ry t rfl;clear 5(I.list hq)its r pl hz;clear 5(KN he)j h1 h2 h3 h4 h5;clear 5(r.get h2)w ew rw';have hl:=r.length;have hn:=Ih;have fin:EP X ff σ Q w s:=⟨z,H,I,rw',q⟩
 by_cases h0:0<=i
 .have hj:i.toNat=j:=by
   rw[seqIndex_of h0 h5] at h1;exact ui7 h1
  exact item_listR pl.isList h0 (by lia) (by rw[hj];simpa using ew) fin hs
 .have hj:(i+(its.toArray.size:Int)).toNat=j:=by
   rw[seqIndex_neg (by lia) h4] at h1;rw[ug0,<-hl];exact ui7 h1
  exact subscriptTail_builtinR (x:=w) pl.isList.typeIs slot_list_getitem.lookup
   (wpAny_getItem_list_neg (Q:=λr s'=>r=w/\EP X ff σ Q r s') pl.isList (by lia) (by rw[ug0]<;>lia) (by lia) (by rw[hj];simpa using ew) ⟨rfl,fin⟩) hs
theorem ix_tup:IxR X (Zg X.K):=by
 intro value slice ff s σ H x y v u Q I rx ry h hs;clear 5 h p xs i z rfl rfl hq he q
 cases rx
 clear 5 ry t rfl;clear 5(I.tuple hq)its r pl hz;clear 5(KN he)j h1 h2 h3 h4 h5;clear 5(r.get h2)w ew rw';have hl:=r.length;have hn:=Ih;have fin:EP X ff σ Q w s:=⟨z,H,I,rw',q⟩;exact subscriptTail_builtinR (x:=w) pl.typeIs slot_tuple_getitem.lookup
  (getItem_tuple (j:=j) (Q:=λr s'=>r=w/\EP X ff σ Q r s') pl (by lia) (by lia) (by rw[ug0,<-hl];exact h1) (by simpa using ew) ⟨rfl,fin⟩) hs
theorem Yv:IxR X Zf:=by
 intro value slice ff s σ H x y v u Q I rx ry h hs;clear 5 h z i c rfl rfl hz he q;clear 5 rx t rfl;clear 5 ry t' rfl;clear 5(KN he)j h1 h2 h3 h4 h5;have hl:z.cps.toList.length=z.length:=by simp[Str.length]
 rw[hl] at h1 h4 h5;have hn:=Ih;exact tail_any (typeIs_str s z t) slot_str_getitem.lookup (getItem_str (c:=c) (by
  have e1:decide (i < -(2 ^ 63:Int))=false:=uk3 (by lia);have e2:decide (i ≥ 2 ^ 63)=false:=uk3 (by lia);rw[e1,e2,ul4]) (by rw[h1];simpa using h2) ⟨.str ⟨#[c]⟩,H,I.tok _,⟨_,rfl⟩,q⟩) hs
def rIx(K:fc):R2:=λx y H Q=>Ze K x y H Q\/Zg K x y H Q\/Zf x y H Q
theorem Yu:IxR X (rIx X.K):=ix_list.or (ix_tup.or Yv)
theorem Qc(its:List fg)(n j:Nat)(u:fg):Obj.mapSeq (·.setIfInBounds j u) {cls:=.type "list",data:=.seq its.toArray n} = {cls:=.type "list",data:=.seq (its.set j u).toArray n}:=by
 simp[Obj.mapSeq]
theorem Inv.lst{ff:List (fh×Obj)}{σ:St}{H:Hp}{s:fj}{p:fh}{xs:List V}(I:Inv X ff σ H s)(h:H p=some (.lst xs)) :
 ∃(its:List fg) (n:Nat),Vals xs its/\s.heap.get? p=some {cls:=.type "list",data:=.seq its.toArray n}/\xs.length<=sizeLine:=by
 clear 5(I.hok p _ h)z its n r e;exact⟨its,n,r,e,z⟩
theorem Inv.lstUpd{ff:List (fh×Obj)}{σ:St}{H:Hp}{s:fj}{p:fh}{xs ys:List V}{its its':List fg}{n n':Nat}{f:Obj->Obj}(I:Inv X ff σ H s)(h:H p=some (.lst xs))
 (ho:s.heap.get? p=some {cls:=.type "list",data:=.seq its.toArray n}) (hf:f {cls:=.type "list",data:=.seq its.toArray n} = {cls:=.type "list",data:=.seq its'.toArray n'}) (r:Vals ys its') (hz:ys.length<=sizeLine) (t:Nat) :
 Inv X ff σ (upd H p (.lst ys)) {s with heap:=s.heap.update p f,toks:=t}:=by
 have e:(s.heap.update p f).get? p=some {cls:=.type "list",data:=.seq its'.toArray n'}:=by
  rw[uc8 f ho (by rw[hf]<;>rfl),hf]
 refine I.write (x:=p) (e:=p) (by rw[h];trivial) (.inl rfl) (λb u hb q=>(uc1 _ _ (Ne.symm hb)).trans q) ⟨_,e⟩ ?_;exact⟨hz,its',n',r,e⟩
def aA:V->V->V->Hp->(Hp->Prop)->Prop:=λo i v H Q=>∃p xs k j,o=.ref p/\i=.int k/\H p=some (.lst xs)/\ixN xs.length k=some j/\Q (upd H p (.lst (xs.set j v)))
theorem NH:SW X aA:=by
 intro ff s σ H o i v ov iv u Q I ro ri rv h;clear 5 h p xs k j rfl rfl hp hj q
 cases ro
 clear 5 ri t rfl;clear 5(I.lst hp)its n r ho hz;clear 5(OE hj)h1 h2 h3 h4;have hl:=r.length;have hn:=Ih;have I':Inv X ff σ (upd H p (.lst (xs.set j v))) {s with heap:=s.heap.update p (Obj.mapSeq (·.setIfInBounds j u))}:=
  I.lstUpd hp ho (Qc its n j u) (r.set rv j) (by rw[uj3];exact hz) s.toks
 by_cases h0:0<=k
 .have hk:k.toNat=j:=by
   rw[seqIndex_of h0 h4] at h1;exact ui7 h1
  exact PySem.W.ki_setAt ho h0 (by lia) (by rw[ug0,<-hl];exact h4) (by rw[hk];exact⟨_,I',q⟩)
 .have hk:(k+(its.toArray.size:Int)).toNat=j:=by
   rw[seqIndex_neg (by lia) h3] at h1;rw[ug0,<-hl];exact ui7 h1
  exact PySem.W.ki_setBack ho (by lia) (by rw[ug0,<-hl];exact h3) (by lia) (by rw[hk];exact⟨_,I',q⟩)
theorem NN(lo hi:Option Int)(n:Nat):(sliceBounds lo hi none n).1=((HT.sIx n 0 lo:Nat):Int)/\(sliceBounds lo hi none n).2.1=((HT.sIx n n hi:Nat):Int)/\(sliceBounds lo hi none n).2.2=1:=by
 refine⟨?_,?_,rfl⟩
 .cases lo with
  |none=>simp[sliceBounds,HT.sIx]
  |some i=>
    simp only[sliceBounds,HT.sIx,Option.getD_none,show(1:Int) > 0 by decide,hU]
    by_cases h:i<0
    .simp only[h,hU]<;>lia
    .simp only[h,gZ]<;>lia
 .cases hi with
  |none=>simp[sliceBounds,HT.sIx]
  |some i=>
    simp only[sliceBounds,HT.sIx,Option.getD_none,show(1:Int) > 0 by decide,hU]
    by_cases h:i<0
    .simp only[h,hU]<;>lia
    .simp only[h,gZ]<;>lia
theorem L7(its:List fg)(lo hi:Option Int):slicePick its.toArray lo hi none=((its.drop (HT.sIx its.length 0 lo)).take (HT.sIx its.length its.length hi-HT.sIx its.length 0 lo)).toArray:=by
 clear 5(NN lo hi its.toArray.size)h1 h2 h3;unfold slicePick;rw[h1,h2,h3];simp only[sliceRange_one,pick_run,ug0]<;>rfl
def Zh(K:fc):V->Option Int->Option Int->Hp->VK->Prop:=λx lo hi H Q=>∃a xs,x=.ref a/\SqL K H a xs/\∀p,H p=none->Q (.ref p) (upd H p (.lst (He xs lo hi)))
theorem sl_list:SlR X (Zh X.K):=by
 intro ff s σ H x v vl vu lo hi sl Q I rx hs pl pu h;clear 5 h a xs rfl hx q
 cases rx
 clear 5(I.list hx)its r ht hz;have hlen:=r.length;refine⟨"list",_,slot_list_getitem.lookup,ht.isList.typeIs,?_⟩;refine wpAny_getItem_list_slice ht.isList hs pl pu .none (by simp) ?_ (by rw[ug0]<;>lia);rw[L7,<-hlen];refine⟨.ref s.heap.objs.size,_,I.laid (t':=s.toks) (o:=.lst (He xs lo hi)) (λb ob q=>uc0 _ q) (un6 _) ?_,rfl,q _ (I.hok.fresh (un6 _))⟩;exact⟨um5 (Jh xs lo hi) hz,_,0,(r.drop (HT.sIx xs.length 0 lo)).take (HT.sIx xs.length xs.length hi-HT.sIx xs.length 0 lo),ue3 _ rfl⟩
theorem MM:Do X (.type "list") (λxs H Q=>∃p ys,xs=[.ref p]/\(SqL X.K H p ys\/SqT X.K H p ys)/\∀l,H l=none->Q (.ref l) (upd H l (.lst ys))):=by
 intro ff s σ H xs us Q I r h;clear 5 h p ys rfl hq q;clear 5(Jb r)u rfl rx
 cases rx
 have fin:∀(its:List fg),Vals ys its->ys.length<=sizeLine->∀(h':Heap) (c':Nat),(∀b o',s.heap.get? b=some o'->h'.get? b=some o')->
  h'.get? s.heap.objs.size=some {cls:=.type "list",dict:=none,data:=.seq its.toArray c',slots:=#[]}->EP X ff σ Q (.ref s.heap.objs.size) {s with heap:=h'}:=λits r' hz h' c' kp e=>
  ⟨.ref s.heap.objs.size,_,I.laid (t':=s.toks) kp (un6 _) (show ObjOk X.prog X.w _ h' _ (.lst ys) from⟨hz,its,c',r',e⟩),rfl,q _ (I.hok.fresh (un6 _))⟩
 rcases hq with hq|hq
 .clear 5(I.list hq)its r' pl hz;have hlen:=r'.length;clear 5 pl.isList o ho hc n hd;exact call_list_seq p (.inl rfl) ho hc hd (λh' c' kp e=>fin its r' hz h' c' kp e) (by simp only[ug0]<;>lia)
 .clear 5(I.tuple hq)its r' pl hz;have hlen:=r'.length;clear 5 pl o ho hc n hd;exact call_list_seq p (.inr rfl) ho hc hd (λh' c' kp e=>fin its r' hz h' c' kp e) (by simp only[ug0]<;>lia)
def tyV(K:fc)(T:String)(x:V)(H:Hp):Prop:=match x with
 |.str _=>T = "str"
 |.int _=>T = "int"
 | .ref p=>(T = "list"/\∃xs,SqL K H p xs)\/(T = "tuple"/\∃o,K.lookup p=some o/\o.cls = .type "tuple"/\o.dict=none)\/
    (T = "dict"/\((∃kvs,H p=some (.dK kvs))\/∃kvs,H p=some (.dT kvs)))\/(T = "set"/\∃S n,H p=some (.set S n))
 |_=>False
theorem ZB{ff:List (fh×Obj)}{σ:St}{H:Hp}{s:fj}{T:String}{x:V}{v:fg}(I:Inv X ff σ H s)(r:RelV x v)(ty:tyV X.K T x H) :
 s.TypeIs v T/\∀a,v=.ref a->∃ob,s.heap.get? a=some ob/\ob.dict=none:=by
 cases x with
 |str z=>
   clear 5 r t rfl
   cases (show T = "str" from ty)
   exact⟨typeIs_str s z t,λ_ e=>nomatch e⟩
 |int i=>
   clear 5 r t rfl
   cases (show T = "int" from ty)
   exact⟨gW s i t,λ_ e=>nomatch e⟩
 |ref p=>
   cases r
   rcases ty with⟨rfl,xs,hq⟩|⟨rfl,o,hk,hc,hd⟩|⟨rfl,hk⟩|⟨rfl,S,n,hk⟩
   .obtain⟨its,_,pl,_⟩:=I.list hq;refine⟨pl.isList.typeIs,λa e=>?_⟩
    cases e
    obtain⟨o,n,e,c,hd,_⟩:=pl;exact⟨o,e,hd⟩
   .refine⟨⟨o,I.kIn p o hk,hc⟩,λa e=>?_⟩
    cases e
    exact⟨o,I.kIn _ o hk,hd⟩
   .have z:∃o,s.heap.get? p=some o/\o.ExactDict:=by
     rcases hk with⟨kvs,hk⟩|⟨kvs,hk⟩
     .obtain⟨_,_,_,_,o,_,_,e,ex,_⟩:=I.hok p _ hk;exact⟨o,e,ex⟩
     .obtain⟨_,_,_,_,o,_,_,e,ex,_⟩:=I.hok p _ hk;exact⟨o,e,ex⟩
    clear 5 z o e ex;refine⟨⟨o,e,ex.1⟩,λa e2=>?_⟩
    cases e2
    exact⟨o,e,ex.2.1⟩
   .obtain⟨o,_,_,_,e,ex,_⟩:=I.hok p _ hk;refine⟨⟨o,e,ex.1⟩,λa e2=>?_⟩
    cases e2
    exact⟨o,e,ex.2.1⟩
 |_=>exact False.elim ty
def tBM(K:fc)(T:String)(r:V->List V->Hp->VK->Prop)(to:TE)(t:TA):TE:=λσ H Q=>to σ H λx H1=>tyV K T x H1/\t σ H1 λxs H2=>r x xs H2 Q
variable{o e:Expr}{es:List Expr}{to:TE}{t:TA}{name:Str}{apos cpos:Pos}{T id:String}{r:V->List V->Hp->VK->Prop}
theorem IV(pa:PlainAttrs T)(slot:Slot T name id)(hty:typeOf (.builtin id)=pure (.type "method_descriptor"))(hm:MtR X id r)(ho:PE X o to)(ha:PA X (e::es) t)
 (hbase:attributeBase o name X.env (eval o X.env)=eval o X.env:=by rfl)
 (hfew:((backTo cpos (starEach (e :: es) X.env)).all (λx=>!x.1) && (backToKw cpos (keywordEach [] X.env)).all (λx=>x.1.isSome)
   && decide ((e::es).length+([]:List Keyword).length+(if ([]:List Keyword).isEmpty then 0 else 1)<30))=true:=by rfl)
 (hline:(apos.endLine==cpos.line)=true:=by rfl) (hs:starEach (e::es) X.env=(false,eval e X.env)::starEach es X.env:=by rfl) (hplain:(backTo cpos (starEach es X.env)).any (·.1)=false:=by rfl) :
 PE X (.Call (.Attribute o name apos) (e::es) [] cpos) (tBM X.K T r to t):=by
 intro ff s σ H Q I h;refine wpAny_Call_method_late hbase hfew hline rfl (thn (ho ff s σ H _ I h) λv s1 z9=>?_);clear 5 z9 x H1 I1 r1 ty q1;clear 5(ZB I1 r1 ty)h1 h2;refine⟨T,id,pa,slot,hty,h1,h2,?_⟩;have hA:=ha cpos ff s1 σ H1 _ I1 q1;rw[hs] at hA⊢;refine Calls.callWith_builtin (by show(false||(backTo cpos (starEach es X.env)).any (·.1))=false;rw[hplain]<;>rfl) (Calls.evalArgs_plain ?_);exact thn hA λus s2 ⟨vs,H2,I2,r2,q2⟩=>hm ff s2 σ H2 x vs v us Q I2 r1 r2 q2
/- xs.append(e),list.index on a module's tuple .. are MtR facts of 06m -/
end
def MtM(X:Cx)(id:String)(r:V->List V->Hp->VK->Prop):Prop:=
 ∀(ff:List (fh×Obj)) (s:fj) (σ:St) (H:Hp) (x:V) (xs:List V) (v:fg) (us:List fg) (Q:VK),Inv X ff σ H s->RelV x v->Vals xs us->r x xs H Q->
  wpAny (model X.prog X.w) X.A (call (.builtin id) (v::us)) (EP X ff σ Q) X.xe s
theorem Vals.one{x:V}{us:List fg}(h:Vals [x] us):∃u,us=[u]/\RelV x u:=by
 cases h with
 |cons r t=>
   cases t
   exact⟨_,rfl,r⟩
theorem Vals.rep{xs:List V}{us:List fg}(h:Vals xs us):∀k:Nat,Vals (List.replicate k xs).flatten (List.replicate k us).flatten
 |0=>.nil
 |k+1=>by
   rw[ue5,ue5,ug2,ug2];exact Vals.append h (Vals.rep h k)
theorem LI(its:List fg):∀(k:Nat) (acc:List fg),
 List.foldl (λx1 x2=>x1++x2) acc.toArray (List.replicate k its.toArray)=(acc++(List.replicate k its).flatten).toArray
 |0,acc=>by simp
 |k+1,acc=>by
   have e:acc.toArray++its.toArray=(acc++its).toArray:=by simp
   have e2:(acc++its)++(List.replicate k its).flatten=acc++(List.replicate (k+1) its).flatten:=by
    rw[ue5,ug2,ug3]
   rw[<-e2,<-LI its k (acc++its),<-e,ue5,uj4]
section
variable{X:Cx}{ff:List (fh×Obj)}{σ:St}{H:Hp}{s:fj}{l b:fh}{xs ys zs:List V}
theorem Inv.lset{its its':List fg}{n:Nat}{f:Array fg->Array fg}{t':Nat}(I:Inv X ff σ H s)(hH:H l=some (.lst xs))
 (e:s.heap.get? l=some {cls:=.type "list",data:=.seq its.toArray n}) (hf:f its.toArray=its'.toArray) (hv:Vals ys its') (hz:ys.length<=sizeLine) :
 Inv X ff σ (upd H l (.lst ys)) {s with heap:=s.heap.update l (Obj.mapSeq f),toks:=t'}:=by
 have q:=PySem.IsL.update e f;rw[hf] at q;refine I.write (x:=l) (e:=l) (by rw[hH];exact trivial) (.inl rfl) (λb' u hb hu=>(uc1 s.heap (Obj.mapSeq f) (Ne.symm hb)).trans hu) ⟨_,q⟩ ?_;exact⟨hz,its',_,hv,q⟩
theorem Inv.lnew{its:List fg}{t':Nat}(I:Inv X ff σ H s)(hv:Vals ys its)(hz:ys.length<=sizeLine) :
 Inv X ff σ (upd H s.heap.objs.size (.lst ys)) {s with heap:=s.heap.push {cls:=.type "list",data:=.seq its.toArray},toks:=t'}:=
 I.laid (λ_ _ q=>uc0 _ q) (un6 _) ⟨hz,its,0,hv,ue3 _ rfl⟩
theorem Inv.fresh(I:Inv X ff σ H s):H s.heap.objs.size=none:=I.hok.fresh (un6 _)
theorem Inv.lstM(I:Inv X ff σ H s)(hH:H l=some (.lst xs)):xs.length<=sizeLine/\∃(its:List fg) (n:Nat),Vals xs its/\xs.length=its.length/\s.heap.get? l=some {cls:=.type "list",data:=.seq its.toArray n}:=by
 clear 5(I.hok l _ hH)z its n r e;exact⟨z,its,n,r,r.length,e⟩
theorem Ng{n:Nat}(h:n<=sizeLine):Builtin.List.listTooLong n=false:=by
 unfold Builtin.List.listTooLong;exact uk3 (by lia)
end
section
variable{X:Cx}
def OY:V->List V->Hp->VK->Prop:=λx vs H Q=>∃l xs y,x=.ref l/\vs=[y]/\H l=some (.lst xs)/\xs.length<sizeLine/\Q .non (upd H l (.lst (xs++[y])))
theorem LM:MtM X "list.append" OY:=by
 intro ff s σ H x vs v us Q I rx rv h;clear 5 h l xs y rfl rfl hH hz q
 cases rx
 clear 5 rv.one u rfl ru;clear 5(I.lstM hH)z its n r hl e;refine gX F.slot_list_append ⟨_,e,rfl⟩ F.entry_list_append (F.args_list_append_2 _ _) (PySem.list_append l its.toArray n u (by rw[ug0];lia)) ⟨e,?_⟩;refine⟨.non,_,I.lset (its':=its++[u]) hH e (by simp) (r.append (.cons ru .nil)) ?_,rfl,q⟩;rw[uf3,uc9];lia
def OZ:V->List V->Hp->VK->Prop:=λx vs H Q=>∃l b xs zs,x=.ref l/\vs=[.ref b]/\H l=some (.lst xs)/\H b=some (.lst zs)/\xs.length+zs.length<=sizeLine/\Q .non (upd H l (.lst (xs++zs)))
theorem RM:MtM X "list.extend" OZ:=by
 intro ff s σ H x vs v us Q I rx rv h;clear 5 h l b xs zs rfl rfl hH hB hz q
 cases rx
 clear 5 rv.one u rfl ru
 cases ru
 clear 5(I.lstM hH)z its n r hl e;clear 5(I.lstM hB)z2 its2 n2 r2 hl2 e2;have hsz:its.toArray.size+its2.toArray.size<=sizeLine:=by rw[ug0,ug0];lia
 have hlong:¬(!its.toArray.isEmpty&&Builtin.List.listTooLong (its.toArray.size+its2.toArray.size))=true:=by
  rw[Ng hsz,uk7];exact uf1
 refine gX F.slot_list_extend ⟨_,e,rfl⟩ F.entry_list_extend (F.args_list_extend_2 _ _)
  (AutoSeq1.list_extend_list_list_0 l its.toArray n b its2.toArray n2 hlong (by rw[ug0];lia) (by lia)) ⟨e,e2,?_⟩
 refine⟨.non,_,I.lset (its':=its++its2) hH e (by simp) (r.append r2) ?_,rfl,q⟩;rw[uf3];lia
def Qm:R2:=λx y H Q=>∃l b xs zs,x=.ref l/\y=.ref b/\H l=some (.lst xs)/\H b=some (.lst zs)/\xs.length+zs.length<=sizeLine/\∀p,H p=none->Q (.ref p) (upd H p (.lst (xs++zs)))
theorem Nn:OpR X (binaryOp .Add) Qm:=by
 intro ff s σ H x y v u Q I rx ry h;clear 5 h l b xs zs rfl rfl hH hB hz q
 cases rx
 cases ry
 clear 5(I.lstM hH)z its n r hl e;clear 5(I.lstM hB)z2 its2 n2 r2 hl2 e2;refine PySem.P.add_list e e2 ?_ (by rw[ug0,ug0];lia);have ea:its.toArray++its2.toArray=(its++its2).toArray:=by simp
 rw[ea];exact⟨.ref _,_,I.lnew (t':=s.toks) (r.append r2) (by rw[uf3];lia),rfl,q _ I.fresh⟩
def b9:R2:=λx y H Q=>∃l k xs,x=.ref l/\y=.int k/\H l=some (.lst xs)/\-(2 ^ 63)<=k/\k<2 ^ 63/\xs.length*k.toNat<=sizeLine/\
 ∀p,H p=none->Q (.ref p) (upd H p (.lst (List.replicate k.toNat xs).flatten))
theorem V0{α:Type}(xs:List α)(k:Nat):(List.replicate k xs).flatten.length=k*xs.length:=by
 induction k with
 |zero=>simp
 |succ k ih=>rw[ue5,ug2,uf3,ih,Nat.succ_mul,um7]
theorem dW:OpR X (binaryOp .Mult) b9:=by
 intro ff s σ H x y v u Q I rx ry h;clear 5 h l k xs rfl rfl hH h1 h2 hz q
 cases rx
 clear 5 ry t rfl;clear 5(I.lstM hH)z its n r hl e;have hlen:its.toArray.size*k.toNat<=sizeLine:=by rw[ug0,<-hl];exact hz
 have hcap:¬its.toArray.size*k.toNat > (2 ^ 63-1)/8:=by
  have:(sizeLine:Nat)<=(2 ^ 63-1)/8:=by decide
  lia
 have hfit:¬(!Builtin.List.listFitsIndex k)=true:=by
  rw[fitsIndex_both h1 h2];exact uf1
 have hlong:¬Builtin.List.listTooLong (its.toArray.size*k.toNat)=true:=by
  rw[Ng hlen];exact uf1
 have hnew:List.foldl (λx1 x2=>x1++x2) #[] (List.replicate (if its.toArray.isEmpty=true then 0 else k.toNat) its.toArray)=(List.replicate k.toNat its).flatten.toArray:=by
  have f0:∀m:Nat,List.foldl (λx1 x2=>x1++x2) #[] (List.replicate m its.toArray)=(List.replicate m its).flatten.toArray:=λm=>by
   have:=LI its m [];rw[uj5] at this;exact this
  rw[f0]
  cases its with
  |nil=>simp
  |cons a r'=>rw[ia (by simp)]
 refine wpAny_binaryOp_repeat_ref (T:="list") (U:="int") (by decide) ⟨_,e,rfl⟩ (λs'=>gW s' k t) noFill_list_mul F.fills_int_mul F.slot_int_rmul repeat_list F.slot_int_index.lookup
  (gX F.slot_int_rmul (gW s k t) F.entry_int_rmul (F.args_int_rmul_2 _ _) (int___rmul___int_list k t l its.toArray n)
    ⟨e,rfl,⟨_,e,rfl⟩,gX F.slot_list_mul ⟨_,e,rfl⟩ F.entry_list_mul (F.args_list_mul_2 _ _) (AutoListH.list___mul___list_int_3 l its.toArray n k t hfit hcap hlong) ⟨e,?_⟩⟩)
 rw[hnew];exact⟨.ref _,_,I.lnew (t':=s.toks) (r.rep k.toNat) (by rw[V0,gP];exact hz),rfl,q _ I.fresh⟩
end
section
variable{prog:fk}{w:fq}{A:Around}{E:fg->fj->Prop}{s:fj}
end
section
variable{X:Cx}
end
end L2
namespace Att
open PySem PySem.W PySem.Calls PyProof.Rows
theorem Kc{P:Params}{h:Heap}:∀(ns:List Int) (vs:List fg),WellAll P h vs (ns.map WData.int)->IntsAre vs ns:=by
 intro ns
 induction ns with
 |nil=>
   intro vs w;rw[um8] at w
   cases w
   exact .nil
 |cons n ns ih=>
   intro vs w;rw[ul3] at w
   cases w with
   |cons a b=>
     cases a
     exact .cons _ _ (ih _ b)
theorem Su{l:OpenLaw}{n:Nat}(hn:l.most=some n){P:Params}{h:Heap}{args:List WData}{vals:List fg}
 (hpre:l.row.toRowW.claim.pre args=true) (hwl:WellAll P h vals args) :
 ∃a vs ns,vals=[Value.ref a]/\args=[WData.list (ns.map WData.int)]/\h.get? a=some {cls:=.type "list",data:=.seq vs.toArray}/\IntsAre vs ns/\ns.length<=n:=by
 have hsh:WShape.hasAll [] args [.list .int]=true:=(pre_splitW hpre).1;have hc:l.pre.holds [] {args:=args}=true:=(pre_splitW hpre).2;clear 5(hasAllW_cons hsh)d r rfl h1 h2;obtain rfl:=hasAllW_nil h2;clear 5(hasW_list h1)xs rfl h3;clear 5(items_int h3)ns rfl;have hlen:ns.length<=n:=by
  unfold OpenLaw.pre at hc;have h4:(WTm.not (.lt (.lit (.int (n:Int))) (.len (.arg 0)))).holds [] {args:=[.list (ns.map .int)]}=true:=by
   have h4:=(holds_andW hc).1;rw[hn] at h4;exact h4
  have h5:=condW_of h4 (w_not (w_lt w_lit (w_len_list (w_arg rfl))));rw[ui8] at h5;refine Nat.le_of_not_lt λq=>?_;have q':(n:Int)<((ns.length:Nat):Int):=by lia
  first
   |(rw[ul0 q'] at h5;exact absurd h5 (by decide))
   |(simp at h5;lia)
 cases hwl with
 |cons w1 w2=>
   cases w2
   cases w1 with
   |list ho hall=>exact⟨_,_,ns,rfl,rfl,ho,Kc ns _ hall,hlen⟩
theorem Se(l:OpenLaw)(args:List WData):l.row.toRowW.claim.post args (.bool true) args=true:=
 postW_of (r:=l.row.toRowW) (X:=(true==true))
  (show WShape.has [] (.bool true) .bool=true by first|rfl|decide|simp[WShape.has,WShape.arms,WShape.armsAll])
  (show(WTm.eq .res (.lit (.bool true))).value [] {args:=args,res:=some (.bool true),after:=args}=some (.bool (true==true)) from w_eq_bool (w_res rfl) w_lit) rfl
theorem attach_call{l:OpenLaw}{n:Nat}{q:fk}{loose:List Str}{XP:(Str->Option fg)->Heap->Prop}{YP:fq->Heap->Prop}{d:DefRec}
 (hn:l.most=some n) (hdf:d.params.defaults=[])
 (call:∀(w:fq) (s₀ s₁:fj) (mg mb:Str->Option fg) (fa:fh) (o:Obj) (pm cd doc:fg) (a:fh) (vs:List fg) (ns:List Int),
   Ground q loose [] XP w s₀ mg mb s₁.heap->YP w s₁.heap->
   s₁.heap.get? fa=some o->o.data=.func (docDef d.name d.params d.body d.scope pm cd doc)->s₁.heap.CodeRec cd d.name->mg d.name=some (.ref fa)->
   s₁.heap.get? a=some {cls:=.type "list",data:=.seq vs.toArray}->IntsAre vs ns->ns.length<=n->s₁.gens=#[]->
   codeAny (model l.prog w) callerA (.call (.ref fa) ⟨[.ref a],[]⟩) (λr s'=>r=.ok (.ret (.bool true))/\OldK s₁.heap s'.heap/\s'.os=s₁.os/\AllBare s'.gens) s₁) :
 WalkO q loose XP YP l.row.toRowW d [] (λf vs=>PySem.call f vs):=by
 intro w s₀ s₁ mg mb G Y fa o pm cd doc dV kV ho hd hcd hD hmg hg args vals as hpre hlay hrd hwl hlo;obtain rfl:dV=.none:=Dflts.none hD hdf;obtain rfl:kV=.none:=Dflts.noKw hD;clear 5(Su hn hpre hwl)a vs ns rfl rfl hobj hints hlen;refine enter_call (gO (call w s₀ s₁ mg mb fa o pm cd doc a vs ns G Y ho (fd_plain hd) hcd hmg hobj hints hlen hg) λr s' hq=>?_);clear 5 hq rfl h2 h3 h4;exact⟨.inl ⟨.bool true,.bool true,[],rfl,λ_=>rfl,.bool true,Se l _,λ_=>⟨List.Pairwise.nil,λ_ hm=>(nomatch hm)⟩⟩,h2,h3,h4⟩
section
variable{prog:fk}{w:fq}{A:Around}{E:fg->fj->Prop}{s:fj}{K:Frag}
noncomputable def dU(h:Heap)(L d:fh):List (fh×Obj):=(List.range h.objs.size).filterMap λa=>if a=L\/a=d then none else(h.get? a).map λo=>(a,o)
end
end Att
namespace L2
open PySem PySem.Spec PyProof.Rows
theorem LV:∀{vs:List fg}{ns:List Int},IntsAre vs ns->Vals (ns.map V.int) vs
 |_,_,.nil=>.nil
 |_,_,.cons n t h=>.cons ⟨t,rfl⟩ (LV h)
def Pu(H:Hp):Prop:=∀b,H b=none\/∃o xs,H b=some (.frz o (.lst xs))
section
variable{P:fk}{w:fq}{fd:ft}{x:Str}
theorem TV{K:fc}{mg mb:Str->Option fg}{CX:CXT}{k:Nat}{fa a:fh}{sp:Sp}{s₁:fj}{vs:List fg}{ns:List Int}
 (KX:K.In s₁.heap) (hns:s₁.heap.Ns mainGlobals mg) (hb:s₁.heap.Ns builtinsNs mb) (hbb:∀x:Str,x≠"__name__"->mb x=bootBuiltins x) (hlim:s₁.heap.NoLimit) (hg:s₁.gens=#[])
 (ha:s₁.heap.get? a=some {cls:=.type "list",data:=.seq vs.toArray}) (hi:IntsAre vs ns) (hl:ns.length<=sizeLine) (hr:Room k callerA)
 (F:∀base:Heap,K.In base->base.Ns mainGlobals mg->FnOk P w K mg base CX k fa fd [x] sp) (hbind:∀(s:fj) (u:fg),BindsTo s fd ⟨[u],[]⟩ [(x,u)])
 (hsp:∀H:Hp,Pu H->SqL K H a (ns.map V.int)->sp [.ref a] H (λv _=>v=.bl true) λ_ _ _=>False)
 (hCX:∀H e s',CX [] H s₁ (λ_ _ _=>False) e s'->False) :
 codeAny (model P w) callerA (.call (.ref fa) ⟨[.ref a],[]⟩) (λr s'=>r=.ok (.ret (.bool true))/\OldK s₁.heap s'.heap/\s'.os=s₁.os/\AllBare s'.gens) s₁:=by
 have rv:=LV hi;have lenV:=hi.length
 -- from an abstract heap in which nothing but the script may be tracked
 have core:∀H:Hp,Pu H->SqL K H a (ns.map V.int)->HOk P w H s₁.heap->(∀b,H b≠none->b=a)->(H a≠none->K.lookup a=none)->
  codeAny (model P w) callerA (.call (.ref fa) ⟨[.ref a],[]⟩) (λr s'=>r=.ok (.ret (.bool true))/\OldK s₁.heap s'.heap/\s'.os=s₁.os/\AllBare s'.gens) s₁:=by
  intro H hO hS hok hA hK;have base_of:∀{b:fh}{o:Obj},s₁.heap.get? b=some o->H b=none->(Hj s₁.heap H).get? b=some o:=λe n=>TU e n;have noA:∀{b:fh}{o:Obj}{es:Array DictEntry}{ep:Nat},s₁.heap.get? b=some o->o.data=.dict es ep->H b=none:=λ{b o es ep} e d=>by
   cases q:H b with
   |none=>rfl
   |some u=>
     have e':b=a:=hA b (by rw[q];simp);subst e';rw[ha] at e;cases e
     have d':Data.seq vs.toArray _=Data.dict es ep:=d
     cases d'
  have nsK:∀{b:fh}{m:Str->Option fg},s₁.heap.Ns b m->(Hj s₁.heap H).Ns b m:=λ{b m} ⟨o,es,ep,e,d,r⟩=>⟨o,es,ep,base_of e (noA e d),d,r⟩;have hKb:K.In (Hj s₁.heap H):=λb o e=>base_of (KX b o e) (by
   cases q:H b with
   |none=>rfl
   |some u=>
     have e':b=a:=hA b (by rw[q];simp);subst e';rw[hK (by rw[q];simp)] at e;cases e)
  have hM:Mod K mg (Hj s₁.heap H):=⟨hKb,nsK hns,⟨mb,nsK hb,hbb⟩,let ⟨mc,h1,h2⟩:=hlim;⟨mc,nsK h1,h2⟩⟩;have e0:Env0 P w K mg (Hj s₁.heap H) callerA [] s₁ H:=⟨rfl,hM,λb o e=>Wn e,gN (Rm _ _),trivial,λb hb=>absurd (show b∈([]:List fh) from hb) (by simp),hok,.of_eq hg⟩;refine gO ((F _ hKb (nsK hns)).run callerA [] s₁ H ⟨[.ref a],[]⟩ [.ref a] [.ref a] _ _ hr e0 (hbind s₁ (.ref a)) (.cons rfl .nil) (hsp H hO hS)) λr s' h=>?_
  cases r with
  |error e=>exact(hCX H e s' h).elim
  |ok fl=>
    cases fl with
    |next=>exact False.elim h
    |brk=>exact False.elim h
    |cont=>exact False.elim h
    |ret u=>
      clear 5 h v H' os bare un hok' r' q;have q':v=.bl true:=q;subst q';obtain rfl:u=Value.bool true:=r';refine⟨rfl,OldK.of_keep λb o e=>?_,os,bare⟩
      cases q:H b with
      |none=>exact un.keep b o e q (by intro z;exact absurd (show b∈([]:List fh) from z) (by simp)) (by simp)
      |some u=>
        rcases hO b with z|⟨ob,xs,z⟩
        .rw[q] at z;cases z
        .have z2:=un.frzs b ob _ z;obtain⟨e1,_⟩:=hok b _ z;obtain⟨e2,_⟩:=hok' b _ z2;rw[e] at e1;cases e1
         exact e2
 cases hk:K.lookup a with
 |some o=>
   -- the script is one of the module's own objects
   have e:=KX a o hk;rw[ha] at e
   cases e
   refine core (λ_=>none) (λ_=>.inl rfl) (.inr ⟨_,vs.toArray,_,hk,rfl,rfl,rfl,by rw[ug0,lenV];exact hl,by simpa using rv⟩) (λb u z=>by have z':(none:Option HO)=some u:=z;cases z') (λb z=>absurd rfl z) λz=>absurd rfl z
 |none=>
   refine core (λb=>if b=a then some (.frz {cls:=.type "list",data:=.seq vs.toArray} (.lst (ns.map V.int))) else none) (λb=>?_) (.inl (.inr ⟨{cls:=.type "list",data:=.seq vs.toArray},hX rfl⟩)) (λb u z=>?_) (λb z=>?_) λ_=>hk
   .by_cases hb:b=a
    .exact .inr ⟨_,_,hX hb⟩
    .exact .inl (ia hb)
   .by_cases hb:b=a
    .have z':=(hX hb).symm.trans z
     cases z'
     subst hb;exact⟨ha,by rw[ui8];exact hl,vs,_,rv,ha⟩
    .have z':=(ia hb).symm.trans z
     cases z'
   .by_cases hb:b=a
    .exact hb
    .exact absurd (ia hb) z
theorem Xu{l:PySem.W.OpenLaw}{n k:Nat}{q:fk}{loose:List Str}{XP:(Str->Option fg)->Heap->Prop}{YP:fq->Heap->Prop}{d:DefRec}{K:Params->fc}{CX:fq->CXT}{sp:fq->Sp}
 (hn:l.most=some n) (hn2:n<=sizeLine) (hdf:d.params.defaults=[]) (hr:Room k callerA)
 (hY:∀(w:fq) (h:Heap),YP w h->(K w.params).In h)
 (F:∀(w:fq) (mg:Str->Option fg) (fa:fh) (h:Heap),(K w.params).In h->h.Ns mainGlobals mg->mg d.name=some (.ref fa)->
   ∃fd:ft,(∀(s:fj) (u:fg),BindsTo s fd ⟨[u],[]⟩ [(x,u)])/\
    ∀base:Heap,(K w.params).In base->base.Ns mainGlobals mg->FnOk l.prog w (K w.params) mg base (CX w) k fa fd [x] (sp w))
 (hsp:∀(w:fq) (H:Hp) (a:fh) (ns:List Int),ns.length<=n->Pu H->SqL (K w.params) H a (ns.map V.int)->sp w [.ref a] H (λv _=>v=.bl true) λ_ _ _=>False)
 (hCX:∀(w:fq) (H:Hp) (s:fj) (e:fg) (s':fj),CX w [] H s (λ_ _ _=>False) e s'->False) :
 PySem.W.WalkO q loose XP YP l.row.toRowW d [] (λf vs=>PySem.call f vs):=by
 refine Att.attach_call hn hdf λw s₀ s₁ mg mb fa o pm cd doc a vs ns G Y ho hd hcd hmg hobj hints hlen hg=>?_;have KX:=hY w _ Y;clear 5(F w mg fa _ KX G.T.g hmg)fd hb hF;exact TV KX G.T.g G.T.b G.T.builtins G.T.nolimit hg hobj hints (um5 hlen hn2) hr hF hb (λH hO hS=>hsp w H a ns hlen hO hS) λH e s'=>hCX w H s₁ e s'
noncomputable def GI(s:Stmt):Arguments:=match s with
 |.FunctionDef _ a _ _ _ _ _ _ _ _=>a
 |_=>{posonlyargs:=[],args:=[],vararg:=none,kwonlyargs:=[],kw_defaults:=[],kwarg:=none,defaults:=[]}
noncomputable def CN(s:Stmt):List Stmt:=match s with
 |.FunctionDef _ _ b _ _ _ _ _ _ _=>b
 |_=>[]
noncomputable def AF(s:Stmt):Scope:=match s with
 |.FunctionDef _ _ _ _ _ _ sc _ _ _=>sc
 |_=>{kind:=.function,names:=[],isGenerator:=false,isCoroutine:=false}
abbrev CX0:CXT:=λ_ _ _ _ _ _=>False
abbrev E0:XK:=λ_ _ _=>False
variable{X:Cx}
theorem Mh:GF CX0 X E0:=λ_ _ _ _ _ _ _ h=>h.elim
structure Fun(K:fc)(x qual:Str)(st:Stmt)(f:fh)(fd:ft):Prop where
 ex:∃(oc:fg) (od:Option fh) (kV doc pm:fg) (an:Option fh) (cdv ct:fg) (osl:Array (Option fg)),
  fd=PySem.W.fnOf x qual (GI st) (CN st) (AF st) .none kV doc pm an cdv ct/\K.lookup f=some ⟨oc,od,.func fd,osl⟩/\codeIn K cdv qual=true
 kp:PySem.W.keepIn K (.ref f)=true
variable{qual:Str}{f:fh}
section
variable{P:fk}{w:fq}{K:fc}{mg:Str->Option fg}{base:Heap}
theorem Fun.ok{st:Stmt}{N ps:List Str}{k:Nat}{sp:Sp}(F:Fun K x qual st f fd)(S:FnScope N ps (AF st))(len:∀vs H Q E,sp vs H Q E->vs.length=ps.length)
 (hbody:∀(cdv:fg) (A:Around) (outer:List Env) (s:fj) (H:Hp) (vs:List V) (Q:VK) (E:XK),Room k (A.deeper (envOfC qual (AF st) s.heap.objs.size f cdv))->sp vs H Q E->
   ∃t,PSs (EM CX0 P w K mg base N qual (AF st) f cdv A outer s H E).nox (CN st) t/\t {nx:=λ_ H'=>Q .non H',rt:=Q} (Eb N vs) H):FnOk P w K mg base CX0 (k+1) f fd ps sp:=by
 clear 5 F.ex oc od kV doc pm an cdv ct osl rfl lk hcd;refine UV lk hcd S len λA outer s H vs Q E hr hsp=>?_;clear 5(hbody cdv A outer s H vs Q E hr hsp)t h q;exact⟨t,h.nox,q⟩
theorem Fun.binds{st:Stmt}{ps:List Str}(F:Fun K x qual st f fd)
 (h:∀(kV doc pm:fg) (an:Option fh) (cdv ct:fg) (us:List fg),us.length=ps.length->bindArgs (PySem.W.fnOf x qual (GI st) (CN st) (AF st) .none kV doc pm an cdv ct) ⟨us,[]⟩=pure (ps.zip us)):Binds K fd ps []:=by
 clear 5 F.ex oc od kV doc pm an cdv ct osl rfl lk hcd;exact .all (h kV doc pm an cdv ct)
theorem J9{st:Stmt}{oc:fg}{od an:Option fh}{osl:Array (Option fg)}{kV doc pm cdv ct:fg}(l:K.lookup f=some ⟨oc,od,.func (PySem.W.fnOf x qual (GI st) (CN st) (AF st) .none kV doc pm an cdv ct),osl⟩)
 (c:codeIn K cdv qual=true) (k:PySem.W.keepIn K (.ref f)=true):Fun K x qual st f (PySem.W.fnOf x qual (GI st) (CN st) (AF st) .none kV doc pm an cdv ct):=⟨⟨oc,od,kV,doc,pm,an,cdv,ct,osl,rfl,l,c⟩,k⟩
end
section
variable{X:Cx}
end
def eC(H H':Hp):Prop:=∀b o,H b=some o->H' b=some o
section
variable{κ:Type}[DecidableEq κ]
noncomputable def Fy(kvs:List (κ×V))(k:κ):Option V:=(kvs.find? λkv=>decide (kv.1=k)).map (·.2)
noncomputable def D0(kvs:List (κ×V))(k:κ)(v:V):List (κ×V):=
 if (kvs.any λkv=>decide (kv.1=k))=true then kvs.map (λkv=>if kv.1=k then(kv.1,v) else kv) else kvs++[(k,v)]
theorem NY{p:κ×V}{r:List (κ×V)}{k:κ}(e:p.1=k):Fy (p::r) k=some p.2:=by simp[Fy,uj6,e]
theorem NX{p:κ×V}{r:List (κ×V)}{k:κ}(e:¬p.1=k):Fy (p::r) k=Fy r k:=by simp[Fy,uj6,e]
theorem Jj(kvs:List (κ×V))(k:κ)(v:V):(D0 kvs k v).length<=kvs.length+1:=by
 unfold D0
 split
 .rw[ui8];lia
 .rw[uf3,uh1,uj7];lia
theorem KV.val{kvs:List (κ×V)}{vs:List (κ×fg)}(r:KV kvs vs)(k:κ):RelO (Fy kvs k) (valueAt vs k):=by
 unfold KV at r
 induction r with
 |nil=>exact True.intro
 |@cons p q ps qs h t ih=>
   clear 5 h h1 h2
   by_cases e:p.1=k
   .have e':q.1=k:=h1.symm.trans e;have b:valueAt (q::qs) k=some q.2:=by simp[valueAt,uj6,e']
    rw[NY e,b];exact h2
   .have e':¬q.1=k:=λz=>e (h1.trans z);have b:valueAt (q::qs) k=valueAt qs k:=by simp[valueAt,uj6,e']
    rw[NX e,b];exact ih
theorem KV.any{kvs:List (κ×V)}{vs:List (κ×fg)}(r:KV kvs vs)(k:κ):(kvs.any λkv=>decide (kv.1=k))=vs.any λkv=>decide (kv.1=k):=by
 unfold KV at r
 induction r with
 |nil=>rfl
 |cons h t ih=>rw[ul5,ul5,ih,h.1]
theorem KV.repl{kvs:List (κ×V)}{vs:List (κ×fg)}(r:KV kvs vs)(k:κ){y:V}{u:fg}(ry:RelV y u) :
 KV (kvs.map λkv=>if kv.1=k then(kv.1,y) else kv) (vs.map λkv=>if kv.1=k then(kv.1,u) else kv):=by
 unfold KV at r⊢
 induction r with
 |nil=>exact .nil
 |@cons p q ps qs h t ih=>
   rw[ul3,ul3];refine .cons ?_ ih;clear 5 h h1 h2
   by_cases e:p.1=k
   .rw[hX e,hX (h1.symm.trans e)];exact⟨h1,ry⟩
   .rw[ia e,ia (λz=>e (h1.trans z))];exact⟨h1,h2⟩
theorem KV.put{kvs:List (κ×V)}{vs:List (κ×fg)}(r:KV kvs vs)(k:κ){y:V}{u:fg}(ry:RelV y u):KV (D0 kvs k y) (stored vs k u):=by
 unfold D0 stored;rw[r.any k]
 by_cases e:(vs.any λkv=>decide (kv.1=k))=true
 .rw[hX e,hX e];exact r.repl k ry
 .rw[ia e,ia e];exact Paired.snoc r ⟨rfl,ry⟩
theorem KV.length{kvs:List (κ×V)}{vs:List (κ×fg)}(r:KV kvs vs):kvs.length=vs.length:=Paired.length r
end
theorem P3{k:Key}{u:fg}(r:RelV (kV k) u):(CQ P w).is k u=true:=by
 cases k with
 |inl i=>clear 5((show ∃t,u=Value.int i t from r))t e;subst e;exact N7 P w i t
 |inr x=>clear 5((show ∃t,u=Value.str x t from r))t e;subst e;exact N8 P w x t
abbrev KT(H:Hp):List (List Key×V)->List (List Key×fh×fg)->Prop:=Paired λp q=>p.1=q.1/\H q.2.1=some (.tup (p.1.map kV))/\RelV p.2 q.2.2
variable{kvs:List (Key×V)}
section
variable{P:fk}{w:fq}{H:Hp}{h:Heap}{a:fh}
theorem aB{u:HO}(ok:HOk P w H h)(e:Rd H a u):ObjOk P w H h a u:=e.ok ok
theorem Z0(ok:HOk P w H h)(e:Rd H a (.dK kvs)):kvs.length<=sizeLine/\(a==sysModules)=false/\∃vs,KV kvs vs/\h.DictOf (CQ P w) a vs:=
 show ObjOk P w H h a (.dK kvs) from aB ok e
theorem PK(ok:HOk P w H h)(e:H a=some (.dK kvs)):kvs.length<=sizeLine/\(a==sysModules)=false/\∃vs,KV kvs vs/\h.DictOf (CQ P w) a vs:=Z0 ok (.inl e)
end
def DGet(H:Hp)(a:fh)(y:V)(r:Option V):Prop:=
 (∃kvs k,Rd H a (.dK kvs)/\y=kV k/\r=Fy kvs k)\/∃kvs k b,Rd H a (.dT kvs)/\y=.ref b/\H b=some (.tup (k.map kV))/\r=Fy kvs k
def d8(H:Hp)(a:fh)(y v:V)(H':Hp):Prop:=
 (∃kvs k,H a=some (.dK kvs)/\y=kV k/\kvs.length<sizeLine/\H'=upd H a (.dK (D0 kvs k v)))\/
 ∃kvs k b,H a=some (.dT kvs)/\y=.ref b/\H b=some (.tup (k.map kV))/\kvs.length<sizeLine/\H'=upd H a (.dT (D0 kvs k v))
theorem DGet.k{H:Hp}{a:fh}{k:Key}(e:H a=some (.dK kvs)):DGet H a (kV k) (Fy kvs k):=.inl ⟨kvs,k,.inl e,rfl,rfl⟩
section
variable{X:Cx}{ff:List (fh×Obj)}{σ:St}{H:Hp}{s:fj}{a:fh}{y v:V}{u r:fg}{o:Option V}{A:Around}{E:fg->fj->Prop}
theorem Inv.big(I:Inv X ff σ H s):sysModules<s.heap.objs.size:=by
 have h:mainGlobals<s.heap.objs.size:=(I.mod.glob.keeps I.bk).lt;exact Nat.lt_trans (by decide) h
theorem On{h':Heap}{t':Nat}{ob:HO}(I:Inv X ff σ H s)(mu:Mut (H a))(hs:Heap.SameBut a s.heap h')(he:∃q,h'.get? a=some q)(new:ObjOk X.prog X.w (upd H a ob) h' a ob) :
 Inv X ff σ (upd H a ob) {s with heap:=h',toks:=t'}:=
 I.write (x:=a) (e:=a) mu (.inl rfl) (λb q hb z=>(hs.2 b hb).trans z) he new
theorem QW{H':Hp}{h':Heap}{vs:List (Key×fg)}(z:kvs.length<=sizeLine)(hd:(a==sysModules)=false)(rel:KV kvs vs)(dd:h'.DictOf (CQ P w) a vs) :
 ObjOk P w H' h' a (.dK kvs):=⟨z,hd,vs,rel,dd⟩
end
section
variable{X:Cx}{ff:List (fh×Obj)}{σ:St}{H:Hp}{s:fj}{a:fh}{kvs:List (Key×V)}{k:Key}{u:fg}{A:Around}{E:fg->fj->Prop}
end
section
variable{X:Cx}{o i e value:Expr}{pos pos' tpos:Pos}{td ty tv:TE}
end
theorem To{H:Hp}(h:Heap)(hb:sysModules<h.objs.size):ObjOk P w H (h.push {cls:=.type "dict",data:=.dict #[]}) h.objs.size (.dK []):=
 ⟨un7 _,gp.mpr (Ne.symm (um4 hb)),[],.nil,Heap.DictOf.new h⟩
section
variable{X:Cx}{pos:Pos}
end
def Kw:List (TE×TE)->St->Hp->(List (V×V)->Hp->Prop)->Prop
 |[],_,H,Q=>Q [] H
 |(tk,tv)::r,σ,H,Q=>tk σ H λx H1=>tv σ H1 λy H2=>Kw r σ H2 λps H3=>Q ((x,y)::ps) H3
abbrev VV:List (V×V)->List (fg×fg)->Prop:=Paired λp q=>RelV p.1 q.1/\RelV p.2 q.2
def PPs(X:Cx)(pos:Pos)(keys:List (Option Expr))(values:List Expr)(trs:List (TE×TE)):Prop:=
 ∀(ff:List (fh×Obj)) (s:fj) (σ:St) (H:Hp) (Q:List (V×V)->Hp->Prop),Inv X ff σ H s->Kw trs σ H Q->
  wpAny (model X.prog X.w) X.A (evalPairs (pairTrees keys values X.env pos)) (λvs s'=>∃ps H',Inv X ff σ H' s'/\VV ps vs/\Q ps H') X.xe s
theorem WH{pos:Pos}:PPs X pos [] [] []:=λff s σ H Q I h=>pairTrees_nil_walk ⟨[],H,I,.nil,h⟩
theorem Ui{pos:Pos}{k v:Expr}{ks:List (Option Expr)}{vs:List Expr}{tk tv:TE}{trs:List (TE×TE)}(hk:PE X k tk)(hv:PE X v tv)(hr:PPs X pos ks vs trs) :
 PPs X pos (some k::ks) (v::vs) ((tk,tv)::trs):=λff s σ H Q I h=>
 pairTrees_cons_walk (thn (hk ff s σ H _ I h) λu s1 ⟨x,H1,I1,rx,q1⟩=>thn (hv ff s1 σ H1 _ I1 q1) λw2 s2 ⟨y,H2,I2,ry,q2⟩=>
  thn (hr ff s2 σ H2 _ I2 q2) λws s3 ⟨ps,H3,I3,rel,q3⟩=>⟨(x,y)::ps,H3,I3,.cons ⟨rx,ry⟩ rel,q3⟩)
def F6(kvs more:List (Key×V)):List (Key×V):=more.foldl (λacc kv=>D0 acc kv.1 kv.2) kvs
theorem KV.merge:∀{more:List (Key×V)}{rs:List (Key×fg)}{kvs:List (Key×V)}{vs:List (Key×fg)},KV more rs->KV kvs vs->KV (F6 kvs more) (merged vs rs):=by
 intro more rs kvs vs r;unfold KV at r
 induction r generalizing kvs vs with
 |nil=>intro q;exact q
 |@cons p q ps qs h t ih=>
   intro r0;have e:KV (D0 kvs p.1 p.2) (stored vs q.1 q.2):=by
    have:=r0.put p.1 h.2;rw[<-h.1];exact this
   exact ih e
theorem HD:∀(more kvs:List (Key×V)),(F6 kvs more).length<=kvs.length+more.length
 |[],kvs=>by show kvs.length<=kvs.length+0;lia
 |p::r,kvs=>by
   have h1:=HD r (D0 kvs p.1 p.2);have h2:=Jj kvs p.1 p.2;show(F6 (D0 kvs p.1 p.2) r).length<=_;rw[uh1];lia
theorem JY{P:fk}{w:fq}:∀{kvs:List (Key×V)}{ws:List (fg×fg)},VV (kvs.map λkv=>(kV kv.1,kv.2)) ws->∃rs,Carries (CQ P w) ws rs/\KV kvs rs
 |[],_,r=>by rw[um8] at r;cases r;exact⟨[],True.intro,.nil⟩
 |p::kvs,_,r=>by
   rw[ul3] at r
   cases r with
   |@cons a b as bs h t=>
     clear 5(JY (P:=P) (w:=w) t)rs c q;clear 5 b b1 b2;exact⟨(p.1,b2)::rs,⟨P3 h.1,rfl,c⟩,.cons ⟨rfl,h.2⟩ q⟩
def aJ(trs:List (TE×TE)):TE:=λσ H Q=>∀p,H p=none->Kw trs σ (upd H p (.dK [])) λps H2=>H2 p=some (.dK [])/\∃kvs:List (Key×V),ps=kvs.map (λkv=>(kV kv.1,kv.2))/\kvs.length<=15/\Q (.ref p) (upd H2 p (.dK (F6 [] kvs)))
theorem Wx{pos:Pos}{keys:List (Option Expr)}{values:List Expr}{trs:List (TE×TE)}(h:PPs X pos keys values trs)(hall:keys.all (·.isSome)=true)(hl:keys.length=values.length)(h0:keys≠[])
 (h15:keys.length<=15):PE X (.Dict keys values pos) (aJ trs):=by
 intro ff s σ H Q I q;have hn:=I.hok.fresh (un6 s.heap.objs.size);have I1:=I.laid (a:=s.heap.objs.size) (o:=.dK []) (h':=s.heap.push {cls:=.type "dict",data:=.dict #[]}) (t':=s.toks) (λ_ _ q=>uc0 _ q) (un6 _) (To s.heap I.big);refine wpAny_Dict_walk (knd:=CQ X.prog X.w) hall hl h0 h15 (thn (h ff _ σ _ _ I1 (q _ hn)) λws s2 z9=>?_);clear 5 z9 ps H2 I2 rel e kvs ep lk q2;subst ep;clear 5(JY (P:=X.prog) (w:=X.w) rel)rs c rk;clear 5(PK I2.hok e)z hd vs0 r0 dd
 cases r0
 refine⟨rs,c,dd,λh' dd' hs=>⟨.ref s.heap.objs.size,_,?_,rfl,q2⟩⟩;have hz:(F6 [] kvs).length<=sizeLine:=by
  have h1:=HD kvs [];rw[uj7] at h1;rw[gR];lia
 have he:∃q,h'.get? s.heap.objs.size=some q:=let ⟨q,_,_,hq,_⟩:=dd';⟨q,hq⟩;exact On I2 (by rw[e];exact True.intro) hs he (QW hz hd (rk.merge .nil) dd')
theorem FU{env:Env}:∀(l:List (Str×NameKind)) (cs:List (Str×fh)),(∀x c,cs.lookup x=some c->env.cells.lookup x=some c)->(∀y∈l,y.2=.free->∃c,env.cells.lookup y.1=some c)->
 ∃cl,(forIn l cs λ(x:Str×NameKind) r=>(match x with|(name,kind)=>if (kind==NameKind.free)=true then do let c <-cellOf env name;pure (ForInStep.yield ((name,c)::r)) else pure (ForInStep.yield r):Sem (ForInStep (List (Str×fh)))))=pure cl/\
  (∀x c,cl.lookup x=some c->env.cells.lookup x=some c)/\(∀x c,cs.lookup x=some c->∃c',cl.lookup x=some c')/\∀y∈l,y.2=.free->∃c,cl.lookup y.1=some c
 |[],cs,h,_=>⟨cs,rfl,h,λ_ c e=>⟨c,e⟩,λ_ z=>nomatch z⟩
 |(n,k)::l,cs,h,hf=>by
   by_cases hk:k=.free
   .subst hk;clear 5(hf (n,.free) uf0 rfl)c hc;have hc':env.cells.lookup n=some c:=hc;have e:cellOf env n=pure c:=by unfold cellOf;rw[hc']
    obtain⟨cl,e1,e2,e3,e4⟩:=FU l ((n,c)::cs) (λx c' q=>by
     rw[uh6] at q
     by_cases hx:(x==n)=true
     .rw[hx] at q;cases q;rw[eq_of_beq hx];exact hc'
     .rw[ug4.mpr hx] at q;exact h x c' q) (λy hy=>hf y (ud5 _ hy))
    have self:((n,c)::cs).lookup n=some c:=by rw[uh6,ui5]
    refine⟨cl,?_,e2,λx c' q=>?_,λy hy hyf=>?_⟩
    .rw[List.forIn_cons];simp only[ui5,hU,e];exact e1
    .by_cases hx:(x==n)=true
     .rw[eq_of_beq hx];exact e3 n c self
     .exact e3 x c' (by rw[uh6,ug4.mpr hx];exact q)
    .rcases ul2.mp hy with z|z
     .subst z;exact e3 n c self
     .exact e4 y z hyf
   .have hb:(k==NameKind.free)=false:=by simpa using hk
    clear 5(FU l cs h (λy hy=>hf y (ud5 _ hy)))cl e1 e2 e3 e4;refine⟨cl,?_,e2,e3,λy hy hyf=>?_⟩
    .rw[List.forIn_cons];simp only[hb,uf4,gZ];exact e1
    .rcases ul2.mp hy with z|z
     .subst z;exact absurd hyf hk
     .exact e4 y z hyf
theorem J2{scope:Scope}{env:Env}(h:∀y∈scope.names,y.2=.free->∃c,env.cells.lookup y.1=some c) :
 ∃cl,closureFor scope env=pure cl/\(∀x c,cl.lookup x=some c->env.cells.lookup x=some c)/\∀y∈scope.names,y.2=.free->∃c,cl.lookup y.1=some c:=by
 obtain⟨cl,e1,e2,_,e4⟩:=FU (env:=env) scope.names [] (λ_ _ q=>nomatch q) h;refine⟨cl,?_,e2,e4⟩;simp only[closureFor]
 first|(rw[e1];rfl)|(simp only[e1];rfl)|(trace_state;exact e1)
theorem MP{prog:fk}{A:Around}{R:Result->fj->Prop}{s:fj}{elt target iter:Expr}{ifs:List Expr}{scope:Scope}{pos:Pos}{it acc:fg}{env:Env}(I:Nat->fj->Prop)
 (turn:∀n s,I n s->wpAny (model prog w) A (pyNext it) (λr s₁=>match r with
   |none=>R (.ok .next) s₁
   | some v=>wpAny (model prog w) A (letOwnedTupleGo target it v) (λ_ s₁'=>wpAny (model prog w) A (assign target env v) (λ_ s₂=>
      wpAny (model prog w) A (forIn ifs true λc r=>if r=true then do let ok <-isTrue c env (eval c env);pure (ForInStep.yield ok) else pure (ForInStep.yield r)) (λok s₃=>
       if ok=true then wpAny (model prog w) A (eval elt env) (λx s₄=>
        wpAny (model prog w) A (call (.builtin "list.append") [acc,x]) (λ_ s₅=>∃m,m<n/\I m s₅) (λ_ _=>False) s₄) (λ_ _=>False) s₃
       else ∃m,m<n/\I m s₃) (λ_ _=>False) s₂) (λ_ _=>False) s₁') (λ_ _=>False) s₁) (λ_ _=>False) s)
 (n:Nat) (h:I n s) :
 codeAny (model prog w) A (.compLoop (.ListComp elt [⟨target,iter,ifs,0⟩] scope pos) 0 it acc env) R s:=by
 refine codeAny_loop rfl I (λn s hI=>?_) n h;show wpAny _ A ((compTurn (.ListComp elt [⟨target,iter,ifs,0⟩] scope pos) 0 it acc env).onRaise (λx=>do noteFrame x env;theTreesLotGoes x)) _ _ s;refine wpAny_noted ?_;rw[compTurn_list];refine uo1 (gI (uo1 (uo3 (turn n s hI) (λr s₁ h₁=>?_) λ_ _ h'=>h'.elim)))
 cases r with
 |none=>exact uo2 h₁
 |some v=>
   refine uo1 (uo3 h₁ (λ_ s₁' h₁'=>?_) λ_ _ h'=>h'.elim);refine uo1 (uo3 h₁' (λ_ s₂ h₂=>uo1 (uo3 h₂ (λok s₃ h₃=>?_) λ_ _ h'=>h'.elim)) λ_ _ h'=>h'.elim)
   cases ok with
   |false=>exact uo2 ⟨rfl,h₃⟩
   |true=>
     exact uo1 (uo1 (uo3 h₃ (λx s₄ h₄=>uo1 (uo3 h₄ (λ_ s₅ h₅=>uo2 (uo2 ⟨rfl,h₅⟩)) λ_ _ h'=>h'.elim)) λ_ _ h'=>h'.elim))
end
noncomputable def A0(X:Cx)(N':List Str)(scope:Scope)(cl:List (Str×fh))(C:fh)(s2:fj)(H2:Hp)(fp:List fh):Cx where
 prog:=X.prog
 w:=X.w
 K:=X.K
 mg:=X.mg
 base:=X.base
 A:=X.A
 N:=N'
 s₀:=s2
 H₀:=H2
 env:=compEnvC scope cl C X.env
 outer:=X.stack
 stack:=X.stack
 ex:=fp
 fn:=λx=>scope.names.lookup x==some .cell
 calm:=X.calm
 pn:=[]
 xe:=λ_ _=>False
theorem Jk(h:Str->NameKind->NameKind)(x:Str):∀l:List (Str×NameKind),(l.map λp=>(p.1,h p.1 p.2)).lookup x=(l.lookup x).map (h x)
 |[]=>rfl
 |(n,k)::l=>by
   show List.lookup x ((n,h n k)::_)=_;rw[uh6,uh6]
   by_cases hx:(x==n)=true
   .rw[hx,eq_of_beq hx];rfl
   .rw[ug4.mpr hx];exact Jk h x l
theorem GP(scope:Scope)(env:Env)(x:Str):(relabel scope env).names.lookup x=(scope.names.lookup x).map λk=>if (k==.free&&env.scope.kind==.function&&env.kindOf x==some .cell)=true then .cell else k:=by
 rw[<-Jk (λn k=>if (k==NameKind.free&&env.scope.kind==.function&&env.kindOf n==some .cell)=true then .cell else k) x scope.names];unfold relabel;dsimp only
 congr 1
 apply ue6;intro p _;clear 5 p n k;dsimp only
 split<;>rfl
theorem B3{x:Str}{k:NameKind}:∀{l:List (Str×NameKind)},l.lookup x=some k->(x,k)∈l
 |(n,k')::l,h=>by
   rw[uh6] at h
   by_cases hx:(x==n)=true
   .rw[hx] at h;cases h;rw[eq_of_beq hx];exact uf0
   .rw[ug4.mpr hx] at h;exact ud5 _ (B3 h)
theorem Ny{scope:Scope}{env:Env}{x:Str}(h:(relabel scope env).names.lookup x=some .cell\/(relabel scope env).names.lookup x=some .free):scope.names.lookup x=some .free\/scope.names.lookup x=some .cell:=by
 rw[GP] at h
 cases e:scope.names.lookup x with
 |none=>rw[e] at h;rcases h with h|h<;>cases h
 |some k=>
   by_cases hk:k=.free
   .rw[hk];exact .inl rfl
   .have hb:(k==NameKind.free)=false:=by simpa using hk
    rw[e] at h;simp only[uj8,hb,uk5,uf4,gZ] at h;rcases h with h|h
    .cases h;exact .inr rfl
    .cases h;exact absurd rfl hk
def PIf(X:Cx)(ifs:List Expr)(t:TT):Prop:=
 ∀(ff:List (fh×Obj)) (s:fj) (σ:St) (H:Hp) (Q:Bool->Hp->Prop),Inv X ff σ H s->t σ H Q->
  wpAny (model X.prog X.w) X.A (forIn ifs true λc r=>if r=true then do let ok <-isTrue c X.env (eval c X.env);pure (ForInStep.yield ok) else pure (ForInStep.yield r)) (TP X ff σ Q) X.xe s
def aP:TT:=λ_ H Q=>Q true H
theorem WC{X:Cx}:PIf X [] aP:=λ_ _ _ H _ I h=>wpAny_tests_nil ⟨H,I,h⟩
theorem WD{X:Cx}{c:Expr}{t:TT}(h:PT X c t):PIf X [c] t:=λff s σ H Q I q=>wpAny_tests_one (h ff s σ H Q I q)
def SC(J:It)(g:TG)(tt:TT)(te:TE)(σ₀:St)(H1:Hp)(Fin:List V->Hp->Prop):Prop:=
 ∃W:Nat->Nat->List V->St->Hp->Prop,(∃m,W 0 m [] σ₀ H1)/\∀i m acc σ' H',W i m acc σ' H'->acc.length<=sizeLine/\
  ((J.stop i H'/\Fin acc H')\/
    (J.go i H'/\∀x H2,J.yld i H' x H2->g x σ' H2 λσ3 H3=>tt σ3 H3 λb H4=>if b=true then te σ3 H4 λv H5=>∃m',m'<m/\W (i+1) m' (acc++[v]) σ3 H5 else ∃m',m'<m/\W (i+1) m' acc σ3 H4))
def Kv(wi:TI)(g:TG)(tt:TT)(te:TE)(σf:St->St):TE:=λσ H Q=>wi σ H λJ H1=>SC J g tt te (σf σ) H1 λacc H'=>∀p,H' p=none->acc.length<=sizeLine->Q (.ref p) (upd H' p (.lst acc))
section
variable{cl:List (Str×fh)}
section
variable{M:Model}{A:Around}{E:fg->fj->Prop}{s:fj}
theorem Wd{scope:Scope}{globals:fh}{qual:Str}{env:Env}{Q:Env->fj->Prop}
 (hQ:Q (newEnv scope s.heap.objs.size globals (cellsFrom (s.heap.objs.size+1) scope.names cl) qual none .none (some env) builtinsNs) {s with heap:=pushCells (s.heap.push {cls:=.type "dict",data:=.dict #[]}) scope.names}) :
 wpAny M A (newFunctionEnv scope globals cl [] qual none .none (some env)) Q E s:=by
 simp only[newFunctionEnv,Option.isSome_some,hU];refine uo1 (wpAny_alloc ?_);refine uo1 (wpAny_layCells _ (λname kind cells=>by cases hkc:kind==NameKind.cell<;>simp[hkc]) _ _ _ _ ?_);rw[show({s with heap:=s.heap.push {cls:=.type "dict",data:=.dict #[]} }:fj).heap.objs.size=s.heap.objs.size+1 from uk6 ..];exact uo1 (uo2 (uo2 hQ))
end
structure CmpOk(X:Cx)(scope:Scope)(N':List Str)(σf:St->St):Prop where
 kind:scope.kind=.function
 cf:∃k:Option Str,(∀n cl,cellsFrom n scope.names cl=match k with|none=>cl|some x=>(x,n)::cl)/\(∀y,scope.names.lookup y=some .cell->k=some y)/\(∀y,k=some y->scope.names.lookup y=some .cell)
 loc:∀y∈scope.names,y.2=.local->scope.names.lookup y.1=some .local
 free:∀y∈scope.names,y.2=.free->X.env.kindOf y.1=some .cell\/X.env.kindOf y.1=some .free
 len:∀σ:St,σ.length=X.N.length->(σf σ).length=N'.length
 vals:∀(σ:St) (j:Nat) (x:Str) (v:V),N'[j]?=some x->(σf σ)[j]?=some (some v)->∃i:Nat,X.N[i]?=some x/\σ[i]?=some (some v)/\scope.names.lookup x=some .free
variable{ff:List (fh×Obj)}{σ:St}{H2:Hp}{s2:fj}{fp:List fh}
section
variable{X:Cx}{tg elt iter:Expr}{ifs:List Expr}{scope:Scope}{pos:Pos}{N':List Str}{wi:TI}{g:TG}{tt:TT}{te:TE}{σf:St->St}
theorem XS{C:fh}(O:CmpOk X scope N' σf)(I2:Inv X ff σ H2 s2)(f2:∀b∈fp,FpOk X ff H2 b)(hC:s2.heap.objs.size<=C)
 (hlt:∀b∈fp,b<s2.heap.objs.size) (e3:∀x c,cl.lookup x=some c->X.env.cells.lookup x=some c\/s2.heap.objs.size<=c) (ei:∀x y c,cl.lookup x=some c->cl.lookup y=some c->x=y) (e5:∀x c,scope.names.lookup x=some .cell->cl.lookup x=some c->s2.heap.objs.size<=c) (e4:∀y,scope.names.lookup y=some .free\/scope.names.lookup y=some .cell->∃c,cl.lookup y=some c):(A0 X N' scope cl C s2 H2 fp).Ok where
 mod:=I2.ok.mod
 kind:=O.kind
 glob:=I2.ok.glob
 blt:=I2.ok.blt
 above:=hC
 inj:=ei
 has:=λx h=>e4 x (Ny (env:=X.env) (x:=x) h)
 cab:=λx c h e=>e5 x c (by simpa[A0] using h) e
 hd:=I2.ok.hd
 frames:=I2.ok.frames
 stk:=.inl rfl
 exf:=λb hb=>⟨um4 (ue9 (hlt b hb) hC),λx c e=>(e3 x c e).elim (λz=>(f2 b hb).2.2.2.2.1 x c z) λz=>um6 (ue9 (hlt b hb) z)⟩
 bs:=I2.bs
 bsz:=um5 I2.ok.bsz I2.sz
 noex:=λb o e hb=>by
  rcases (f2 b hb).2.2.2.1 with z|z
  .exact I2.ok.noex b o e z
  .exact absurd (ue9 (um3 (I2.ok.bs b o e).1) z) (ul1 _)
 exfs:=λb hb z=>by
  rcases ul2.mp (I2.stkSub b z) with q|q
  .exact(f2 b hb).2.1 q
  .exact(f2 b hb).2.2.1 q
 funs:=I2.stack
 frf:=I2.stkFree
theorem Zv(I2:Inv X ff σ H2 s2){a:fh}(h:s2.heap.objs.size<=a):a∉frs X.stack:=λhb=>by
 rcases ul2.mp (I2.stkSub a hb) with q|q
 .exact absurd (ue9 I2.lt h) (by rw[q];exact ul1 _)
 .exact I2.nofs h q
theorem MA{it:fh}{tn:Nat->Heap->Prop}{J:It}{Fin:List V->Hp->Prop}{RR:fg->fh->Result->fj->Prop}{E:fg->fj->Prop}(O:CmpOk X scope N' σf)(hc:X.calm=true)
 (I2:Inv X ff σ H2 s2) (T:Turn X.prog X.w X.K tg J fp it tn) (st2:tn 0 s2.heap) (f2:∀b∈fp,FpOk X ff H2 b)
 (e2:∀x c,cl.lookup x=some c->X.env.cells.lookup x=some c) (e4:∀y∈scope.names,y.2=.free->∃c,cl.lookup y.1=some c)
 (hg:∀cl C,PG (A0 X N' scope cl C s2 H2 fp) tg g) (ht:∀cl C,PIf (A0 X N' scope cl C s2 H2 fp) ifs tt) (he:∀cl C,PE (A0 X N' scope cl C s2 H2 fp) elt te)
 (B:SC J g tt te (σf σ) H2 Fin)
 (fin:∀cl C s' σ' H' acc m,s2.heap.objs.size<=C->C≠s2.heap.objs.size->Inv (A0 X N' scope cl C s2 H2 fp) [] σ' H' s'->H' s2.heap.objs.size=none->acc.length<=sizeLine->(∃its n,Vals acc its/\s'.heap.get? s2.heap.objs.size=some { cls:=.type "list",data:=.seq its.toArray n })->Fin acc H'->s'.heap.Ns C m->
   RR (.ref s2.heap.objs.size) C (.ok .next) s') :
 wpAny (model X.prog X.w) X.A (newList []) (λacc s₃=>wpAny (model X.prog X.w) X.A (newFunctionEnv scope X.env.globals cl [] X.env.qual none .none (some X.env)) (λcenv s₄=>
  codeAny (model X.prog X.w) X.A (.compStart (.ListComp elt [⟨tg,iter,ifs,0⟩] scope pos) 0 (.ref it) acc {cenv with scope:=relabel scope X.env}) (RR acc cenv.locals) s₄) E s₃) E s2:=by
 refine gz (Wd ?_);dsimp only;generalize hH2:s2.heap.push {cls:=.type "list",dict:=none,data:=.seq ([]:List fg).toArray}=HP;have hC:HP.objs.size=s2.heap.objs.size+1:=by rw[<-hH2,uk6]
 generalize hDD:s2.heap.objs.size=DD at *;generalize hCC:HP.objs.size=CC at *;clear 5 O.cf kc hcf hk1 hk2;obtain⟨h₁,hh₁⟩:∃h₁,h₁=pushCells (HP.push {cls:=.type "dict",data:=.dict #[]}) scope.names:=⟨_,rfl⟩;obtain⟨cs,hcs⟩:∃cs,cs=cellsFrom (CC+1) scope.names cl:=⟨_,rfl⟩;rw[<-hh₁,<-hcs];have hkp:∀b o,HP.get? b=some o->h₁.get? b=some o:=λb o e=>by rw[hh₁];exact pushCells_keeps _ _ b o (uc0 _ e)
 have hns₁:h₁.Ns CC (λ_=>none):=by rw[hh₁,<-hCC];exact(Heap.Ns.new HP (.type "dict")).keeps (pushCells_keeps _ _)
 have hcn:∀k,kc=some k->h₁.IsCell (CC+1) none:=λk hk=>by
  have ok:=cellsFrom_ok scope.names (HP.push {cls:=.type "dict",data:=.dict #[]}) (CC+1) [] ⟨λ_ _ hm=>(nomatch hm),List.Pairwise.nil⟩ (by rw[uk6,hCC];exact un6 _);rw[uk6,hCC,hcf,hk,<-hh₁] at ok;exact(ok.empty k (CC+1) uf0).1
 have hDC:DD≠CC:=by rw[hC];exact um4 (uh2 _)
 have hCle:s2.heap.objs.size<=CC:=by rw[hC,hDD];exact un8 _
 have hlt:∀b∈fp,b<s2.heap.objs.size:=λb hb=>by obtain⟨o,e,_⟩:=T.obj _ _ st2 b hb;exact um3 e
 have hlt':∀b∈fp,b<DD:=λb hb=>by rw[<-hDD];exact hlt b hb
 have below:∀b,b<DD->b≠CC/\b≠DD:=λb hb=>⟨by rw[hC];exact um4 (Nat.lt_succ_of_lt hb),um4 hb⟩;have old:∀b o,s2.heap.get? b=some o->h₁.get? b=some o:=λb o e=>hkp b o (hH2 ▸ uc0 _ e);have hacc:h₁.get? DD=some {cls:=.type "list",data:=.seq ([]:List fg).toArray}:=by
  refine hkp _ _ ?_;rw[<-hH2,<-hDD];exact ue3 _ rfl
 have lt2:∀x c,X.env.cells.lookup x=some c->c<s2.heap.objs.size:=λx c e=>by clear 5(I2.cell x c e)v q;exact q.lt
 have hCn:s2.heap.objs.size<=CC+1:=Nat.le_succ_of_le hCle;have cs0:∀x c,cs.lookup x=some c->(kc=some x/\c=CC+1)\/(kc≠some x/\cl.lookup x=some c):=λx c e=>by
  rw[hcs,hcf] at e
  cases kc with
  |none=>exact .inr ⟨by simp,e⟩
  |some k=>
    dsimp only at e;rw[uh6] at e
    by_cases q:(x==k)=true
    .rw[q] at e;cases e;exact .inl ⟨by rw[eq_of_beq q],rfl⟩
    .rw[ug4.mpr q] at e;exact .inr ⟨λz=>q (by cases z;simp),e⟩
 have cs1:∀x c,cl.lookup x=some c->kc≠some x->cs.lookup x=some c:=λx c e n=>by
  rw[hcs,hcf]
  cases kc with
  |none=>exact e
  |some k=>
    dsimp only;rw[uh6,show(x==k)=false from by simpa using λz=>n (by rw[z])];exact e
 have cs2:∀k,kc=some k->cs.lookup k=some (CC+1):=λk hk=>by
  rw[hcs,hcf,hk];dsimp only;rw[uh6,ui5]
 have fn0:∀x,scope.names.lookup x=some .free->kc≠some x:=λx h z=>by rw[hk2 x z] at h;cases h
 have ok:=XS (cl:=cs) (C:=CC) O I2 f2 hCle hlt (λx c e=>(cs0 x c e).elim (λz=>.inr (by rw[z.2];exact hCn)) λz=>.inl (e2 x c z.2))
  (λx y c h1 h2=>by
    rcases cs0 x c h1 with z|z<;>rcases cs0 y c h2 with z'|z'
    .have:=z.1.symm.trans z'.1;cases this;rfl
    .have:=lt2 y c (e2 y c z'.2);rw[z.2] at this;exact absurd (ue9 this hCn) (ul1 _)
    .have:=lt2 x c (e2 x c z.2);rw[z'.2] at this;exact absurd (ue9 this hCn) (ul1 _)
    .exact I2.ok.inj x y c (e2 x c z.2) (e2 y c z'.2))
  (λx c h e=>(cs0 x c e).elim (λz=>by rw[z.2];exact hCn) λz=>absurd (hk1 x h) z.1)
  (λy h=>h.elim (λz=>by clear 5(e4 _ (B3 z) rfl)c q;exact⟨c,cs1 y c q (fn0 y z)⟩) λz=>⟨_,cs2 y (hk1 y z)⟩)
 have hfs:DD∉frs X.stack:=Zv I2 (by rw[hDD];exact un6 _);obtain⟨W,⟨m0,w0⟩,turn⟩:=B
 let X':Cx:=A0 X N' scope cs CC s2 H2 fp
 have I0:Inv X' [] (σf σ) H2 {s2 with heap:=h₁ }:=by
  refine⟨ok,rfl,I2.bare,Un.kept old,⟨_,hns₁,λj x v q1 q2 q3=>?_⟩,λx c e=>?_,I2.hok.fresh hCle,λx c e=>(cs0 x c e).elim (λz=>by rw[z.2];exact I2.hok.fresh hCn) (λz=>I2.freeC x c (e2 x c z.2)),(λp hp=>nomatch hp),I2.hok.kept old,O.len σ I2.len⟩
  .clear 5(O.vals σ j x v q1 q2)i n1 n2 n3;obtain⟨m,_,hl⟩:=I2.loc;have hfr:=O.free _ (B3 n3) rfl;clear 5(hl i x v n1 n2 (.inr hfr))u r l;refine⟨u,r,?_⟩;rcases l with⟨k,_⟩|⟨_,c,ec,hcell⟩
   .rcases hfr with z|z<;>(have z':=k.symm.trans z;cases z')
   .clear 5(e4 _ (B3 n3) rfl)c' ec';have z:=e2 _ _ ec';have ez:X.env.cells.lookup x=some c':=z;rw[ec] at ez
    cases ez
    refine .inr ⟨?_,c,cs1 x c ec' (fn0 x n3),?_⟩
    .show(relabel scope X.env).names.lookup x=some .cell\/(relabel scope X.env).names.lookup x=some .free;rw[GP,n3];simp only[uj8]
     split
     .exact .inl rfl
     .exact .inr rfl
    .clear 5 hcell o ho hd;exact⟨o,old _ _ ho,hd⟩
  .rcases cs0 x c e with z|z
   .rw[z.2];exact⟨none,hcn x z.1⟩
   .clear 5(I2.cell x c (e2 x c z.2))v o ho hd;exact⟨v,o,old _ _ ho,hd⟩
 have loop:∀s₃:fj,s₃ = {s2 with heap:=h₁ }->
  codeAny (model X.prog X.w) X.A (.compLoop (.ListComp elt [⟨tg,iter,ifs,0⟩] scope pos) 0 (.ref it) (.ref DD) (compEnvC scope cs CC X.env)) (RR (.ref DD) CC) s₃:=by
  rintro s₃ rfl;refine MP (λn s'=>∃i acc its nn σ' H',Inv X' [] σ' H' s'/\tn i s'.heap/\(∀b∈fp,H' b=none)/\Vals acc its/\s'.heap.get? DD=some {cls:=.type "list",data:=.seq its.toArray nn}/\H' DD=none/\W i n acc σ' H') ?_ m0
   ⟨0,[],[],0,σf σ,H2,I0,T.keep _ _ _ st2 (λb _ o e=>old b o e),λb hb=>(f2 b hb).1,.nil,hacc,I2.hok.fresh (by rw[hDD];exact un6 _),w0⟩
  rintro n s' ⟨i,acc,its,nn,σ3,H3,I3,st3,fr3,hv,hD,hDn,w3⟩;have I3p:Inv X' [(DD,({cls:=.type "list",data:=.seq its.toArray nn}:Obj))] σ3 H3 s':=I3.pins_of λp hp=>by
   have e:p=(DD,({cls:=.type "list",data:=.seq its.toArray nn}:Obj)):=by simpa using hp
   subst e;exact⟨hD,hDn,hDC,hfs,λv z=>nomatch z⟩
  have stat:∀{pins':List (fh×Obj)}{H':Hp},(∀p∈pins',p.1=DD)->(∀b∈fp,H' b=none)->∀b∈fp,FpOk X' pins' H' b:=λ{pins' H'} hp hn b hb=>
   ⟨hn b hb,(ok.exf b hb).1,ok.exfs b hb,.inl hb,(ok.exf b hb).2,λp hp' z=>by
    have e:p.1=DD:=hp p (by simpa[X',A0] using hp');exact absurd (hlt' b hb) (by rw[<-z,e];exact ul1 _)⟩
  have one:∀p∈[(DD,({cls:=.type "list",data:=.seq its.toArray nn}:Obj))],p.1=DD:=λp hp=>by
   have e:p=(DD,({cls:=.type "list",data:=.seq its.toArray nn}:Obj)):=by simpa using hp
   rw[e]
  clear 5(turn i n acc σ3 H3 w3)hz tr;rcases tr with⟨stop,qf⟩|⟨go,step⟩
  .refine thn (T.done X' rfl rfl rfl hc i _ s' σ3 H3 (λ_ _=>False) I3p (stat one fr3) st3 stop) λr s4 z9=>?_;clear 5 z9 hr I4;subst hr;obtain⟨m4,hm4,_⟩:=I4.loc;have pD:=(I4.pin (DD,({cls:=.type "list",data:=.seq its.toArray nn}:Obj)) (by simp[X',A0])).1;have I4':Inv X' [] σ3 H3 s4:=I4.pins_of λp hp=>nomatch hp;exact fin cs CC s4 σ3 H3 acc m4 (by rw[hDD] at hCle;exact hCle) (Ne.symm hDC) I4' hDn hz ⟨its,nn,hv,pD⟩ qf hm4
  .refine thn (T.item X' rfl rfl rfl hc i _ s' σ3 H3 (λ_ _=>False) I3p (stat one fr3) st3 go) λr s4 z9=>?_;clear 5 z9 u hr h4;subst hr;refine thn h4 λ_ s5 z9=>?_;clear 5 z9 x H5 I5 r5 y5 st5 fr5;have I5':=I5.pinned (stat one fr5) (T.obj _ _ st5);refine thn (hg cs CC _ s5 σ3 H5 x u _ I5' r5 (step x H5 y5)) λ_ s6 z9=>?_;clear 5 z9 σ6 H6 I6 q6;refine thn (ht cs CC _ s6 σ6 H6 _ I6 q6) λb s7 z9=>?_;clear 5 z9 H7 I7 q7;have back:∀{H8:Hp}{s8:fj},Inv X' ([(DD,({cls:=.type "list",data:=.seq its.toArray nn}:Obj))]++Ir fp s5.heap) σ6 H8 s8->
    s8.heap.get? DD=some {cls:=.type "list",data:=.seq its.toArray nn}/\H8 DD=none/\tn (i+1) s8.heap/\(∀b∈fp,H8 b=none)/\Inv X' [] σ6 H8 s8:=λ{H8 s8} I8=>by
    have p1:=I8.pin (DD,({cls:=.type "list",data:=.seq its.toArray nn}:Obj)) (by simp[X',A0]);refine⟨p1.1,p1.2.1,T.keep _ _ _ st5 λb hb o e=>(I8.pin (b,o) (uc6 _ (uc6 _ (FF hb e)))).1,λb hb=>?_,I8.pins_of λp hp=>nomatch hp⟩;obtain⟨o,e,_⟩:=T.obj _ _ st5 b hb;exact(I8.pin (b,o) (uc6 _ (uc6 _ (FF hb e)))).2.1
   cases b with
   |false=>
     rw[ia uf1] at q7⊢;clear 5 q7 m' hm w7;clear 5(back I7)a1 a2 a3 a4 a5;exact⟨m',hm,i+1,acc,its,nn,σ6,H7,a5,a3,a4,hv,a1,a2,w7⟩
   |true=>
     rw[hX rfl] at q7⊢;refine thn (he cs CC _ s7 σ6 H7 _ I7 q7) λy s8 z9=>?_;clear 5 z9 v8 H8 I8 r8 m' hm w8;clear 5(back I8)a1 a2 a3 a4 a5;have hsz:its.toArray.size<=sizeLine:=by
      have e:=hv.length;simpa[e] using hz
     refine wpAny_list_append_plain (hsz:=hsz) ⟨nn,a1⟩ λh9 hl9 hs9=>?_;clear 5 hl9 n9 e9;have e9':h9.get? DD=some {cls:=.type "list",data:=.seq (its++[y]).toArray n9}:=by simpa using e9
     refine⟨m',hm,i+1,acc++[v8],its++[y],n9,σ6,H8,a5.turned (t':=s8.toks) (h':=h9) (it:=DD) (λb o hb e=>hs9.extBut b o hb e) a2 hDC (.inr (show s2.heap.objs.size<=DD by rw[hDD];exact un6 _)) (λx' c e z=>?_) (λp hp=>nomatch hp),T.keep _ _ _ a3 λb hb o e=>hs9.extBut b o (um4 (hlt' b hb)) e,a4,hv.append (.cons r8 .nil),e9',a2,w8⟩;rcases cs0 x' c e with q|q
     .rw[q.2] at z;have z2:s2.heap.objs.size<=CC:=by rw[hDD];rw[hDD] at hCle;exact hCle
      rw[hDD,<-z] at z2;exact ul1 _ z2
     .have:=lt2 x' c (e2 x' c q.2);rw[hDD,z] at this;exact ul1 _ this
 exact codeAny_compStart_list (loop _ rfl) (T.self _ 0 _ _ _ (T.keep _ _ _ st2 λb _ o e=>old b o e) (loop _ rfl))
end
section
variable{X:Cx}{tg elt iter:Expr}{ifs:List Expr}{scope:Scope}{pos:Pos}{N':List Str}{wi:TI}{g:TG}{tt:TT}{te:TE}{σf:St->St}
theorem LC{σ':St}{H':Hp}{s':fj}{C:fh}{acc:List V}{its:List fg}{n:Nat}{h':Heap}(I2:Inv X ff σ H2 s2)(f2:∀b∈fp,FpOk X ff H2 b)
 (hC:s2.heap.objs.size<=C) (hCD:C≠s2.heap.objs.size) (I':Inv (A0 X N' scope cl C s2 H2 fp) [] σ' H' s') (hDn:H' s2.heap.objs.size=none) (hz:acc.length<=sizeLine) (hv:Vals acc its)
 (hD:s'.heap.get? s2.heap.objs.size=some {cls:=.type "list",data:=.seq its.toArray n}) (hs:Heap.SameBut C s'.heap h') :
 Inv X ff σ (upd H' s2.heap.objs.size (.lst acc)) {s' with heap:=h'}:=by
 have U:=I'.base;have lt:∀b o,s2.heap.get? b=some o->b≠C/\b≠s2.heap.objs.size:=λb o e=>⟨um4 (ue9 (um3 e) hC),um4 (um3 e)⟩;have neD:∀b u,H' b=some u->b≠s2.heap.objs.size:=λb u e=>AG e hDn;have neC:∀b u,H' b=some u->b≠C:=λb u e=>AG e I'.free;refine I2.call' (s':={s' with heap:=h'}) (ch:=fp) I'.os ⟨λb o e n hb hx=>?_,λb o e n hb hx=>?_,λb o e n hx=>?_,λb o e hx=>?_,λb xs e=>?_,λb o u e=>?_,λb ps e=>?_⟩ ?_ I'.bare λb hb=>⟨(f2 b hb).2.2.2.1,(f2 b hb).2.1,(f2 b hb).2.2.2.2.1,(f2 b hb).2.2.2.2.2⟩
 .exact hs.extBut b o (lt b o e).1 (U.keep b o e n hb hx)
 .clear 5(U.slot b o e n hb hx)sl q;exact⟨sl,hs.extBut b _ (lt b o e).1 q⟩
 .rw[Av (lt b o e).2];exact U.free b o e n hx
 .clear 5(U.there b o e hx)o' q;exact⟨o',hs.extBut b _ (lt b o e).1 q⟩
 .have q:=U.tups b xs e;rw[Av (neD b _ q)];exact q
 .have q:=U.frzs b o u e;rw[Av (neD b _ q)];exact q
 .clear 5(U.tbls b ps e)m q;exact⟨m,by rw[Av (neD b _ q)];exact q⟩
 .intro b u e
  by_cases hb:b=s2.heap.objs.size
  .subst hb;rw[AL] at e
   cases e
   exact⟨hz,its,n,hv,hs.extBut _ _ (Ne.symm hCD) hD⟩
  .rw[Av hb] at e;refine(I'.hok b u e).stay (λc v hc q=>hs.extBut c v ?_ q) (λc q=>by rw[Av (neD c _ q)];exact q) λc xs q=>by rw[Av (neD c _ q)];exact q
   rcases hc with z|z
   .rw[z];exact neC b u e
   .exact neC c _ z
theorem Lb(O:CmpOk X scope N' σf)(hc:X.calm=true)(hi:PI X tg iter wi)
 (hg:∀cl C s2 H2 fp,PG (A0 X N' scope cl C s2 H2 fp) tg g) (ht:∀cl C s2 H2 fp,PIf (A0 X N' scope cl C s2 H2 fp) ifs tt) (he:∀cl C s2 H2 fp,PE (A0 X N' scope cl C s2 H2 fp) elt te)
 (hs:∀x,foldedSetIterable iter X.env x=pure x:=by intro _;rfl):PE X (.ListComp elt [⟨tg,iter,ifs,0⟩] scope pos) (Kv wi g tt te σf):=by
 intro ff s σ H Q I h;obtain⟨cl,e1,e2,e4⟩:=J2 (scope:=scope) (env:=X.env) λy hy hf=>I.ok.has y.1 (O.free y hy hf);rw[eval_ListComp];refine wpAny_comprehension_free (use:=none) rfl hs e1 O.kind O.loc (thn (hi ff s σ H _ I h) λv s1 h1=>thn h1 λitv s2 h2=>?_);clear 5 h2 it fp tn J H2 rfl I2 T st2 f2 B;refine MA (RR:=λacc C=>compPost (model X.prog X.w) X.A X.xe none (EP X ff σ Q) acc C) O hc I2 T st2 f2 e2 e4 (λcl C=>hg cl C s2 H2 fp) (λcl C=>ht cl C s2 H2 fp) (λcl C=>he cl C s2 H2 fp) B ?_;intro cl' C s' σ' H' acc m hC hCD I' hDn hz hL fin hn;clear 5 hL its n hv hD;refine⟨m,hn,λh' hs'=>?_⟩;exact⟨.ref s2.heap.objs.size,upd H' _ (.lst acc),LC I2 f2 hC hCD I' hDn hz hv hD hs',rfl,fin _ hDn hz⟩
theorem Le{i:Nat}{y:Str}{py spos:Pos}(O:CmpOk X scope N' σf)(hc:X.calm=true)(hN:X.N.Nodup)(hiN:X.N[i]?=some y)(hx:X.env.scope.names.lookup y=some .local)(hi:PI X tg iter wi)
 (hg:∀cl C s2 H2 fp,PG (A0 X N' scope cl C s2 H2 fp) tg g) (ht:∀cl C s2 H2 fp,PIf (A0 X N' scope cl C s2 H2 fp) ifs tt) (he:∀cl C s2 H2 fp,PE (A0 X N' scope cl C s2 H2 fp) elt te)
 (hsw:swapsWith (.ListComp elt [⟨tg,iter,ifs,0⟩] scope pos) (some (.Name y py)) spos.line X.env=pure true:=by rfl)
 (hs:∀x,foldedSetIterable iter X.env x=pure x:=by intro _;rfl):PS X (.Assign [.Name y py] (.ListComp elt [⟨tg,iter,ifs,0⟩] scope pos) spos) (NQ (Kv wi g tt te σf) (Ka i)):=by
 intro ff s σ H D I h;obtain⟨cl,e1,e2,e4⟩:=J2 (scope:=scope) (env:=X.env) λy hy hf=>I.ok.has y.1 (O.free y hy hf);rw[exec_Assign_Name_used _ _ _ _ hsw];refine uo1 (gI (uo1 ?_));show wpAny _ X.A (do let _ <-comprehension (.ListComp elt [⟨tg,iter,ifs,0⟩] scope pos) scope X.env _ (newList []) false (eval iter X.env) (some (assign (.Name y py) X.env))) _ _ s;refine uo1 (thn (wpAny_comprehension_free (use:=some (assign (.Name y py) X.env)) (Q:=λ_ s'=>SP X ff D .next s') rfl hs e1 O.kind O.loc (thn (hi ff s σ H _ I h) λv s1 h1=>thn h1 λitv s2 h2=>?_)) (λ_ s' hq=>uo2 (uo2 hq)));clear 5 h2 it fp tn J H2 rfl I2 T st2 f2 B;refine MA (RR:=λacc C=>compPost (model X.prog X.w) X.A X.xe (some (assign (.Name y py) X.env)) (λ_ s'=>SP X ff D .next s') acc C) O hc I2 T st2 f2 e2 e4 (λcl C=>hg cl C s2 H2 fp) (λcl C=>ht cl C s2 H2 fp) (λcl C=>he cl C s2 H2 fp) B ?_;intro cl' C s' σ' H' acc m hC hCD I' hDn hz hL fin hn;clear 5 hL its n hv hD;show wpAny _ X.A (assign (.Name y py) X.env (.ref s2.heap.objs.size)) _ _ _;have I3:=LC I2 f2 hC hCD I' hDn hz hv hD (Heap.SameBut.refl ..);refine wpAny_assign_Name (LS I3 hN hiN (.inl hx) (v:=.ref s2.heap.objs.size) rfl (λs4 I4 z9=>?_) (.inr hx));clear 5 z9 a hsb ha;have hCL:C≠X.env.locals:=um6 (ue9 I2.lt hC);have hCc:∀x c,X.env.cells.lookup x=some c->c≠C:=λx c e z=>by
  clear 5(I2.cell x c e)v q;exact absurd (ue9 q.lt (by rw[z];exact hC)) (ul1 _)
 have hCa:C≠a:=by
  rcases ha with z|z
  .rw[z];exact hCL
  .exact λq=>hCc _ _ z q.symm
 refine⟨m,hn.sameBut hsb hCa,λh' hs'=>?_⟩;have hnC:(upd H' s2.heap.objs.size (.lst acc)) C=none:=by rw[Av hCD];exact I'.free
 refine⟨_,_,I4.turned (t':=s4.toks) (h':=h') (it:=C) (λb o hb e=>hs'.extBut b o hb e) hnC hCL (.inr (um5 I2.sz hC)) hCc (λp hp z=>?_),fin _ hDn hz⟩;exact absurd (ue9 (um3 (I2.pin p hp).1) (by rw[z];exact hC)) (ul1 _)
end
end
set_option autoImplicit false
inductive D where
 |non|bl (b:Bool)|int (i:Int)|str (x:Str)|tup (xs:List D)|lst (xs:List D)|scr (ns:List Int)|dic|obj (k:Nat)|ty (n:String)|exc (n:Str) (xs:List D)
set_option genInjectivity false in structure Cf where
 ι:List fh
 O:fh->Prop
def Cf.A(c:Cf)(a:fh):Prop:=a∈c.ι\/c.O a
def Scr(K:fc)(c:Cf)(H:Hp)(a:fh)(vs:List V):Prop:=
 ((∃o,H a=some (.frz o (.lst vs)))/\¬c.A a)\/
   ∃(o:Obj) (its:Array fg) (n:Nat),K.lookup a=some o/\o.cls=.type "list"/\o.dict=none/\o.data=.seq its n/\its.size<=sizeLine/\Vals vs its.toList
def XIs(qx:Bool)(x C:fh)(dx:Option fh)(h:Heap):Prop:=∃(o:Obj) (vs:Array fg),h.get? x=some o/\o.cls=.ref C/\o.dict=dx/\o.data=.fields vs/\(qx=true->vs[2]?=some .none/\4<vs.size)
noncomputable def TD(n:Str):List Str:=if n = "NoTalk" then ["at"] else if n = "Broken" then ["at", "side"] else []
def XFld(c:Cf)(H:Hp)(dx:Option fh)(ns:List Str)(vs:List V):Prop:=match dx with
 |none=>vs=[]
 |some d=>H d=some (.xd (ns.zip vs))/\¬c.A d
mutual
inductive Rep(K:fc)(c:Cf)(H:Hp):V->D->Prop where
 |non:Rep K c H .non .non
 |bl (b:Bool):Rep K c H (.bl b) (.bl b)
 |int (i:Int):Rep K c H (.int i) (.int i)
 |str (x:Str):Rep K c H (.str x) (.str x)
 |ty (n:String):Rep K c H (.ty n) (.ty n)
 |tup {a:fh}{vs:List V}{ds:List D}:H a=some (.tup vs)->¬c.A a->Reps K c H vs ds->Rep K c H (.ref a) (.tup ds)
 |lst {a:fh}{vs:List V}{ds:List D}:H a=some (.lst vs)->¬c.A a->Reps K c H vs ds->Rep K c H (.ref a) (.lst ds)
 |scr {a:fh}{ns:List Int}:Scr K c H a (ns.map V.int)->Rep K c H (.ref a) (.scr ns)
 |dic {a:fh}:H a=some (.dK [])->¬c.A a->Rep K c H (.ref a) .dic
 |obj {a:fh}{k:Nat}:c.ι[k]?=some a->Rep K c H (.ref a) (.obj k)
 |exc {qx:Bool}{x C:fh}{dx:Option fh}{n:Str}{vs:List V}{ds:List D}:PySem.W.nsIn K mainGlobals n=some (some (.ref C))->H x=some (.ext (XIs qx x C dx))->¬c.A x->XFld c H dx (TD n) vs->Reps K c H vs ds->Rep K c H (.ref x) (.exc n ds)
inductive Reps(K:fc)(c:Cf)(H:Hp):List V->List D->Prop where
 |nil:Reps K c H [] []
 |cons {v:V}{d:D}{vs:List V}{ds:List D}:Rep K c H v d->Reps K c H vs ds->Reps K c H (v::vs) (d::ds)
end
structure Ext(c:Cf)(H:Hp)(c':Cf)(H':Hp):Prop where
 keep:∀b o,H b=some o->¬c.A b->H' b=some o
 av:∀b o,H b=some o->c'.A b->c.A b
 io:∀(k:Nat) (a:fh),c.ι[k]?=some a->c'.ι[k]?=some a
section
variable{c:Cf}{H:Hp}
theorem Ext.refl:Ext c H c H:=⟨λ_ _ h _=>h,λ_ _ _ h=>h,λ_ _ h=>h⟩
theorem Ext.trans{c1 c2:Cf}{H1 H2:Hp}(a:Ext c H c1 H1)(b:Ext c1 H1 c2 H2):Ext c H c2 H2:=by
 refine⟨λx o h n=>?_,λx o h n=>?_,λk x h=>b.io k x (a.io k x h)⟩
 .exact b.keep x o (a.keep x o h n) λz=>n (a.av x o h z)
 .by_cases q:c.A x
  .exact q
  .exact a.av x o h (b.av x o (a.keep x o h q) n)
variable{K:fc}{a:fh}{vs:List V}
theorem Scr.mono{c':Cf}{H':Hp}(e:Ext c H c' H')(h:Scr K c H a vs):Scr K c' H' a vs:=by
 rcases h with⟨⟨o,h⟩,n⟩|h
 .exact .inl ⟨⟨o,e.keep _ _ h n⟩,λz=>n (e.av _ _ h z)⟩
 .exact .inr h
theorem Scr.sq(h:Scr K c H a vs):SqL K H a vs:=by
 rcases h with⟨h,_⟩|h
 .exact .inl (.inr h)
 .exact .inr h
theorem XFld.mono{c':Cf}{H':Hp}{dx:Option fh}{ns:List Str}(e:Ext c H c' H')(h:XFld c H dx ns vs):XFld c' H' dx ns vs:=by
 cases dx with
 |none=>exact h
 |some d=>exact⟨e.keep _ _ h.1 h.2,λz=>h.2 (e.av _ _ h.1 z)⟩
mutual
theorem Rep.mono{K:fc}{c c':Cf}{H H':Hp}(e:Ext c H c' H'){v:V}{d:D}(r:Rep K c H v d):Rep K c' H' v d:=by
 cases r with
 |non=>exact .non
 |bl b=>exact .bl b
 |int i=>exact .int i
 |str x=>exact .str x
 |ty n=>exact .ty n
 |tup h n r=>exact .tup (e.keep _ _ h n) (λz=>n (e.av _ _ h z)) (Reps.mono e r)
 |lst h n r=>exact .lst (e.keep _ _ h n) (λz=>n (e.av _ _ h z)) (Reps.mono e r)
 |scr h=>exact .scr (h.mono e)
 |dic h n=>exact .dic (e.keep _ _ h n) (λz=>n (e.av _ _ h z))
 |obj h=>exact .obj (e.io _ _ h)
 |exc g h n f r=>exact .exc g (e.keep _ _ h n) (λz=>n (e.av _ _ h z)) (f.mono e) (Reps.mono e r)
theorem Reps.mono{K:fc}{c c':Cf}{H H':Hp}(e:Ext c H c' H'){vs:List V}{ds:List D}(r:Reps K c H vs ds):Reps K c' H' vs ds:=by
 cases r with
 |nil=>exact .nil
 |cons h t=>exact .cons (Rep.mono e h) (Reps.mono e t)
end
section
variable{K:fc}{c:Cf}{H:Hp}
theorem Reps.length:∀{vs:List V}{ds:List D},Reps K c H vs ds->vs.length=ds.length
 |_,_,.nil=>rfl
 |_,_,.cons _ t=>by simp[Reps.length t]
theorem Reps.get:∀{vs:List V}{ds:List D}{i:Nat}{v:V}{d:D},Reps K c H vs ds->vs[i]?=some v->ds[i]?=some d->Rep K c H v d
 |_,_,_,_,_,.nil,e,_=>by simp at e
 |_,_,0,_,_,.cons r _,e,e'=>by simp at e e';subst e e';exact r
 |_,_,i+1,_,_,.cons _ t,e,e'=>Reps.get (i:=i) t (by simpa using e) (by simpa using e')
theorem Reps.at:∀{vs:List V}{ds:List D}{i:Nat}{d:D},Reps K c H vs ds->ds[i]?=some d->∃v,vs[i]?=some v/\Rep K c H v d
 |_,_,_,_,.nil,e=>by simp at e
 |_,_,0,_,.cons r _,e=>by simp at e;subst e;exact⟨_,rfl,r⟩
 |_,_,i+1,_,.cons _ t,e=>by
   clear 5(Reps.at (i:=i) t (by simpa using e))v h1 h2;exact⟨v,by simpa using h1,h2⟩
theorem Reps.append{vs ws:List V}{ds es:List D}(r:Reps K c H vs ds)(s:Reps K c H ws es):Reps K c H (vs++ws) (ds++es):=by
 cases r with
 |nil=>exact s
 |cons r t=>exact .cons r (Reps.append t s)
theorem Reps.take:∀{vs:List V}{ds:List D} (n:Nat),Reps K c H vs ds->Reps K c H (vs.take n) (ds.take n)
 |_,_,0,_=>.nil
 |_,_,_+1,.nil=>.nil
 |_,_,n+1,.cons r t=>.cons r (Reps.take n t)
theorem Reps.drop:∀{vs:List V}{ds:List D} (n:Nat),Reps K c H vs ds->Reps K c H (vs.drop n) (ds.drop n)
 |_,_,0,r=>r
 |_,_,_+1,.nil=>.nil
 |_,_,n+1,.cons _ t=>Reps.drop n t
theorem Reps.set{v:V}{d:D}(r:Rep K c H v d):∀{vs:List V}{ds:List D} (i:Nat),Reps K c H vs ds->Reps K c H (vs.set i v) (ds.set i d)
 |_,_,_,.nil=>.nil
 |_,_,0,.cons _ t=>.cons r t
 |_,_,i+1,.cons q t=>.cons q (Reps.set r i t)
theorem Reps.ints:∀ns:List Int,Reps K c H (ns.map V.int) (ns.map D.int)
 |[]=>.nil
 |n::r=>.cons (.int n) (Reps.ints r)
theorem Reps.rep{vs:List V}{ds:List D}(h:Reps K c H vs ds):∀k:Nat,Reps K c H (List.replicate k vs).flatten (List.replicate k ds).flatten
 |0=>.nil
 |k+1=>by
   rw[ue5,ue5,ug2,ug2];exact h.append (Reps.rep h k)
end
inductive Ob where
 |lst (xs:List D)
 |dct (kvs:List (Key×D))
 |ins (n:Str) (fs:List (Str×D))
set_option genInjectivity false in inductive Sl where
 |val (d:D)
 |own (xs:List D)
set_option genInjectivity false in structure T where
 env:List (Option Sl)
 S:List Ob
def KVR(K:fc)(c:Cf)(H:Hp):List (Key×V)->List (Key×D)->Prop:=Paired λp q=>p.1=q.1/\Rep K c H p.2 q.2
noncomputable def KW:List Str:=["Reader", "Side", "Lasting", "Parley", "Listener", "Relay", "Desk"]
noncomputable def atN:List Str:=["grammar", "standing", "wires", "places", "side", "said", "taken", "handed", "left", "right", "under_way", "grammars", "standings", "heard", "left_grammar", "right_grammar", "rows", "pair", "broken", "parley"]
def FldR(K:fc)(c:Cf)(H:Hp):List (Str×V)->List (Str×D)->Prop:=Paired λp q=>p.1=q.1/\Rep K c H p.2 q.2
def ObR(K:fc)(c:Cf)(H:Hp)(a:fh):Ob->Prop
 |.lst ds=>∃vs,H a=some (.lst vs)/\Reps K c H vs ds
 |.dct kvs=>∃us,H a=some (.dK us)/\KVR K c H us kvs
 |.ins n fs=>(n∈KW/\∀p∈fs,p.1∈atN)/\∃C dx us,PySem.W.nsIn K mainGlobals n=some (some (.ref C))/\H a=some (.ins C dx us)/\FldR K c H us fs
theorem ObR.mono{K:fc}{c c':Cf}{H H':Hp}{a:fh}{o:Ob}(e:Ext c H c' H')(h:ObR K c H a o)(ha:H' a=H a):ObR K c' H' a o:=by
 cases o with
 |lst ds=>clear 5 h vs h1 h2;exact⟨vs,ha.trans h1,h2.mono e⟩
 |dct kvs=>clear 5 h us h1 h2;exact⟨us,ha.trans h1,Paired.mapP h2 λ_ _ z=>⟨z.1,z.2.mono e⟩⟩
 |ins n fs=>clear 5 h h0 C dx us g h1 h2;exact⟨h0,C,dx,us,g,ha.trans h1,Paired.mapP h2 λ_ _ z=>⟨z.1,z.2.mono e⟩⟩
theorem ObR.some{o:Ob}(h:ObR K c H a o):∃u,H a=some u:=by
 cases o with
 |lst ds=>obtain⟨vs,h1,_⟩:=h;exact⟨_,h1⟩
 |dct kvs=>obtain⟨us,h1,_⟩:=h;exact⟨_,h1⟩
 |ins n fs=>obtain⟨_,_,_,_,_,h1,_⟩:=h;exact⟨_,h1⟩
structure SInv(K:fc)(c:Cf)(S:List Ob)(H:Hp):Prop where
 len:c.ι.length=S.length
 nd:c.ι.Nodup
 obs:∀(k:Nat) (a:fh) (o:Ob),c.ι[k]?=some a->S[k]?=some o->ObR K c H a o
 trk:∀b,c.O b->∃o,H b=some o
 dis:∀b,c.O b->b∉c.ι
variable{S:List Ob}
theorem SInv.trkA(s:SInv K c S H){b:fh}(h:c.A b):∃o,H b=some o:=by
 rcases h with h|h
 .clear 5(List.mem_iff_getElem.mp h)k hk e;have e1:c.ι[k]?=some b:=by rw[ub2 hk,e]
  have hk':k<S.length:=by rw[<-s.len];exact hk
  exact(s.obs k b _ e1 (ub2 hk')).some
 .exact s.trk b h
theorem SInv.free(s:SInv K c S H){b:fh}(h:H b=none):¬c.A b:=λz=>by
 clear 5(s.trkA z)o e;rw[h] at e;cases e
structure FInv(K:fc)(Oo:fh->Prop)(c:Cf)(t:T)(σ:St)(H:Hp):Prop where
 s:SInv K c t.S H
 len:t.env.length=σ.length
 sub:∀b,Oo b->c.O b
 val:∀(i:Nat) (d:D),t.env[i]?=some (some (.val d))->∃v,σ[i]?=some (some v)/\Rep K c H v d
 own:∀(i:Nat) (ds:List D),t.env[i]?=some (some (.own ds))->∃a vs,σ[i]?=some (some (.ref a))/\c.O a/\¬Oo a/\H a=some (.lst vs)/\Reps K c H vs ds
 inj:∀(i j:Nat) (ds es:List D) (a:fh),t.env[i]?=some (some (.own ds))->t.env[j]?=some (some (.own es))->σ[i]?=some (some (.ref a))->σ[j]?=some (some (.ref a))->i=j
structure Stp(Oo:fh->Prop)(c:Cf)(H:Hp)(c':Cf)(H':Hp):Prop where
 ext:Ext c H c' H'
 oo:∀b,Oo b->H' b=H b
theorem Stp.refl{Oo:fh->Prop}{c:Cf}{H:Hp}:Stp Oo c H c H:=⟨.refl,λ_ _=>rfl⟩
theorem Stp.trans{Oo:fh->Prop}{c c1 c2:Cf}{H H1 H2:Hp}(a:Stp Oo c H c1 H1)(b:Stp Oo c1 H1 c2 H2):Stp Oo c H c2 H2:=
 ⟨a.ext.trans b.ext,λx h=>(b.oo x h).trans (a.oo x h)⟩
section
variable{K:fc}{Oo:fh->Prop}{c:Cf}{t:T}{σ:St}{H:Hp}
theorem Ext.laid(s:SInv K c S H){p:fh}{o:HO}(h:H p=none):Ext c H c (upd H p o):=
 ⟨λb u e _=>by rw[Av (AG e h)];exact e,λ_ _ _ z=>z,λ_ _ e=>e⟩
theorem SInv.laid{S:List Ob}(s:SInv K c S H){p:fh}{o:HO}(h:H p=none):SInv K c S (upd H p o):=
 ⟨s.len,s.nd,λk a u e1 e2=>by
  have q:=s.obs k a u e1 e2;clear 5 q.some w hw;exact q.mono (Ext.laid s h) (Av (AG hw h)),
  λb z=>by clear 5(s.trk b z)u e;exact⟨u,by rw[Av (AG e h)];exact e⟩,s.dis⟩
theorem FInv.laid(f:FInv K Oo c t σ H){p:fh}{o:HO}(h:H p=none):FInv K Oo c t σ (upd H p o):=by
 have e:=Ext.laid (o:=o) f.s h;refine⟨f.s.laid h,f.len,f.sub,λi d q=>?_,λi ds q=>?_,f.inj⟩
 .clear 5(f.val i d q)v h1 h2;exact⟨v,h1,h2.mono e⟩
 .clear 5(f.own i ds q)a vs h1 h2 h3 h4 h5;exact⟨a,vs,h1,h2,h3,by rw[Av (AG h4 h)];exact h4,h5.mono e⟩
theorem FInv.stp_laid(f:FInv K Oo c t σ H){p:fh}{o:HO}(h:H p=none):Stp Oo c H c (upd H p o):=
 ⟨Ext.laid f.s h,λb z=>by clear 5(f.s.trk b (f.sub b z))u e;exact Av (AG e h)⟩
theorem FInv.set(f:FInv K Oo c t σ H){i:Nat}{v:V}{d:D}(r:Rep K c H v d):FInv K Oo c {t with env:=t.env.set i (some (.val d))} (σ.set i (some v)) H:=by
 have neq:∀{j:Nat}{x:Sl},(t.env.set i (some (.val d)))[j]?=some (some x)->(j=i/\x=.val d/\j<t.env.length)\/(j≠i/\t.env[j]?=some (some x)):=λ{j x} q=>by
  by_cases h:j=i
  .subst h;rw[ug5] at q
   split at q
   .split at q
    .next h1=>injection q with q;injection q with q;exact .inl ⟨rfl,q.symm,h1⟩
    .cases q
   .next h1=>exact absurd rfl h1
  .rw[ud7 (Ne.symm h)] at q;exact .inr ⟨h,q⟩
 refine⟨f.s,by simp[f.len],f.sub,λj e q=>?_,λj ds q=>?_,λj k ds es a q1 q2 q3 q4=>?_⟩
 .rcases neq q with⟨rfl,z,hl⟩|⟨h,q⟩
  .cases z
   exact⟨v,by rw[ub9 (by rw[<-f.len];exact hl)],r⟩
  .clear 5(f.val j e q)u h1 h2;exact⟨u,by rw[ud7 (Ne.symm h)];exact h1,h2⟩
 .rcases neq q with⟨rfl,z,_⟩|⟨h,q⟩
  .cases z
  .clear 5(f.own j ds q)a vs h1 h2;exact⟨a,vs,by rw[ud7 (Ne.symm h)];exact h1,h2⟩
 .rcases neq q1 with⟨_,z,_⟩|⟨h,q1⟩
  .cases z
  rcases neq q2 with⟨_,z,_⟩|⟨h',q2⟩
  .cases z
  rw[ud7 (Ne.symm h)] at q3;rw[ud7 (Ne.symm h')] at q4;exact f.inj j k ds es a q1 q2 q3 q4
theorem FInv.setOwn(f:FInv K Oo c t σ H){i:Nat}{p:fh}{vs:List V}{ds:List D}(h:H p=none)(r:Reps K c H vs ds) :
 ∃c',FInv K Oo c' {t with env:=t.env.set i (some (.own ds))} (σ.set i (some (.ref p))) (upd H p (.lst vs))/\Stp Oo c H c' (upd H p (.lst vs)):=by
 let c':Cf:=⟨c.ι,λb=>c.O b\/b=p⟩
 have nA:¬c.A p:=f.s.free h;have ext:Ext c H c' (upd H p (.lst vs)):=by
  refine⟨λb u e _=>by rw[Av (AG e h)];exact e,λb u e z=>?_,λ_ _ e=>e⟩;rcases z with z|z|z
  .exact .inl z
  .exact .inr z
  .subst z;rw[h] at e;cases e
 have stp:Stp Oo c H c' (upd H p (.lst vs)):=⟨ext,λb z=>by clear 5(f.s.trk b (f.sub b z))u e;exact Av (AG e h)⟩;have sinv:SInv K c' t.S (upd H p (.lst vs)):=by
  refine⟨f.s.len,f.s.nd,λk a u e1 e2=>?_,λb z=>?_,λb z hb=>?_⟩
  .have q:=f.s.obs k a u e1 e2;clear 5 q.some w hw;exact q.mono ext (Av (AG hw h))
  .rcases z with z|z
   .clear 5(f.s.trk b z)u e;exact⟨u,by rw[Av (AG e h)];exact e⟩
   .subst z;exact⟨_,AL⟩
  .rcases z with z|z
   .exact f.s.dis b z hb
   .subst z;exact nA (.inl hb)
 have neq:∀{j:Nat}{x:Sl},(t.env.set i (some (.own ds)))[j]?=some (some x)->(j=i/\x=.own ds/\j<t.env.length)\/(j≠i/\t.env[j]?=some (some x)):=λ{j x} q=>by
  by_cases h:j=i
  .subst h;rw[ug5] at q
   split at q
   .split at q
    .next h1=>injection q with q;injection q with q;exact .inl ⟨rfl,q.symm,h1⟩
    .cases q
   .next h1=>exact absurd rfl h1
  .rw[ud7 (Ne.symm h)] at q;exact .inr ⟨h,q⟩
 have fresh:∀(j:Nat) (es:List D),t.env[j]?=some (some (.own es))->σ[j]?≠some (some (.ref p)):=λj es q z=>by
  obtain⟨a,vs',h1,_,_,h4,_⟩:=f.own j es q;rw[h1] at z;injection z with z;injection z with z;injection z with z;subst z;rw[h] at h4;cases h4
 refine⟨c',⟨sinv,by simp[f.len],λb z=>.inl (f.sub b z),λj e q=>?_,λj es q=>?_,λj k ds' es a q1 q2 q3 q4=>?_⟩,stp⟩
 .rcases neq q with⟨_,z,_⟩|⟨hn,q⟩
  .cases z
  .clear 5(f.val j e q)u h1 h2;exact⟨u,by rw[ud7 (Ne.symm hn)];exact h1,h2.mono ext⟩
 .rcases neq q with⟨rfl,z,hl⟩|⟨hn,q⟩
  .cases z
   refine⟨p,vs,by rw[ub9 (by rw[<-f.len];exact hl)],.inr rfl,λz=>?_,AL,r.mono ext⟩;clear 5(f.s.trk p (f.sub p z))u e;rw[h] at e;cases e
  .clear 5(f.own j es q)a ws h1 h2 h3 h4 h5;exact⟨a,ws,by rw[ud7 (Ne.symm hn)];exact h1,.inl h2,h3,by rw[Av (AG h4 h)];exact h4,h5.mono ext⟩
 .rcases neq q1 with⟨z1,z2,l1⟩|⟨n1,r1⟩
  .rcases neq q2 with⟨y1,_,_⟩|⟨n2,r2⟩
   .rw[z1,y1]
   .subst z1;rw[ub9 (by rw[<-f.len];exact l1)] at q3;injection q3 with q3;injection q3 with q3;injection q3 with q3;subst q3
    rw[ud7 (Ne.symm n2)] at q4;exact absurd q4 (fresh k es r2)
  .rcases neq q2 with⟨y1,y2,l2⟩|⟨n2,r2⟩
   .subst y1;rw[ub9 (by rw[<-f.len];exact l2)] at q4;injection q4 with q4;injection q4 with q4;injection q4 with q4;subst q4
    rw[ud7 (Ne.symm n1)] at q3;exact absurd q3 (fresh j ds' r1)
   .rw[ud7 (Ne.symm n1)] at q3;rw[ud7 (Ne.symm n2)] at q4;exact f.inj j k ds' es a r1 r2 q3 q4
theorem FInv.frz(f:FInv K Oo c t σ H){i:Nat}{ds:List D}(q:t.env[i]?=some (some (.own ds))) :
 ∃c' v,FInv K Oo c' {t with env:=t.env.set i (some (.val (.lst ds)))} σ H/\Stp Oo c H c' H/\σ[i]?=some (some v)/\Rep K c' H v (.lst ds):=by
 clear 5(f.own i ds q)a vs h1 h2 h3 h4 h5
 let c':Cf:=⟨c.ι,λb=>c.O b/\b≠a⟩
 have ext:Ext c H c' H:=⟨λ_ _ e _=>e,λb u e z=>z.elim .inl λw=>.inr w.1,λ_ _ e=>e⟩;have sinv:SInv K c' t.S H:=⟨f.s.len,f.s.nd,λk b u e1 e2=>(f.s.obs k b u e1 e2).mono ext rfl,λb z=>f.s.trk b z.1,λb z=>f.s.dis b z.1⟩;have nA:¬c'.A a:=λz=>z.elim (λw=>f.s.dis a h2 w) λw=>w.2 rfl;have hσ:σ.set i (some (.ref a))=σ:=by
  apply List.ext_getElem?;intro j
  by_cases hj:j=i
  .subst hj;rw[ub9 (by have:=(ua7.mp h1).1;exact this),h1]
  .rw[ud7 (Ne.symm hj)]
 have r:Rep K c' H (.ref a) (.lst ds):=.lst h4 nA (h5.mono ext);have f0:FInv K Oo c' {t with env:=t.env.set i (some (.val (.lst ds)))} σ H:=by
  have neq:∀{j:Nat}{x:Sl},(t.env.set i (some (.val (.lst ds))))[j]?=some (some x)->(j=i/\x=.val (.lst ds))\/(j≠i/\t.env[j]?=some (some x)):=λ{j x} q=>by
   by_cases h:j=i
   .subst h;rw[ug5] at q
    split at q
    .split at q
     .injection q with q;injection q with q;exact .inl ⟨rfl,q.symm⟩
     .cases q
    .next h1=>exact absurd rfl h1
   .rw[ud7 (Ne.symm h)] at q;exact .inr ⟨h,q⟩
  refine⟨sinv,by simp[f.len],λb z=>⟨f.sub b z,λw=>h3 (w ▸ z)⟩,λj e q'=>?_,λj es q'=>?_,λj k ds' es b q1 q2 q3 q4=>?_⟩
  .rcases neq q' with⟨rfl,z⟩|⟨hn,q'⟩
   .cases z;exact⟨_,h1,r⟩
   .clear 5(f.val j e q')u w1 w2;exact⟨u,w1,w2.mono ext⟩
  .rcases neq q' with⟨_,z⟩|⟨hn,q'⟩
   .cases z
   .clear 5(f.own j es q')b ws w1 w2 w3 w4 w5;refine⟨b,ws,w1,⟨w2,λz=>?_⟩,w3,w4,w5.mono ext⟩;subst z;exact hn (f.inj j i es ds b q' q w1 h1)
  .rcases neq q1 with⟨_,z⟩|⟨_,q1⟩
   .cases z
   rcases neq q2 with⟨_,z⟩|⟨_,q2⟩
   .cases z
   exact f.inj j k ds' es b q1 q2 q3 q4
 exact⟨c',_,f0,⟨ext,λ_ _=>rfl⟩,h1,r⟩
theorem FInv.wrOwn(f:FInv K Oo c t σ H){i:Nat}{ds ds':List D}{vs':List V}{a:fh}(q:t.env[i]?=some (some (.own ds)))(h1:σ[i]?=some (some (.ref a)))(r:Reps K c H vs' ds') :
 FInv K Oo c {t with env:=t.env.set i (some (.own ds'))} σ (upd H a (.lst vs'))/\Stp Oo c H c (upd H a (.lst vs')):=by
 clear 5(f.own i ds q)a' vs g1 h2 h3 h4 h5;rw[h1] at g1;injection g1 with g1;injection g1 with g1;injection g1 with g1;subst g1
 have ext:Ext c H c (upd H a (.lst vs')):=⟨λb u e n=>by rw[Av (λ(z:b=a)=>n (.inr (by rw[z];exact h2)))];exact e,λ_ _ _ z=>z,λ_ _ e=>e⟩;have stp:Stp Oo c H c (upd H a (.lst vs')):=⟨ext,λb z=>Av λw=>h3 (w ▸ z)⟩;have sinv:SInv K c t.S (upd H a (.lst vs')):=by
  refine⟨f.s.len,f.s.nd,λk b u e1 e2=>(f.s.obs k b u e1 e2).mono ext (Av λz=>f.s.dis a h2 (z ▸ ud8 e1)),λb z=>?_,f.s.dis⟩
  by_cases hb:b=a
  .subst hb;exact⟨_,AL⟩
  .clear 5(f.s.trk b z)u e;exact⟨u,by rw[Av hb];exact e⟩
 have neq:∀{j:Nat}{x:Sl},(t.env.set i (some (.own ds')))[j]?=some (some x)->(j=i/\x=.own ds')\/(j≠i/\t.env[j]?=some (some x)):=λ{j x} q=>by
  by_cases h:j=i
  .subst h;rw[ug5] at q
   split at q
   .split at q
    .injection q with q;injection q with q;exact .inl ⟨rfl,q.symm⟩
    .cases q
   .next h1=>exact absurd rfl h1
  .rw[ud7 (Ne.symm h)] at q;exact .inr ⟨h,q⟩
 refine⟨⟨sinv,by simp[f.len],f.sub,λj e q'=>?_,λj es q'=>?_,λj k es es' b q1 q2 q3 q4=>?_⟩,stp⟩
 .rcases neq q' with⟨_,z⟩|⟨_,q'⟩
  .cases z
  .clear 5(f.val j e q')u w1 w2;exact⟨u,w1,w2.mono ext⟩
 .rcases neq q' with⟨rfl,z⟩|⟨hn,q'⟩
  .cases z;exact⟨a,vs',h1,h2,h3,AL,r.mono ext⟩
  .clear 5(f.own j es q')b ws w1 w2 w3 w4 w5;have hb:b≠a:=λz=>by subst z;exact hn (f.inj j i es ds b q' q w1 h1)
   exact⟨b,ws,w1,w2,w3,by rw[Av hb];exact w4,w5.mono ext⟩
 .have old:∀{j:Nat}{x:List D},(t.env.set i (some (.own ds')))[j]?=some (some (.own x))->∃y,t.env[j]?=some (some (.own y)):=λ{j x} q'=>by
   rcases neq q' with⟨rfl,_⟩|⟨_,q'⟩
   .exact⟨ds,q⟩
   .exact⟨x,q'⟩
  clear 5(old q1)y1 z1;clear 5(old q2)y2 z2;exact f.inj j k y1 y2 b z1 z2 q3 q4
theorem FInv.wrObj(f:FInv K Oo c t σ H){k:Nat}{a:fh}{o:Ob}{u:HO}(e:c.ι[k]?=some a)(r:∀c' H',Ext c H c' H'->H' a=some u->ObR K c' H' a o) :
 FInv K Oo c {t with S:=t.S.set k o} σ (upd H a u)/\Stp Oo c H c (upd H a u):=by
 have hA:a∈c.ι:=ud8 e;have ext:Ext c H c (upd H a u):=⟨λb w h n=>by rw[Av (λ(z:b=a)=>n (.inl (by rw[z];exact hA)))];exact h,λ_ _ _ z=>z,λ_ _ e=>e⟩;have neO:∀b,c.O b->b≠a:=λb z w=>f.s.dis b z (w ▸ hA);have stp:Stp Oo c H c (upd H a u):=⟨ext,λb z=>Av (neO b (f.sub b z))⟩;have sinv:SInv K c (t.S.set k o) (upd H a u):=by
  refine⟨by simp[f.s.len],f.s.nd,λj b o' e1 e2=>?_,λb z=>?_,f.s.dis⟩
  .by_cases hj:j=k
   .subst hj;rw[e] at e1;cases e1
    have hl:j<t.S.length:=by rw[<-f.s.len];exact(ua7.mp e).1
    rw[ub9 hl] at e2;cases e2
    exact r c _ ext AL
   .rw[ud7 (Ne.symm hj)] at e2;refine(f.s.obs j b o' e1 e2).mono ext (Av λz=>?_);subst z;clear 5(ua7.mp e1)l1 g1;clear 5(ua7.mp e)l2 g2;exact hj ((uh0 f.s.nd).mp (g1.trans g2.symm))
  .clear 5(f.s.trk b z)w h;exact⟨w,by rw[Av (neO b z)];exact h⟩
 refine⟨⟨sinv,f.len,f.sub,λi d q=>?_,λi ds q=>?_,f.inj⟩,stp⟩
 .clear 5(f.val i d q)v h1 h2;exact⟨v,h1,h2.mono ext⟩
 .clear 5(f.own i ds q)b vs h1 h2 h3 h4 h5;exact⟨b,vs,h1,h2,h3,by rw[Av (neO b h2)];exact h4,h5.mono ext⟩
theorem FInv.newObj(f:FInv K Oo c t σ H){p:fh}{o:Ob}{u:HO}(h:H p=none)(r:∀c' H',Ext c H c' H'->H' p=some u->ObR K c' H' p o) :
 ∃c',FInv K Oo c' {t with S:=t.S++[o]} σ (upd H p u)/\Stp Oo c H c' (upd H p u)/\c'.ι[t.S.length]?=some p:=by
 let c':Cf:=⟨c.ι++[p],c.O⟩
 have nA:¬c.A p:=f.s.free h;have ext:Ext c H c' (upd H p u):=by
  refine⟨λb w e _=>by rw[Av (AG e h)];exact e,λb w e z=>?_,λk a e=>?_⟩
  .rcases z with z|z
   .rcases ui6.mp z with z|z
    .exact .inl z
    .rw[uf5] at z;subst z;rw[h] at e;cases e
   .exact .inr z
  .show(c.ι++[p])[k]?=some a;rw[ua8 (ua7.mp e).1];exact e
 have stp:Stp Oo c H c' (upd H p u):=⟨ext,λb z=>by clear 5(f.s.trk b (f.sub b z))w e;exact Av (AG e h)⟩;have at_:(c.ι++[p])[t.S.length]?=some p:=by rw[<-f.s.len,ua4 (un6 _)];simp
 have sinv:SInv K c' (t.S++[o]) (upd H p u):=by
  refine⟨by simp[c',f.s.len],?_,λj b o' e1 e2=>?_,λb z=>?_,λb z hb=>?_⟩
  .show(c.ι++[p]).Nodup;exact List.nodup_append.mpr ⟨f.s.nd,by simp,λx hx y hy z=>by rw[uf5] at hy;subst z;subst hy;exact nA (.inl hx)⟩
  .have hlt:j<(t.S++[o]).length:=(ua7.mp e2).1
   by_cases hj:j<t.S.length
   .have e1':c.ι[j]?=some b:=by
     have q:(c.ι++[p])[j]?=some b:=e1;rw[ua8 (by rw[f.s.len];exact hj)] at q;exact q
    rw[ua8 hj] at e2;have q:=f.s.obs j b o' e1' e2;clear 5 q.some w hw;exact q.mono ext (Av (AG hw h))
   .have hj':j=t.S.length:=by simp at hlt;lia
    subst hj';rw[at_] at e1;cases e1
    rw[ua4 (un6 _)] at e2;simp at e2;subst e2;exact r c' _ ext AL
  .clear 5(f.s.trk b z)w e;exact⟨w,by rw[Av (AG e h)];exact e⟩
  .rcases ui6.mp hb with w|w
   .exact f.s.dis b z w
   .rw[uf5] at w;subst w;exact nA (.inr z)
 refine⟨c',⟨sinv,f.len,f.sub,λi d q=>?_,λi ds q=>?_,f.inj⟩,stp,at_⟩
 .clear 5(f.val i d q)v h1 h2;exact⟨v,h1,h2.mono ext⟩
 .clear 5(f.own i ds q)b vs h1 h2 h3 h4 h5;exact⟨b,vs,h1,h2,h3,by rw[Av (AG h4 h)];exact h4,h5.mono ext⟩
theorem FInv.after(f:FInv K Oo c t σ H){c':Cf}{S':List Ob}{H':Hp}(s:SInv K c' S' H')(st:Stp c.O c H c' H')(ho:∀b,c'.O b↔c.O b):FInv K Oo c' {t with S:=S'} σ H'/\Stp Oo c H c' H':=by
 refine⟨⟨s,f.len,λb z=>(ho b).mpr (f.sub b z),λi d q=>?_,λi ds q=>?_,f.inj⟩,st.ext,λb z=>st.oo b (f.sub b z)⟩
 .clear 5(f.val i d q)v h1 h2;exact⟨v,h1,h2.mono st.ext⟩
 .clear 5(f.own i ds q)b vs h1 h2 h3 h4 h5;exact⟨b,vs,h1,(ho b).mpr h2,h3,(st.oo b h2).trans h4,h5.mono st.ext⟩
end
abbrev M(α:Type):=T->Option (α×T)
set_option genInjectivity false in inductive Out where
 |next|brk|cont|ret (d:D)
noncomputable def ret{α:Type}(a:α):M α:=λt=>some (a,t)
noncomputable def fail{α:Type}:M α:=λ_=>none
noncomputable def bnd{α β:Type}(f:M α)(g:α->M β):M β:=λt=>match f t with
 |some (a,t1)=>g a t1
 |none=>none
variable{t:T}
theorem Af{α β:Type}{f:M α}{g:α->M β}{z:β×T}(h:bnd f g t=some z):∃a t1,f t=some (a,t1)/\g a t1=some z:=by
 unfold bnd at h
 cases e:f t with
 |none=>rw[e] at h;cases h
 |some p=>clear 5 p a t1;rw[e] at h;exact⟨a,t1,rfl,h⟩
noncomputable def LIM:Nat:=100000
theorem B6:LIM<=sizeLine:=by unfold LIM;decide
theorem XA:LIM<sizeLine:=by unfold LIM;decide
section
variable(K:fc)
inductive RE(f:M D)(σ:L2.St)(H:Hp)(Q:VK):Prop where
 |mk (Oo:fh->Prop) (c:Cf) (t:T) (fi:FInv K Oo c t σ H) (r:D) (t':T) (e:f t=some (r,t')) (k:∀v H' c',FInv K Oo c' t' σ H'->Stp Oo c H c' H'->Rep K c' H' v r->Q v H'):RE f σ H Q
inductive RT(f:M Bool)(σ:L2.St)(H:Hp)(Q:Bool->Hp->Prop):Prop where
 |mk (Oo:fh->Prop) (c:Cf) (t:T) (fi:FInv K Oo c t σ H) (r:Bool) (t':T) (e:f t=some (r,t')) (k:∀H' c',FInv K Oo c' t' σ H'->Stp Oo c H c' H'->Q r H'):RT f σ H Q
inductive RA(f:M (List D))(σ:L2.St)(H:Hp)(Q:List V->Hp->Prop):Prop where
 |mk (Oo:fh->Prop) (c:Cf) (t:T) (fi:FInv K Oo c t σ H) (r:List D) (t':T) (e:f t=some (r,t')) (k:∀vs H' c',FInv K Oo c' t' σ H'->Stp Oo c H c' H'->Reps K c' H' vs r->Q vs H'):RA f σ H Q
inductive RF(f:M (List D))(σ:L2.St)(H:Hp)(Q:VK):Prop where
 |mk (Oo:fh->Prop) (c:Cf) (t:T) (fi:FInv K Oo c t σ H) (ds:List D) (t':T) (e:f t=some (ds,t')) (k:∀p vs H' c',FInv K Oo c' t' σ H'->Stp Oo c H c' H'->Reps K c' H' vs ds->H' p=none->Q (.ref p) (upd H' p (.lst vs))):RF f σ H Q
inductive RSg(μ:Cf->Hp->D->(V->Hp->Prop)->Prop)(f:M Out)(E:Ends)(σ:L2.St)(H:Hp):Prop where
 |mk (Oo:fh->Prop) (c:Cf) (t:T) (fi:FInv K Oo c t σ H) (o:Out) (t':T) (e:f t=some (o,t')) (k:∀σ' H' c',FInv K Oo c' t' σ' H'->Stp Oo c H c' H'->
 match (generalizing:=false) o with
 |.next=>E.nx σ' H'
 |.brk=>E.bk σ' H'
 |.cont=>E.ct σ' H'
 |.ret r=>μ c' H' r E.rt):RSg μ f E σ H
def μR:Cf->Hp->D->(V->Hp->Prop)->Prop:=λc H r rt=>∀v,Rep K c H v r->rt v H
def μF:Cf->Hp->D->(V->Hp->Prop)->Prop:=λc H r rt=>match r with
 |.lst ds=>∀p us,H p=none->Reps K c H us ds->rt (.ref p) (upd H p (.lst us))
 |_=>False
abbrev RS(f:M Out):TS:=RSg K (μR K) f
inductive RG(f:D->M Unit)(v:V)(σ:L2.St)(H:Hp)(Q:L2.St->Hp->Prop):Prop where
 |mk (Oo:fh->Prop) (c:Cf) (t:T) (d:D) (fi:FInv K Oo c t σ H) (r:Rep K c H v d) (t':T) (e:f d t=some ((),t')) (k:∀σ' H' c',FInv K Oo c' t' σ' H'->Stp Oo c H c' H'->Q σ' H'):RG f v σ H Q
structure ItOk(J:It)(c:Cf)(H:Hp)(ds:List D):Prop where
 go:∀c' H' (i:Nat),Ext c H c' H'->i<ds.length->J.go i H'
 yld:∀c' H' (i:Nat) x H'' d,Ext c H c' H'->ds[i]?=some d->J.yld i H' x H''->H''=H'/\Rep K c' H' x d
 stop:∀c' H',Ext c H c' H'->J.stop ds.length H'
inductive RI(f:M (List D))(σ:L2.St)(H:Hp)(R:It->Hp->Prop):Prop where
 |mk (Oo:fh->Prop) (c:Cf) (t:T) (fi:FInv K Oo c t σ H) (ds:List D) (t':T) (e:f t=some (ds,t')) (k:∀J H' c',FInv K Oo c' t' σ H'->Stp Oo c H c' H'->ItOk K J c' H' ds->R J H'):RI f σ H R
def XD(R:V->Hp->VK->Prop)(h:D->M D):Prop:=∀{Oo:fh->Prop}{c:Cf}{t:T}{σ:L2.St}{H:Hp}{x:V}{dx r:D}{t':T}{Q:VK},FInv K Oo c t σ H->Rep K c H x dx->h dx t=some (r,t')->
 (∀v H' c',FInv K Oo c' t' σ H'->Stp Oo c H c' H'->Rep K c' H' v r->Q v H')->R x H Q
def A6(R:R2)(h:D->D->M D):Prop:=∀{Oo:fh->Prop}{c:Cf}{t:T}{σ:L2.St}{H:Hp}{x y:V}{dx dy r:D}{t':T}{Q:VK},FInv K Oo c t σ H->Rep K c H x dx->Rep K c H y dy->h dx dy t=some (r,t')->
 (∀v H' c',FInv K Oo c' t' σ H'->Stp Oo c H c' H'->Rep K c' H' v r->Q v H')->R x y H Q
def Gp(R:List V->Hp->VK->Prop)(h:List D->M D):Prop:=∀{Oo:fh->Prop}{c:Cf}{t:T}{σ:L2.St}{H:Hp}{xs:List V}{ds:List D}{r:D}{t':T}{Q:VK},FInv K Oo c t σ H->Reps K c H xs ds->h ds t=some (r,t')->
 (∀v H' c',FInv K Oo c' t' σ H'->Stp Oo c H c' H'->Rep K c' H' v r->Q v H')->R xs H Q
def L9(R:R2)(h:D->D->M (List D)):Prop:=∀{Oo:fh->Prop}{c:Cf}{t:T}{σ:L2.St}{H:Hp}{x y:V}{dx dy:D}{r:List D}{t':T}{Q:VK},FInv K Oo c t σ H->Rep K c H x dx->Rep K c H y dy->h dx dy t=some (r,t')->
 (∀p vs H' c',FInv K Oo c' t' σ H'->Stp Oo c H c' H'->Reps K c' H' vs r->H' p=none->Q (.ref p) (upd H' p (.lst vs)))->R x y H Q
def Ma(R:List V->Hp->VK->Prop)(h:List D->M (List D)):Prop:=∀{Oo:fh->Prop}{c:Cf}{t:T}{σ:L2.St}{H:Hp}{xs:List V}{ds r:List D}{t':T}{Q:VK},FInv K Oo c t σ H->Reps K c H xs ds->h ds t=some (r,t')->
 (∀p vs H' c',FInv K Oo c' t' σ H'->Stp Oo c H c' H'->Reps K c' H' vs r->H' p=none->Q (.ref p) (upd H' p (.lst vs)))->R xs H Q
end
variable{tg:Expr}{j i:Nat}{x:Str}{f g:M D}{h:D->D->M D}{R:R2}{op:CmpOp}{σ:L2.St}
section
variable{X:Cx}{e a b:Expr}{pos:Pos}
theorem AH{t t':TE}(h:PE X e t)(i:∀σ H Q,t' σ H Q->t σ H Q):PE X e t':=λff s σ H Q I q=>h ff s σ H Q I (i σ H Q q)
theorem Mt{t t':TT}(h:PT X e t)(i:∀σ H Q,t' σ H Q->t σ H Q):PT X e t':=λff s σ H Q I q=>h ff s σ H Q I (i σ H Q q)
theorem QM{t t':TT}(h:PW X e t)(i:∀σ H Q,t' σ H Q->t σ H Q):PW X e t':=λw ff s σ H Q I q=>h w ff s σ H Q I (i σ H Q q)
theorem QK{es:List Expr}{t t':TA}(h:PA X es t)(i:∀σ H Q,t' σ H Q->t σ H Q):PA X es t':=λpos ff s σ H Q I q=>h pos ff s σ H Q I (i σ H Q q)
theorem AU{st:Stmt}{t t':TS}(h:PS X st t)(i:∀E σ H,t' E σ H->t E σ H):PS X st t':=λff s σ H E I q=>h ff s σ H E I (i E σ H q)
theorem Og{st:List Stmt}{t t':TS}(h:PSs X st t)(i:∀E σ H,t' E σ H->t E σ H):PSs X st t':=λff s σ H E I q=>h ff s σ H E I (i E σ H q)
theorem HG{t t':TG}(h:PG X e t)(i:∀v σ H Q,t' v σ H Q->t v σ H Q):PG X e t':=λff s σ H v u Q I r q=>h ff s σ H v u Q I r (i v σ H Q q)
theorem GD{t t':TI}(h:PI X tg e t)(i:∀σ H R,t' σ H R->t σ H R):PI X tg e t':=λff s σ H R I q=>h ff s σ H R I (i σ H R q)
def fC(d:D):M D:=ret d
theorem Ju{v:V}{d:D}(h:PE X e (tC v))(r:∀c H,Rep X.K c H v d):PE X e (RE X.K (fC d)):=
 AH h λσ H Q z9=>by
  clear 5 z9 Oo c t f r' t' eq k
  cases eq
  exact k v H c f .refl (r c H)
theorem X4{i:Int}:PE X (.Constant (.int i) j pos) (RE X.K (fC (.int i))):=Ju YZ λ_ _=>.int i
theorem Z2{i:Bool}:PE X (.Constant (.bool i) j pos) (RE X.K (fC (.bl i))):=Ju ap λ_ _=>.bl i
theorem X9{i:Str}:PE X (.Constant (.str i) j pos) (RE X.K (fC (.str i))):=Ju Sa λ_ _=>.str i
theorem X5:PE X (.Constant .none j pos) (RE X.K (fC .non)):=Ju Y1 λ_ _=>.non
theorem KY{i:Int}{tk:Tok}(hg:Gl X x)(hm:X.mg x=some (.int i tk))(hd:(x==("__debug__":Str))=false:=by decide):PE X (.Name x pos) (RE X.K (fC (.int i))):=
 Ju (OR hg hm (v:=.int i) ⟨tk,rfl⟩ hd) λ_ _=>.int i
theorem Tw{y:Str}{tk:Tok}(hg:Gl X x)(hm:X.mg x=some (.str y tk))(hd:(x==("__debug__":Str))=false:=by decide):PE X (.Name x pos) (RE X.K (fC (.str y))):=
 Ju (OR hg hm (v:=.str y) ⟨tk,rfl⟩ hd) λ_ _=>.str y
theorem J7{n:String}(hg:Gl X x)(hm:X.mg x=none)(hv:bootBuiltins x=some (.type n))(hn:x≠"__name__":=by decide)(hd:(x==("__debug__":Str))=false:=by decide):PE X (.Name x pos) (RE X.K (fC (.ty n))):=
 Ju (Wv hg hm hv (v:=.ty n) rfl hn hd) λ_ _=>.ty n
noncomputable def Aa(i:Nat):M D:=λt=>match t.env[i]? with
 |some (some (.val d))=>some (d,t)
 |some (some (.own ds))=>some (.lst ds,{t with env:=t.env.set i (some (.val (.lst ds)))})
 |_=>none
theorem PN{t':T}{r:D}(h:Aa i t=some (r,t')):(t.env[i]?=some (some (.val r))/\t'=t)\/∃ds,t.env[i]?=some (some (.own ds))/\r=.lst ds/\t' = {t with env:=t.env.set i (some (.val (.lst ds)))}:=by
 unfold Aa at h
 cases e:t.env[i]? with
 |none=>rw[e] at h;cases h
 |some o=>
   cases o with
   |none=>rw[e] at h;cases h
   |some sl=>
     cases sl with
     |val d=>rw[e] at h;cases h;exact .inl ⟨rfl,rfl⟩
     |own ds=>rw[e] at h;cases h;exact .inr ⟨ds,rfl,rfl,rfl⟩
theorem Ya(i:Nat){x:Str}(hN:X.N[i]?=some x:=by rfl)(hv:Vis X.env.scope x:=by walk_at"h")(hd:(x==("__debug__":Str))=false:=by decide)
 (hcd:(x==("__classdict__":Str))=false:=by decide):PE X (.Name x pos) (RE X.K (Aa i)):=
 AH (GO hN hv hd hcd) λσ H Q z9=>by
  clear 5 z9 Oo c t f r t' eq k;rcases PN eq with⟨q,rfl⟩|⟨ds,q,rfl,rfl⟩
  .clear 5(f.val i r q)v h1 h2;exact⟨v,h1,k v H c f .refl h2⟩
  .clear 5(f.frz q)c' v f' st h1 h2;exact⟨v,h1,k v H c' f' st h2⟩
def Ac(f g:M D)(h:D->D->M D):M D:=bnd f λx=>bnd g λy=>h x y
theorem RE.two(s:A6 K R h){σ:L2.St}{H:Hp}{Q:VK}(q:RE K (Ac f g h) σ H Q):tOp R (RE K f) (RE K g) σ H Q:=by
 clear 5 q Oo c t fi r t' eq k;clear 5(Af eq)dx t1 e1 eq;clear 5(Af eq)dy t2 e2 eq;exact⟨Oo,c,t,fi,dx,t1,e1,λx H1 c1 f1 s1 rx=>⟨Oo,c1,t1,f1,dy,t2,e2,λy H2 c2 f2 s2 ry=>s f2 (rx.mono s2.ext) ry eq λv H' c' f' s' rv=>k v H' c' f' ((s1.trans s2).trans s') rv⟩⟩
theorem Hg{op:Operator}(ho:OpR X (binaryOp op) R)(s:A6 X.K R h)(ha:PE X a (RE X.K f))(hb:PE X b (RE X.K g)):PE X (.BinOp a op b pos) (RE X.K (Ac f g h)):=
 AH (Qh ho ha hb) λ_ _ _ q=>RE.two s q
theorem J6(ho:OpR X (compareOp op) R)(s:A6 X.K R h)(ha:PE X a (RE X.K f))(hb:PE X b (RE X.K g))(hm:behindInMarks op b=false):PE X (.Compare a [op] [b] pos) (RE X.K (Ac f g h)):=
 AH (Ww ho ha hb hm) λ_ _ _ q=>RE.two s q
theorem UT(hr:IxR X R)(s:A6 X.K R h)(ha:PE X a (RE X.K f))(hb:PE X b (RE X.K g))(hs:KL b):PE X (.Subscript a b pos) (RE X.K (Ac f g h)):=
 AH (UY hr ha hb hs) λ_ _ _ q=>RE.two s q
def fUn(f:M D)(h:D->M D):M D:=bnd f h
theorem Z3{op:UnaryOp}{R:V->Hp->VK->Prop}{h:D->M D}(ho:UnR X (unaryOp op) R)(s:XD X.K R h)(ha:PE X a (RE X.K f)):PE X (.UnaryOp op a pos) (RE X.K (fUn f h)):=
 AH (aq ho ha) λσ H Q z9=>by
  clear 5 z9 Oo c t fi r t' eq k;clear 5(Af eq)dx t1 e1 eq;exact⟨Oo,c,t,fi,dx,t1,e1,λx H1 c1 f1 s1 rx=>s f1 rx eq λv H' c' f' s' rv=>k v H' c' f' (s1.trans s') rv⟩
def toB:D->M Bool
 |.bl b=>ret b
 |_=>fail
def Aj(f:M D):M Bool:=bnd f toB
theorem JH{d:D}{z:Bool×T}(h:toB d t=some z):∃b,d=.bl b/\z=(b,t):=by
 cases d with
 |bl b=>cases h;exact⟨b,rfl,rfl⟩
 |_=>cases h
theorem RT.val{Q:Bool->Hp->Prop}(q:RT K (Aj f) σ H Q):RE K f σ H λx H1=>∃k,x=.bl k/\Q k H1:=by
 clear 5 q Oo c t fi r t' eq k;clear 5(Af eq)d t1 e1 eq;clear 5(JH eq)b rfl z
 cases z
 refine⟨Oo,c,t,fi,_,t',e1,λv H1 c1 f1 s1 rv=>?_⟩
 cases rv
 exact⟨r,rfl,k H1 c1 f1 s1⟩
theorem Yl(h:PE X e (RE X.K f))(he:∀whole,isTrue e X.env whole=(do let v <-whole;standAt e.pos;holding [v] (truthy v)):=by intro _;rfl):PT X e (RT X.K (Aj f)):=
 Mt (Y9 h he) λ_ _ _ q=>RT.val q
theorem Fh(ho:OpR X (compareOp op) R)(s:A6 X.K R h)(ha:PE X a (RE X.K f))(hb:PE X b (RE X.K g))(hm:behindInMarks op b=false):PT X (.Compare a [op] [b] pos) (RT X.K (Aj (Ac f g h))):=
 Mt (WL ho ha hb hm) λσ H Q q=>RE.two s (RT.val q)
def Fg(f g w:M D)(h h':D->D->M D):M D:=bnd f λx=>bnd g λy=>bnd (Aj (h x y)) λk=>if k=true then bnd w λz=>h' y z else ret (.bl false)
theorem RE.chain{w:M D}{h':D->D->M D}{R':R2}(s:A6 K R h)(s':A6 K R' h'){σ:L2.St}{H:Hp}{Q:VK}(q:RE K (Fg f g w h h') σ H Q):SD R R' (RE K f) (RE K g) (RE K w) σ H Q:=by
 clear 5 q Oo c t fi r t' eq k;clear 5(Af eq)dx t1 e1 eq;clear 5(Af eq)dy t2 e2 eq;clear 5(Af eq)kb t3 e3 eq;clear 5(Af e3)d3 t3' e3' e3;clear 5(JH e3)b3 rfl z
 cases z
 refine⟨Oo,c,t,fi,dx,t1,e1,λx H1 c1 f1 s1 rx=>⟨Oo,c1,t1,f1,dy,t2,e2,λy H2 c2 f2 s2 ry=>s f2 (rx.mono s2.ext) ry e3' λv H3 c3 f3 s3 rv=>?_⟩⟩
 cases rv
 refine⟨kb,rfl,?_⟩
 cases kb with
 |false=>
   rw[ia uf1] at eq⊢
   cases eq
   exact k _ H3 c3 f3 ((s1.trans s2).trans s3) (.bl false)
 |true=>
   rw[hX rfl] at eq⊢;clear 5(Af eq)dz t4 e4 eq;exact⟨Oo,c3,t3,f3,dz,t4,e4,λw' H4 c4 f4 s4 rw'=>s' f4 (ry.mono (s3.trans s4).ext) rw' eq λv H' c' f' s' rv=>k v H' c' f' ((((s1.trans s2).trans s3).trans s4).trans s') rv⟩
theorem Tv{d:Expr}{op':CmpOp}{R':R2}{w:M D}{h':D->D->M D}(ho:OpR X (compareOp op) R)(ho':OpR X (compareOp op') R')(s:A6 X.K R h)(s':A6 X.K R' h')(ha:PE X a (RE X.K f))(hb:PE X b (RE X.K g))(hd:PE X d (RE X.K w))
 (hm:lastMarks [op,op'] [b,d]=false:=by with_unfolding_all rfl):PE X (.Compare a [op,op'] [b,d] pos) (RE X.K (Fg f g w h h')):=
 AH (Ud ho ho' ha hb hd hm) λ_ _ _ q=>RE.chain s s' q
def Jr(f g:M Bool):M Bool:=bnd f λk=>if k=true then g else ret false
def fOr(f g:M Bool):M Bool:=bnd f λk=>if k=true then ret true else g
def CY(f:M Bool):M Bool:=bnd f λk=>ret (!k)
def FD(f g:M D):M D:=bnd (Aj f) λk=>if k=true then g else ret (.bl false)
def XY(f g:M D):M D:=bnd (Aj f) λk=>if k=true then ret (.bl true) else g
def IQ(f:M D):M D:=bnd (Aj f) λk=>ret (.bl (!k))
def fIf(f:M Bool)(g h:M D):M D:=bnd f λk=>if k=true then g else h
variable{f g:M Bool}{u v w:M D}{rest:List Expr}
theorem aa(h:PW X e (RT X.K f)):PT X e (RT X.K f):=h.pt
theorem VP(ha:PT X a (RT X.K f)):PW X (.BoolOp .And [a] pos) (RT X.K f):=WN ha
theorem Yn(ha:PT X a (RT X.K f)):PW X (.BoolOp .Or [a] pos) (RT X.K f):=Zb ha
theorem Ym(ha:PT X a (RT X.K f))(hb:PW X (.BoolOp .And (b::rest) pos) (RT X.K g)):PW X (.BoolOp .And (a::b::rest) pos) (RT X.K (Jr f g)):=
 QM (Za ha hb) λσ H Q z9=>by
  clear 5 z9 Oo c t fi r t' eq k;clear 5(Af eq)kb t1 e1 eq;refine⟨Oo,c,t,fi,kb,t1,e1,λH1 c1 f1 s1=>?_⟩
  cases kb with
  |false=>rw[ia uf1] at eq⊢;cases eq;exact k H1 c1 f1 s1
  |true=>rw[hX rfl] at eq⊢;exact⟨Oo,c1,t1,f1,r,t',eq,λH2 c2 f2 s2=>k H2 c2 f2 (s1.trans s2)⟩
theorem ac(ha:PT X a (RT X.K f))(hb:PW X (.BoolOp .Or (b::rest) pos) (RT X.K g)):PW X (.BoolOp .Or (a::b::rest) pos) (RT X.K (fOr f g)):=
 QM (az ha hb) λσ H Q z9=>by
  clear 5 z9 Oo c t fi r t' eq k;clear 5(Af eq)kb t1 e1 eq;refine⟨Oo,c,t,fi,kb,t1,e1,λH1 c1 f1 s1=>?_⟩
  cases kb with
  |true=>rw[hX rfl] at eq⊢;cases eq;exact k H1 c1 f1 s1
  |false=>rw[ia uf1] at eq⊢;exact⟨Oo,c1,t1,f1,r,t',eq,λH2 c2 f2 s2=>k H2 c2 f2 (s1.trans s2)⟩
theorem Yk(ha:PT X a (RT X.K f)):PT X (.UnaryOp .Not a pos) (RT X.K (CY f)):=
 Mt (Y8 ha) λσ H Q z9=>by
  clear 5 z9 Oo c t fi r t' eq k;clear 5(Af eq)kb t1 e1 eq
  cases eq
  exact⟨Oo,c,t,fi,kb,_,e1,λH1 c1 f1 s1=>k H1 c1 f1 s1⟩
theorem NS{f:M D}{kb:Bool}{t1:T}(h:Aj f t=some (kb,t1)):f t=some (.bl kb,t1):=by
 clear 5(Af h)d t2 e1 e2;clear 5(JH e2)b rfl z
 cases z
 exact e1
theorem X8{op:PySem.BoolOp}(h:PE X a (RE X.K u)):PE X (.BoolOp op [a] pos) (RE X.K u):=Y3 h
theorem X0(ha:PE X a (RE X.K u))(hb:PE X (.BoolOp .And (b::rest) pos) (RE X.K v)):PE X (.BoolOp .And (a::b::rest) pos) (RE X.K (FD u v)):=
 AH (YX ha hb) λσ H Q z9=>by
  clear 5 z9 Oo c t fi r t' eq k;clear 5(Af eq)kb t1 e1 eq;refine⟨Oo,c,t,fi,_,t1,NS e1,λx H1 c1 f1 s1 rx=>?_⟩
  cases rx
  refine⟨kb,rfl,?_⟩
  cases kb with
  |false=>rw[ia uf1] at eq⊢;cases eq;exact k _ H1 c1 f1 s1 (.bl false)
  |true=>rw[hX rfl] at eq⊢;exact⟨Oo,c1,t1,f1,r,t',eq,λy H2 c2 f2 s2 ry=>k y H2 c2 f2 (s1.trans s2) ry⟩
theorem X6(ha:PE X a (RE X.K u)):PE X (.UnaryOp .Not a pos) (RE X.K (IQ u)):=
 AH (Y2 ha) λσ H Q z9=>by
  clear 5 z9 Oo c t fi r t' eq k;clear 5(Af eq)kb t1 e1 eq
  cases eq
  refine⟨Oo,c,t,fi,_,_,NS e1,λx H1 c1 f1 s1 rx=>?_⟩
  cases rx
  exact⟨kb,rfl,k _ H1 c1 f1 s1 (.bl (!kb))⟩
theorem Tx{d:Expr}(hc:PT X d (RT X.K f))(ha:PE X a (RE X.K u))(hb:PE X b (RE X.K v)):PE X (.IfExp d a b pos) (RE X.K (fIf f u v)):=
 AH (Ue hc ha hb) λσ H Q z9=>by
  clear 5 z9 Oo c t fi r t' eq k;clear 5(Af eq)kb t1 e1 eq;refine⟨Oo,c,t,fi,kb,t1,e1,λH1 c1 f1 s1=>?_⟩
  cases kb with
  |false=>rw[ia uf1] at eq⊢;exact⟨Oo,c1,t1,f1,r,t',eq,λy H2 c2 f2 s2 ry=>k y H2 c2 f2 (s1.trans s2) ry⟩
  |true=>rw[hX rfl] at eq⊢;exact⟨Oo,c1,t1,f1,r,t',eq,λy H2 c2 f2 s2 ry=>k y H2 c2 f2 (s1.trans s2) ry⟩
end
variable{n:Nat}{p:Pos}
section
variable{X:Cx}{e a b:Expr}{es:List Expr}{pos:Pos}
def Ad:M (List D):=ret []
def Ab(f:M D)(g:M (List D)):M (List D):=bnd f λd=>bnd g λds=>ret (d::ds)
theorem XZ:PA X [] (RA X.K Ad):=QK YW λσ H Q z9=>by
 clear 5 z9 Oo c t fi r t' eq k
 cases eq
 exact k [] H c fi .refl .nil
theorem Vp{g:M (List D)}(ha:PE X e (RE X.K f))(hr:PA X es (RA X.K g))(hs:starEach (e::es) X.env=(false,eval e X.env)::starEach es X.env:=by rfl):PA X (e::es) (RA X.K (Ab f g)):=
 QK (Wt ha hr hs) λσ H Q z9=>by
  clear 5 z9 Oo c t fi r t' eq k;clear 5(Af eq)d t1 e1 eq;clear 5(Af eq)ds t2 e2 eq
  cases eq
  exact⟨Oo,c,t,fi,d,t1,e1,λx H1 c1 f1 s1 rx=>⟨Oo,c1,t1,f1,ds,_,e2,λxs H2 c2 f2 s2 rxs=>k _ H2 c2 f2 (s1.trans s2) (.cons (rx.mono s2.ext) rxs)⟩⟩
def lim{α:Type}(n:Nat)(a:α):M α:=λt=>if n<=LIM then some (a,t) else none
theorem DE{α:Type}{a:α}{z:α×T}(h:lim n a t=some z):n<=LIM/\z=(a,t):=by
 unfold lim at h
 split at h
 .next h1=>cases h;exact⟨h1,rfl⟩
 .cases h
def AI(f:M (List D)):M D:=bnd f λds=>lim ds.length (.tup ds)
theorem Q4{x1:Nat}{f:M (List D)}(h:PA X es (RA X.K f)):PE X (.Tuple es x1 pos) (RE X.K (AI f)):=
 AH (Y4 h) λσ H Q z9=>by
  clear 5 z9 Oo c t fi r t' eq k;clear 5(Af eq)ds t1 e1 eq;clear 5(DE eq)hl z
  cases z
  refine⟨Oo,c,t,fi,ds,_,e1,λxs H1 c1 f1 s1 rxs=>⟨by rw[rxs.length];exact um5 hl B6,λp hp=>?_⟩⟩;exact k _ _ c1 (f1.laid hp) (s1.trans (f1.stp_laid hp)) (.tup AL (f1.s.free hp) (rxs.mono (Ext.laid f1.s hp)))
def AK(f:M (List D)):M (List D):=bnd f λds=>lim ds.length ds
theorem Yb{f:M (List D)}(h:PA X es (RA X.K f)):PE X (.List es pos) (RF X.K (AK f)):=
 AH (Y0 h) λσ H Q z9=>by
  clear 5 z9 Oo c t fi r t' eq k;clear 5(Af eq)ds t1 e1 eq;clear 5(DE eq)hl z
  cases z
  exact⟨Oo,c,t,fi,_,_,e1,λxs H1 c1 f1 s1 rxs=>⟨by rw[rxs.length];exact um5 hl B6,λp hp=>k p xs H1 c1 f1 s1 rxs hp⟩⟩
def Ax(f:M (List D)):M D:=bnd f λds=>ret (.lst ds)
theorem Vu{f:M (List D)}(h:PE X e (RF X.K f)):PE X e (RE X.K (Ax f)):=
 AH h λσ H Q z9=>by
  clear 5 z9 Oo c t fi r t' eq k;clear 5(Af eq)ds t1 e1 eq
  cases eq
  exact⟨Oo,c,t,fi,ds,_,e1,λp xs H1 c1 f1 s1 rxs hp=>k _ _ c1 (f1.laid hp) (s1.trans (f1.stp_laid hp)) (.lst AL (f1.s.free hp) (rxs.mono (Ext.laid f1.s hp)))⟩
noncomputable def Qd(o:Ob):M D:=λt=>some (.obj t.S.length,{t with S:=t.S++[o]})
def CA(f:M (List D)):M D:=bnd f λds=>Qd (.lst ds)
theorem X7{f:M (List D)}(h:PE X e (RF X.K f)):PE X e (RE X.K (CA f)):=
 AH h λσ H Q z9=>by
  clear 5 z9 Oo c t fi r t' eq k;clear 5(Af eq)ds t1 e1 eq
  cases eq
  refine⟨Oo,c,t,fi,ds,_,e1,λp xs H1 c1 f1 s1 rxs hp=>?_⟩;obtain⟨c2,f2,s2,e2⟩:=f1.newObj (o:=.lst ds) (u:=.lst xs) hp λc' H' ex hu=>⟨xs,hu,rxs.mono ex⟩;exact k _ _ c2 f2 (s1.trans s2) (.obj e2)
abbrev Fn:=List D->List Ob->Option (D×List Ob)
inductive spF(K:fc)(f:Fn)(vs:List V)(H:Hp)(Q:VK)(E:XK):Prop where
 |mk (c:Cf) (ds:List D) (S:List Ob) (si:SInv K c S H) (rs:Reps K c H vs ds) (r:D) (S':List Ob) (e:f ds S=some (r,S')) (k:∀v H' c',SInv K c' S' H'->Stp c.O c H c' H'->(∀b,c'.O b↔c.O b)->Rep K c' H' v r->Q v H'):spF K f vs H Q E
def Ah(g:Fn)(f:M (List D)):M D:=bnd f λds t=>match g ds t.S with
 |some (r,S')=>some (r,{t with S:=S'})
 |none=>none
theorem HN{g:Fn}{ds:List D}{r:D}{t':T}(h:(match g ds t.S with|some (r,S')=>some (r,{t with S:=S'})|none=>none:Option (D×T))=some (r,t')):∃S',g ds t.S=some (r,S')/\t' = {t with S:=S'}:=by
 cases e:g ds t.S with
 |none=>rw[e] at h;cases h
 |some p=>clear 5 p r' S';rw[e] at h;cases h;exact⟨S',rfl,rfl⟩
theorem Vq{k:Nat}{fa:fh}{fd:ft}{ps:List Str}{g:Fn}{f:M (List D)}(F:FnOk X.prog X.w X.K X.mg X.base CX0 k fa fd ps (spF X.K g))(hr:Room k X.A)(hg:Gl X x)(hm:X.mg x=some (.ref fa))(hk:PySem.W.keepIn X.K (.ref fa)=true)(hb:Binds X.K fd ps [])
 (ha:PA X (e::es) (RA X.K f)) (hdb:(x==("__debug__":Str))=false:=by decide) (he:starEach (e::es) X.env=(false,eval e X.env)::starEach es X.env:=by rfl) (hpl:(backTo pos (starEach es X.env)).any (·.1)=false:=by rfl) :
 PE X (.Call (.Name x p) (e::es) [] pos) (RE X.K (Ah g f)):=
 AH (OQ F hr hg hm hk hb .nil Mh ha hdb he hpl) λσ H Q z9=>by
  clear 5 z9 Oo c t fi r t' eq kk;clear 5(Af eq)ds t1 e1 eq;clear 5(HN eq)S' e2 rfl;refine⟨Oo,c,t,fi,ds,t1,e1,λvs H1 c1 f1 s1 rvs=>?_⟩;show spF X.K g (vs++[]) H1 Q E0;rw[uj0];refine⟨c1,ds,t1.S,f1.s,rvs,r,S',e2,λv H' c' si st ho rv=>?_⟩;clear 5(f1.after si st ho)f2 s2;exact kk v H' c' f2 (s1.trans s2) rv
def fB(f:M (List D))(h:List D->M D):M D:=bnd f h
theorem RE.callB{f:M (List D)}{h:List D->M D}{R:List V->Hp->VK->Prop}(s:Gp K R h){σ:L2.St}{H:Hp}{Q:VK}(q:RE K (fB f h) σ H Q):tCB R (RA K f) σ H Q:=by
 clear 5 q Oo c t fi r t' eq k;clear 5(Af eq)ds t1 e1 eq;exact⟨Oo,c,t,fi,ds,t1,e1,λxs H1 c1 f1 s1 rxs=>s f1 rxs eq λv H' c' f' s' rv=>k v H' c' f' (s1.trans s') rv⟩
def fBF(f:M (List D))(h:List D->M (List D)):M (List D):=bnd f h
theorem RF.callB{f:M (List D)}{h:List D->M (List D)}{R:List V->Hp->VK->Prop}(s:Ma K R h){σ:L2.St}{H:Hp}{Q:VK}(q:RF K (fBF f h) σ H Q):tCB R (RA K f) σ H Q:=by
 clear 5 q Oo c t fi r t' eq k;clear 5(Af eq)ds t1 e1 eq;exact⟨Oo,c,t,fi,ds,t1,e1,λxs H1 c1 f1 s1 rxs=>s f1 rxs eq λp vs H' c' f' s' rv hp=>k p vs H' c' f' (s1.trans s') rv hp⟩
theorem RF.two{h:D->D->M (List D)}(s:L9 K R h){σ:L2.St}{H:Hp}{Q:VK}(q:RF K (bnd f λx=>bnd g λy=>h x y) σ H Q):tOp R (RE K f) (RE K g) σ H Q:=by
 clear 5 q Oo c t fi r t' eq k;clear 5(Af eq)dx t1 e1 eq;clear 5(Af eq)dy t2 e2 eq;exact⟨Oo,c,t,fi,dx,t1,e1,λx H1 c1 f1 s1 rx=>⟨Oo,c1,t1,f1,dy,t2,e2,λy H2 c2 f2 s2 ry=>s f2 (rx.mono s2.ext) ry eq λp vs H' c' f' s' rv hp=>k p vs H' c' f' ((s1.trans s2).trans s') rv hp⟩⟩
end
variable{μ:Cf->Hp->D->(V->Hp->Prop)->Prop}
section
variable{X:Cx}{e a b:Expr}{pos:Pos}{st:Stmt}{sts:List Stmt}
noncomputable def Ae(f g:M Out):M Out:=λt=>match f t with
 |some (.next,t1)=>g t1
 |z=>z
def Aq:M Out:=ret .next
theorem VO:PSs X [] (RSg X.K μ Aq):=Og WK λE σ H z9=>by
 clear 5 z9 Oo c t fi o t' eq k
 cases eq
 exact k σ H c fi .refl
theorem TK{μ:Cf->Hp->D->(V->Hp->Prop)->Prop}{f g:M Out}(h1:PS X st (RSg X.K μ f))(h2:PSs X sts (RSg X.K μ g)):PSs X (st::sts) (RSg X.K μ (Ae f g)):=
 Og (Ul h1 h2) λE σ H z9=>by
  clear 5 z9 Oo c t fi o t' eq k;unfold Ae at eq
  cases e1:f t with
  |none=>rw[e1] at eq;cases eq
  |some p=>
    clear 5 p o1 t1;rw[e1] at eq;refine⟨Oo,c,t,fi,o1,t1,e1,λσ1 H1 c1 f1 s1=>?_⟩
    cases o1 with
    |next=>exact⟨Oo,c1,t1,f1,o,t',eq,λσ2 H2 c2 f2 s2=>k σ2 H2 c2 f2 (s1.trans s2)⟩
    |brk=>cases eq;exact k σ1 H1 c1 f1 s1
    |cont=>cases eq;exact k σ1 H1 c1 f1 s1
    |ret d=>cases eq;exact k σ1 H1 c1 f1 s1
theorem K1{μ:Cf->Hp->D->(V->Hp->Prop)->Prop}{f:M Out}(h1:PS X st (RSg X.K μ f)):PSs X [st] (RSg X.K μ f):=OV h1
def Al(f:M D):M Out:=bnd f λd=>ret (.ret d)
theorem Re(h:PE X e (RE X.K f)):PS X (.Return (some e) pos) (RS X.K (Al f)):=
 AU (Iu h) λE σ H z9=>by
  clear 5 z9 Oo c t fi o t' eq k;clear 5(Af eq)d t1 e1 eq
  cases eq
  exact⟨Oo,c,t,fi,d,_,e1,λv H1 c1 f1 s1 rv=>k σ H1 c1 f1 s1 v rv⟩
theorem Oy:PS X (.Pass pos) (RSg X.K μ Aq):=AU WI λE σ H z9=>by
 clear 5 z9 Oo c t fi o t' eq k
 cases eq
 exact k σ H c fi .refl
def Dq(f:M D):M Out:=bnd f λ_=>ret .next
theorem Ov(h:PE X e (RE X.K f))(hs:swapsWith e none pos.line X.env=pure false:=by rfl):PS X (.Expr e pos) (RSg X.K μ (Dq f)):=
 AU (Ld h hs) λE σ H z9=>by
  clear 5 z9 Oo c t fi o t' eq k;clear 5(Af eq)d t1 e1 eq
  cases eq
  exact⟨Oo,c,t,fi,d,_,e1,λv H1 c1 f1 s1 rv=>k σ H1 c1 f1 s1⟩
def ifS(f:M Bool)(g h:M Out):M Out:=bnd f λk=>if k=true then g else h
theorem Z9{f:M Bool}{g h:M Out}{sa sb:List Stmt}(hc:PT X e (RT X.K f))(ha:PSs X sa (RSg X.K μ g))(hb:PSs X sb (RSg X.K μ h)):PS X (.If e sa sb pos) (RSg X.K μ (ifS f g h)):=
 AU (ay hc ha hb) λE σ H z9=>by
  clear 5 z9 Oo c t fi o t' eq k;clear 5(Af eq)kb t1 e1 eq;refine⟨Oo,c,t,fi,kb,t1,e1,λH1 c1 f1 s1=>?_⟩
  cases kb with
  |true=>rw[hX rfl] at eq⊢;exact⟨Oo,c1,t1,f1,o,t',eq,λσ2 H2 c2 f2 s2=>k σ2 H2 c2 f2 (s1.trans s2)⟩
  |false=>rw[ia uf1] at eq⊢;exact⟨Oo,c1,t1,f1,o,t',eq,λσ2 H2 c2 f2 s2=>k σ2 H2 c2 f2 (s1.trans s2)⟩
noncomputable def Ao(i:Nat)(d:D):M Unit:=λt=>some ((),{t with env:=t.env.set i (some (.val d))})
def An(i:Nat)(f:M D):M Out:=bnd f λd=>bnd (Ao i d) λ_=>ret .next
theorem RS.set{μ:Cf->Hp->D->(V->Hp->Prop)->Prop}{K:fc}{i:Nat}{f:M D}{E:Ends}{σ:L2.St}{H:Hp}(q:RSg K μ (An i f) E σ H):NQ (RE K f) (Ka i) E σ H:=by
 clear 5 q Oo c t fi o t' eq k;clear 5(Af eq)d t1 e1 eq
 cases eq
 exact⟨Oo,c,t,fi,d,t1,e1,λv H1 c1 f1 s1 rv=>k _ H1 c1 (f1.set rv) s1⟩
theorem Rg{pos':Pos}(hN:X.N.Nodup)(hi:X.N[i]?=some x)(hx:Loc X.env.scope x)(he:PE X e (RE X.K f))(hs:swapsWith e (some (.Name x pos')) pos.line X.env=pure false:=by rfl)(hf:X.fn x=true\/X.env.scope.names.lookup x=some .local:=by walk_at"h") :
 PS X (.Assign [.Name x pos'] e pos) (RSg X.K μ (An i f)):=AU (Nu hN hi hx he hs hf) λ_ _ _ q=>RS.set q
def C9(i:Nat)(f:M (List D)):M Out:=bnd f λds t=>some (.next,{t with env:=t.env.set i (some (.own ds))})
theorem RS.own{f:M (List D)}{E:Ends}(q:RSg K μ (C9 i f) E σ H):NQ (RF K f) (Ka i) E σ H:=by
 clear 5 q Oo c t fi o t' eq k;clear 5(Af eq)ds t1 e1 eq
 cases eq
 refine⟨Oo,c,t,fi,ds,t1,e1,λp vs H1 c1 f1 s1 rv hp=>?_⟩;clear 5(f1.setOwn (i:=i) hp rv)c2 f2 s2;exact k _ _ c2 f2 (s1.trans s2)
theorem Yi{f:M (List D)}{pos':Pos}(hN:X.N.Nodup)(hi:X.N[i]?=some x)(hx:Loc X.env.scope x)(he:PE X e (RF X.K f))(hs:swapsWith e (some (.Name x pos')) pos.line X.env=pure false:=by rfl)(hf:X.fn x=true\/X.env.scope.names.lookup x=some .local:=by walk_at"h") :
 PS X (.Assign [.Name x pos'] e pos) (RSg X.K μ (C9 i f)):=AU (Nu hN hi hx he hs hf) λ_ _ _ q=>RS.own q
theorem Co(hN:X.N.Nodup)(hi:X.N[i]?=some x)(hx:Loc X.env.scope x)(hf:X.fn x=true\/X.env.scope.names.lookup x=some .local:=by walk_at"h"):PG X (.Name x pos) (RG X.K (Ao i)):=
 HG (WA hN hi hx hf) λv σ H Q z9=>by
  clear 5 z9 Oo c t d fi rv t' eq k
  cases eq
  exact k _ H c (fi.set rv) .refl
def Cy(f:M D)(g:D->M Unit):M Out:=bnd f λd=>bnd (g d) λ_=>ret .next
theorem Yg{g:D->M Unit}(he:PE X e (RE X.K f))(hg:PG X tg (RG X.K g))(hs:swapsWithSole [tg] e pos.line X.env=pure false:=by rfl)(hw:swappedStores [tg] e X.env=pure none:=by rfl)(hp:(assignEach [tg] X.env).map (·.2)=[assign tg X.env]:=by rfl) :
 PS X (.Assign [tg] e pos) (RSg X.K μ (Cy f g)):=
 AU (by first|exact Sf he hg hs hw|exact Sf he hg hs hw hp) λE σ H z9=>by
  clear 5 z9 Oo c t fi o t' eq k;clear 5(Af eq)d t1 e1 eq;clear 5(Af eq)u t2 e2 eq
  cases eq
  exact⟨Oo,c,t,fi,d,t1,e1,λv H1 c1 f1 s1 rv=>⟨Oo,c1,t1,d,f1,rv,_,e2,λσ2 H2 c2 f2 s2=>k σ2 H2 c2 f2 (s1.trans s2)⟩⟩
inductive RGs(K:fc)(f:List D->M Unit)(vs:List V)(σ:L2.St)(H:Hp)(Q:L2.St->Hp->Prop):Prop where
 |mk (Oo:fh->Prop) (c:Cf) (t:T) (ds:List D) (fi:FInv K Oo c t σ H) (r:Reps K c H vs ds) (t':T) (e:f ds t=some ((),t')) (k:∀σ' H' c',FInv K Oo c' t' σ' H'->Stp Oo c H c' H'->Q σ' H'):RGs K f vs σ H Q
theorem Of{ts:List Expr}{t t':TGs}(h:PGs X ts t)(i:∀v σ H Q,t' v σ H Q->t v σ H Q):PGs X ts t':=λff s σ H vs us Q I r q=>h ff s σ H vs us Q I r (i vs σ H Q q)
def Bc:List D->M Unit
 |[]=>ret ()
 |_=>fail
def Ay(f:D->M Unit)(g:List D->M Unit):List D->M Unit
 |d::ds=>bnd (f d) λ_=>g ds
 |[]=>fail
theorem Vv:PGs X [] (RGs X.K Bc):=Of WB λvs σ H Q z9=>by
 clear 5 z9 Oo c t ds fi rv t' eq k
 cases rv with
 |nil=>cases eq;exact⟨rfl,k σ H c fi .refl⟩
 |cons _ _=>cases eq
theorem RGs.cons{K:fc}{f:D->M Unit}{g:List D->M Unit}{vs:List V}{σ:L2.St}{H:Hp}{Q:L2.St->Hp->Prop}(q:RGs K (Ay f g) vs σ H Q):UW (RG K f) (RGs K g) vs σ H Q:=by
 clear 5 q Oo c t ds fi rv t' eq k
 cases rv with
 |nil=>cases eq
 |cons r rs=>
   clear 5(Af eq)u t1 e1 eq;exact⟨_,_,rfl,Oo,c,t,_,fi,r,t1,e1,λσ1 H1 c1 f1 s1=>⟨Oo,c1,t1,_,f1,rs.mono s1.ext,t',eq,λσ2 H2 c2 f2 s2=>k σ2 H2 c2 f2 (s1.trans s2)⟩⟩
def unT(n:Nat)(g:List D->M Unit):D->M Unit
 |.tup ds=>if ds.length=n then g ds else fail
 |_=>fail
def Cl(st:D->M Unit)(b:M Out):List D->M Out
 |[]=>ret .next
 |d::r=>λt=>match st d t with
   |none=>none
   |some (_,t1)=>match b t1 with
     |some (.next,t2)=>Cl st b r t2
     |some (.cont,t2)=>Cl st b r t2
     |some (.brk,t2)=>some (.next,t2)
     |some (.ret x,t2)=>some (.ret x,t2)
     |none=>none
def Bq(f:M (List D))(st:D->M Unit)(b:M Out):M Out:=bnd f λds=>Cl st b ds
theorem RS.for{f:M (List D)}{g:D->M Unit}{b:M Out}{E:Ends}(q:RSg K μ (Bq f g b) E σ H):Qu (RI K f) (RG K g) (RSg K μ b) E σ H:=by
 clear 5 q Oo c t fi o t' eq k;clear 5(Af eq)ds t1 e1 eq;refine⟨Oo,c,t,fi,ds,t1,e1,λJ H1 c1 f1 s1 it=>?_⟩;refine⟨λi m σ' H'=>m=ds.length-i/\i<=ds.length/\∃c' t2,FInv K Oo c' t2 σ' H'/\Stp Oo c1 H1 c' H'/\Cl g b (ds.drop i) t2=some (o,t'),⟨_,rfl,un7 _,c1,t1,f1,.refl,by rw[uk8];exact eq⟩,?_⟩;rintro i m σ' H' ⟨rfl,hi,c',t2,f2,s2,e2⟩
 by_cases hlt:i<ds.length
 .refine .inr ⟨it.go c' H' i s2.ext hlt,λσ3 H3=>∃c3 t3,FInv K Oo c3 t3 σ3 H3/\Stp Oo c1 H1 c3 H3/\Cl g b (ds.drop (i+1)) t3=some (o,t'),λσ3 H3 h=>⟨ds.length-(i+1),by lia,rfl,hlt,h⟩,λx H'' hy=>?_⟩;clear 5(it.yld c' H' i x H'' _ s2.ext (ub2 hlt) hy)rfl rx;rw[ua9 hlt] at e2;unfold Cl at e2
  cases e3:g ds[i] t2 with
  |none=>rw[e3] at e2;cases e2
  |some p=>
    clear 5 p u t3;rw[e3] at e2
    try dsimp only at e2
    refine⟨Oo,c',t2,_,f2,rx,t3,e3,λσ3 H3 c3 f3 s3=>?_⟩
    cases e4:b t3 with
    |none=>rw[e4] at e2;cases e2
    |some p=>
      clear 5 p o4 t4;rw[e4] at e2
      try dsimp only at e2
      refine⟨Oo,c3,t3,f3,o4,t4,e4,λσ5 H5 c5 f5 s5=>?_⟩;have s':=(s2.trans s3).trans s5
      cases o4 with
      |next=>exact⟨c5,t4,f5,s',e2⟩
      |cont=>exact⟨c5,t4,f5,s',e2⟩
      |brk=>cases e2;exact k σ5 H5 c5 f5 (s1.trans s')
      |ret r=>cases e2;exact k σ5 H5 c5 f5 (s1.trans s')
 .have hi':i=ds.length:=by lia
  subst hi';rw[uh7] at e2
  cases e2
  exact .inl ⟨it.stop c' H' s2.ext,k σ' H' c' f2 (s1.trans s2)⟩
theorem Rb{iter:Expr}{body:List Stmt}{f:M (List D)}{g:D->M Unit}{b:M Out}(hp:PassesOwn (model X.prog X.w) X.A X.env X.xe)(hc:X.calm=true)(hi:PI X tg iter (RI X.K f))(hg:PG X tg (RG X.K g))(hb:PSs X body (RSg X.K μ b))
 (hs:∀x,foldedSetIterable iter X.env x=pure x:=by intro _;rfl):PS X (.For tg iter body [] pos) (RSg X.K μ (Bq f g b)):=
 AU (Nt hp hc hi hg hb hs) λ_ _ _ q=>RS.for q
theorem ItOk.lst{K:fc}{c:Cf}{H:Hp}{p:fh}{ds:List D}(r:∀c' H',Ext c H c' H'->∃vs,SqL K H' p vs/\Reps K c' H' vs ds):ItOk K (Itl K p) c H ds:=by
 refine⟨λc' H' i ex hi=>?_,λc' H' i x H'' d ex hd hy=>?_,λc' H' ex=>?_⟩
 .clear 5(r c' H' ex)vs h1 h2;obtain⟨v,e,_⟩:=h2.at (ub2 hi);exact⟨vs,v,h1,e⟩
 .clear 5(r c' H' ex)vs h1 h2;clear 5 hy rfl h;exact⟨rfl,h2.get (h vs h1) hd⟩
 .clear 5(r c' H' ex)vs h1 h2;exact⟨vs,h1,by rw[h2.length];exact un6 _⟩
theorem ItOk.tup{K:fc}{c:Cf}{H:Hp}{p:fh}{ds:List D}(r:∀c' H',Ext c H c' H'->∃vs,SqT K H' p vs/\Reps K c' H' vs ds):ItOk K (Itt K p) c H ds:=by
 refine⟨λc' H' i ex hi=>?_,λc' H' i x H'' d ex hd hy=>?_,λc' H' ex=>?_⟩
 .clear 5(r c' H' ex)vs h1 h2;obtain⟨v,e,_⟩:=h2.at (ub2 hi);exact⟨vs,v,h1,e⟩
 .clear 5(r c' H' ex)vs h1 h2;clear 5 hy rfl h;exact⟨rfl,h2.get (h vs h1) hd⟩
 .clear 5(r c' H' ex)vs h1 h2;exact⟨vs,h1,by rw[h2.length];exact un6 _⟩
end
theorem FInv.leave{Oo:fh->Prop}(f:FInv K Oo c t σ H):SInv K ⟨c.ι,Oo⟩ t.S H/\Ext c H ⟨c.ι,Oo⟩ H:=by
 have ext:Ext c H ⟨c.ι,Oo⟩ H:=⟨λ_ _ e _=>e,λb o _ z=>z.elim .inl λw=>.inr (f.sub b w),λ_ _ e=>e⟩;exact⟨⟨f.s.len,f.s.nd,λk a o e1 e2=>(f.s.obs k a o e1 e2).mono ext rfl,λb z=>f.s.trk b (f.sub b z),λb z=>f.s.dis b (f.sub b z)⟩,ext⟩
noncomputable def env0(m:Nat)(ds:List D):List (Option Sl):=ds.map (λd=>some (.val d))++List.replicate (m-ds.length) none
def fnOf(n m:Nat)(g:M Out):Fn:=λds S=>if ds.length=n then(match g ⟨env0 m ds,S⟩ with
 |some (.ret r,t)=>some (r,t.S)
 |some (.next,t)=>some (.non,t.S)
 |_=>none) else none
theorem Hi{ds:List D}{N:List Str}(s:SInv K c S H)(r:Reps K c H vs ds):FInv K c.O c ⟨env0 N.length ds,S⟩ (L2.Eb N vs) H:=by
 have hlen:vs.length=ds.length:=r.length;have none_:∀{i:Nat}{x:Sl},(env0 N.length ds)[i]?=some (some x)->∃d,ds[i]?=some d/\x=.val d:=λ{i x} q=>by
  unfold env0 at q
  by_cases hi:i<ds.length
  .rw[ua8 (by simpa using hi),ug1,ub2 hi] at q;simp at q;exact⟨ds[i],ub2 hi,q.symm⟩
  .rw[ua4 (by simpa using hi),ub3] at q
   split at q<;>simp at q
 refine⟨s,by simp[env0,L2.Eb,hlen],λ_ z=>z,λi d q=>?_,λi es q=>?_,λi j es _ a q _ _ _=>?_⟩
 .obtain⟨d',h1,h2⟩:=none_ q
  cases h2
  clear 5(r.at h1)v h3 h4;refine⟨v,?_,h4⟩;unfold L2.Eb;have hi:=(ua7.mp h3).1;rw[ua8 (by simpa using hi),ug1,h3];rfl
 .obtain⟨_,_,h2⟩:=none_ q;cases h2
 .obtain⟨_,_,h2⟩:=none_ q;cases h2
theorem Z8{P:fk}{w:fq}{mg:Str->Option fg}{base:Heap}{qual:Str}{st:Stmt}{fa:fh}{fd:ft}{N ps:List Str}{k:Nat}{g:M Out}(F:Fun K x qual st fa fd)(S:FnScope N ps (AF st))
 (hb:∀(cdv:fg) (A:Around) (outer:List Env) (s:fj) (H:Hp) (E:XK),Room k (A.deeper (PyProof.Rows.envOfC qual (AF st) s.heap.objs.size fa cdv))->
   PSs (EM CX0 P w K mg base N qual (AF st) fa cdv A outer s H E).nox (CN st) (RS K g)):FnOk P w K mg base CX0 (k+1) fa fd ps (spF K (fnOf ps.length N.length g)):=by
 have hlen:∀{ds:List D}{S:List Ob}{z:D×List Ob},fnOf ps.length N.length g ds S=some z->ds.length=ps.length:=λ{ds S z} h=>by
  unfold fnOf at h
  split at h
  .next h1=>exact h1
  .cases h
 refine F.ok S (λvs H Q E h=>?_) (λcdv A outer s H vs Q E hr h=>?_)
 .obtain⟨c,ds,S,si,rs,r,S',e,_⟩:=h;rw[rs.length];exact hlen e
 clear 5 h c ds S0 si rs r S' e kk;refine⟨RS K g,hb cdv A outer s H E hr,?_⟩;have hl:=hlen e;unfold fnOf at e;rw[hX hl] at e
 cases eg:g ⟨env0 N.length ds,S0⟩ with
 |none=>rw[eg] at e;cases e
 |some p=>
   clear 5 p o t;rw[eg] at e;refine⟨c.O,c,_,Hi si rs,o,t,eg,λσ' H' c' f' s'=>?_⟩;clear 5 f'.leave si' ext';have st':Stp c.O c H ⟨c'.ι,c.O⟩ H':=⟨s'.ext.trans ext',s'.oo⟩
   cases o with
   |next=>cases e;exact kk .non H' _ si' st' (λ_=>hV) .non
   |ret d=>cases e;exact λv rv=>kk v H' _ si' st' (λ_=>hV) (rv.mono ext')
   |brk=>cases e
   |cont=>cases e
variable{fr:List Nat}
section
variable{X:Cx}{e a b:Expr}{pos:Pos}
def items:D->M (List D)
 |.lst ds=>ret ds
 |.tup ds=>ret ds
 |.scr ns=>ret (ns.map .int)
 |_=>fail
noncomputable def AM(lo:Int)(n:Nat):List D:=(List.range n).map λi=>.int (lo+(i:Nat))
theorem ItOk.rng{lo:Int}:ItOk K (Itr lo n) c H (AM lo n):=by
 refine⟨λc' H' i ex hi=>?_,λc' H' i x H'' d ex hd hy=>?_,λc' H' ex=>?_⟩
 .have:i<n:=by simpa[AM] using hi
  exact this
 .clear 5 hy rfl rfl;refine⟨rfl,?_⟩;have hi:i<n:=by
   have:=(ua7.mp hd).1;simpa[AM] using this
  have:d=.int (lo+(i:Nat)):=by
   rw[AM,ug1,ue7 hi] at hd;simpa using hd.symm
  rw[this];exact .int _
 .show n<=(AM lo n).length;simp[AM]
noncomputable def De(i:Int):Bool:=decide (-(2 ^ 62)<=i)&&decide (i<2 ^ 62)
def Li:List D->M (List D)
 |[.int j]=>λt=>if De j=true then some (AM 0 j.toNat,t) else none
 |_=>fail
def Lj:List D->M (List D)
 |[.int i,.int j]=>λt=>if (De i&&De j)=true then some (AM i (j-i).toNat,t) else none
 |_=>fail
def BZ(f:M (List D)):M (List D):=bnd f Li
def Gi(f:M (List D)):M (List D):=bnd f Lj
theorem Gk{i:Int}(h:De i=true) : -(2 ^ 62)<=i/\i<2 ^ 62:=by
 unfold De at h;rw[uh5] at h;exact⟨ug9 h.1,ug9 h.2⟩
theorem Q7{f:M (List D)}(hg:Gl X "range")(hm:X.mg "range" = none)(ha:PA X [a] (RA X.K f))(hs:starEach [a] X.env=[(false,eval a X.env)]:=by rfl):PI X tg (.Call (.Name "range" p) [a] [] pos) (RI X.K (BZ f)):=
 GD (Sc hg hm ha hs) λσ H R z9=>by
  clear 5 z9 Oo c t fi ds t' eq k;clear 5(Af eq)xs t1 e1 eq;refine⟨Oo,c,t,fi,xs,t1,e1,λvs H1 c1 f1 s1 rv=>?_⟩;unfold Li at eq
  split at eq
  .next j=>
   split at eq
   .next hs=>
    cases eq
    cases rv with
    |cons r rs=>
      cases rs
      cases r
      clear 5(Gk hs)h1 h2;exact⟨j,rfl,h1,h2,k _ H1 c1 f1 s1 ItOk.rng⟩
   .cases eq
  .cases eq
theorem Q8{f:M (List D)}(hg:Gl X "range")(hm:X.mg "range" = none)(ha:PA X [a,b] (RA X.K f))(hs:starEach [a,b] X.env=[(false,eval a X.env),(false,eval b X.env)]:=by rfl)(hs2:starEach [b] X.env=[(false,eval b X.env)]:=by rfl):PI X tg (.Call (.Name "range" p) [a,b] [] pos) (RI X.K (Gi f)):=
 GD (Sd hg hm ha hs hs2) λσ H R z9=>by
  clear 5 z9 Oo c t fi ds t' eq k;clear 5(Af eq)xs t1 e1 eq;refine⟨Oo,c,t,fi,xs,t1,e1,λvs H1 c1 f1 s1 rv=>?_⟩;unfold Lj at eq
  split at eq
  .next i j=>
   split at eq
   .next hs=>
    cases eq
    rw[uh5] at hs
    cases rv with
    |cons r rs=>
      cases r
      cases rs with
      |cons r rs=>
        cases rs
        cases r
        clear 5(Gk hs.1)h1 h2;clear 5(Gk hs.2)h3 h4;exact⟨i,j,rfl,⟨h1,h2,h3,h4⟩,k _ H1 c1 f1 s1 ItOk.rng⟩
   .cases eq
  .cases eq
def Bl(st:D->M Unit)(tst:M Bool)(elt:M D):List D->M (List D)
 |[]=>ret []
 |d::r=>bnd (st d) λ_=>bnd tst λk=>if k=true then bnd elt λx=>bnd (Bl st tst elt r) λxs=>ret (x::xs) else Bl st tst elt r
noncomputable def aQ:Option (Option Sl)->Option Sl
 |some (some (.val d))=>some (.val d)
 |_=>none
def cenv(n:Nat)(fr:List Nat)(env:List (Option Sl)):List (Option Sl):=List.replicate n none++fr.map λi=>aQ env[i]?
noncomputable def Dw(n:Nat)(fr:List Nat)(σ:L2.St):L2.St:=List.replicate n none++fr.map λi=>(σ[i]?).join
def AS(n:Nat)(fr:List Nat)(f:M (List D))(st:D->M Unit)(tst:M Bool)(elt:M D):M (List D):=bnd f λds t=>match Bl st tst elt ds ⟨cenv n fr t.env,t.S⟩ with
 |some (xs,t')=>if xs.length<=LIM then some (xs,{t with S:=t'.S}) else none
 |none=>none
theorem Jq{env:List (Option Sl)}{x:Sl}(h:(cenv n fr env)[j]?=some (some x)):∃i d,n<=j/\fr[j-n]?=some i/\env[i]?=some (some (.val d))/\x=.val d:=by
 unfold cenv at h
 by_cases hj:j<n
 .rw[ua8 (by simpa using hj),ub3] at h
  split at h<;>simp at h
 .rw[ua4 (by simpa using hj),uc7,ug1] at h
  cases e:fr[j-n]? with
  |none=>rw[e] at h;simp at h
  |some i=>
    rw[e] at h;simp only[uj8,Option.some.injEq] at h
    cases e2:env[i]? with
    |none=>rw[e2] at h;cases h
    |some o=>
      cases o with
      |none=>rw[e2] at h;cases h
      |some sl=>
        cases sl with
        |own _=>rw[e2] at h;cases h
        |val d=>rw[e2] at h;cases h;exact⟨i,d,by lia,rfl,e2,rfl⟩
theorem Hh{Oo:fh->Prop}(f:FInv K Oo c t σ H):FInv K c.O c ⟨cenv n fr t.env,t.S⟩ (Dw n fr σ) H:=by
 refine⟨f.s,by simp[cenv,Dw],λ_ z=>z,λj d q=>?_,λj es q=>?_,λj _ es _ _ q _ _ _=>?_⟩
 .obtain⟨i,d',h0,h1,h2,h3⟩:=Jq q
  cases h3
  clear 5(f.val i d h2)v h4 h5;refine⟨v,?_,h5⟩;unfold Dw;rw[ua4 (by simpa using h0),uc7,ug1,h1];simp[h4]
 .obtain⟨_,_,_,_,_,h⟩:=Jq q;cases h
 .obtain⟨_,_,_,_,_,h⟩:=Jq q;cases h
theorem RF.comp{f:M (List D)}{st:D->M Unit}{tst:M Bool}{elt:M D}{Q:VK}(q:RF K (AS n fr f st tst elt) σ H Q):Kv (RI K f) (RG K st) (RT K tst) (RE K elt) (Dw n fr) σ H Q:=by
 clear 5 q Oo c t fi xs t' eq k;clear 5(Af eq)ds t1 e1 eq;refine⟨Oo,c,t,fi,ds,t1,e1,λJ H1 c1 f1 s1 it=>?_⟩
 cases e3:Bl st tst elt ds ⟨cenv n fr t1.env,t1.S⟩ with
 |none=>rw[e3] at eq;cases eq
 |some p=>
   clear 5 p ys t3;rw[e3] at eq;dsimp only at eq
   split at eq
   case isFalse=>cases eq
   next hl=>
   cases eq
   refine⟨λi m acc σ' H'=>m=ds.length-i/\i<=ds.length/\∃c' t2 zs rest,FInv K c1.O c' t2 σ' H'/\Stp c1.O c1 H1 c' H'/\Reps K c' H' acc zs/\Bl st tst elt (ds.drop i) t2=some (rest,t3)/\xs=zs++rest,
    ⟨_,rfl,un7 _,c1,_,[],xs,Hh f1,.refl,.nil,by rw[uk8];exact e3,rfl⟩,?_⟩
   rintro i m acc σ' H' ⟨rfl,hi,c',t2,zs,rest,f2,s2,ra,e2,ez⟩;have hacc:acc.length<=sizeLine:=by
    have:zs.length<=xs.length:=by rw[ez,uf3];exact uh8 _ _
    rw[ra.length];exact um5 this (um5 hl B6)
   refine⟨hacc,?_⟩
   by_cases hlt:i<ds.length
   .refine .inr ⟨it.go c' H' i s2.ext hlt,λx H'' hy=>?_⟩;clear 5(it.yld c' H' i x H'' _ s2.ext (ub2 hlt) hy)rfl rx;rw[ua9 hlt] at e2;unfold Bl at e2;clear 5(Af e2)u t4 e4 e2;clear 5(Af e2)kb t5 e5 e2;refine⟨c1.O,c',t2,_,f2,rx,t4,e4,λσ3 H3 c3 f3 s3=>⟨c1.O,c3,t4,f3,kb,t5,e5,λH4 c4 f4 s4=>?_⟩⟩
    cases kb with
    |false=>
      rw[ia uf1] at e2⊢;exact⟨ds.length-(i+1),by lia,rfl,hlt,c4,t5,zs,rest,f4,(s2.trans s3).trans s4,ra.mono (s3.trans s4).ext,e2,ez⟩
    |true=>
      rw[hX rfl] at e2⊢;clear 5(Af e2)x6 t6 e6 e2;clear 5(Af e2)r7 t7 e7 e2
      cases e2
      refine⟨c1.O,c4,t5,f4,x6,t6,e6,λv H5 c5 f5 s5 rv=>?_⟩;exact⟨ds.length-(i+1),by lia,rfl,hlt,c5,t6,zs++[x6],r7,f5,((s2.trans s3).trans s4).trans s5,(ra.mono ((s3.trans s4).trans s5).ext).append (.cons rv .nil),e7,by rw[ez,ug3];rfl⟩
   .have hi':i=ds.length:=by lia
    subst hi';rw[uh7] at e2
    cases e2
    refine .inl ⟨it.stop c' H' s2.ext,λp hp _=>?_⟩;clear 5 f2.leave si ext;clear 5(f1.after si ⟨s2.ext.trans ext,s2.oo⟩ (λ_=>hV))f6 s6;rw[uj0] at ez;subst ez;exact k p acc H' _ f6 (s1.trans s6) (ra.mono ext) hp
end
end
open PySem.SeqAt
noncomputable def eq0:D->D->Option Bool
 |.int a,.int b=>some (a==b)
 |.str a,.str b=>some (a==b)
 |.bl a,.bl b=>some (a==b)
 |.non,.non=>some true
 |.non,.tup _=>some false
 |_,_=>none
noncomputable def Dx(f:D->D->Option Bool):List D->List D->Option Bool
 |x::xs,y::ys=>match f x y,Dx f xs ys with
   |some a,some b=>some (a&&b)
   |_,_=>none
 |_,_=>some true
def eqN:Nat->D->D->Option Bool
 |0,x,y=>eq0 x y
 |n+1,.tup xs,.tup ys=>(Dx (eqN n) xs ys).map λb=>b&&xs.length==ys.length
 |n+1,.lst xs,.lst ys=>if xs.length=ys.length then Dx (eqN n) xs ys else some false
 |_+1,x,y=>eq0 x y
noncomputable def ej(f:D->D->Option Bool)(xs ys:List D)(j:Nat):Bool:=match xs[j]?,ys[j]? with
 |some d,some e=>(f d e).getD true
 |_,_=>true
theorem Dy{f:D->D->Option Bool}:∀{xs ys:List D}{b:Bool},Dx f xs ys=some b->b=(List.range (min xs.length ys.length)).all (ej f xs ys)/\∀(j:Nat) d e,xs[j]?=some d->ys[j]?=some e->∃k,f d e=some k
 |[],ys,b,h=>by
   have h:some true=some b:=by simpa[Dx] using h
   cases h
   refine⟨by simp,λj d e q _=>by simp at q⟩
 |x::xs,[],b,h=>by
   have h:some true=some b:=by simpa[Dx] using h
   cases h
   refine⟨by simp,λj d e _ q=>by simp at q⟩
 |x::xs,y::ys,b,h=>by
   unfold Dx at h
   cases e1:f x y with
   |none=>rw[e1] at h;cases h
   |some a=>
     cases e2:Dx f xs ys with
     |none=>rw[e1,e2] at h;cases h
     |some c=>
       rw[e1,e2] at h
       cases h
       clear 5(Dy e2)h1 h2;refine⟨?_,λj d e q1 q2=>?_⟩
       .have hm:min (x::xs).length (y::ys).length=min xs.length ys.length+1:=by simp[Nat.succ_min_succ]
        rw[hm,gi,ul6,List.all_map,h1];have:ej f (x::xs) (y::ys) 0=a:=by simp[ej,e1]
        rw[this];rfl
       .cases j with
        |zero=>simp at q1 q2;subst q1 q2;exact⟨a,e1⟩
        |succ j=>exact h2 j d e (by simpa using q1) (by simpa using q2)
section
variable{P:fk}{w:fq}{H:Hp}{vs:List V}
theorem Hk{h:Heap}{a:fh}(o:HOk P w H h)(e:H a=some (.lst vs)):∃its:List fg,Vals vs its/\h.IsList a its.toArray:=by
 obtain⟨_,its,n,r,q⟩:=o a _ e;exact⟨its,r,_,q,rfl,n,rfl⟩
theorem FO{h:Heap}{a:fh}(o:HOk P w H h)(e:H a=some (.tup vs)):∃its:List fg,Vals vs its/\h.IsTuple a its.toArray:=by
 obtain⟨_,its,r,q⟩:=o a _ e;exact⟨its,r,q⟩
theorem Kz{its:List fg}{j:Nat}(r:Vals vs its)(h:j<its.toArray.size):∃v,vs[j]?=some v/\RelV v its.toArray[j]:=by
 have h':j<its.length:=by simpa using h
 have hl:j<vs.length:=by rw[r.length];exact h'
 clear 5(r.get (ub2 hl))u e1 e2;refine⟨vs[j],ub2 hl,?_⟩;rw[ub2 h'] at e1
 cases e1
 simpa using e2
variable{b:Bool}
theorem QX{f:D->D->Option Bool}{xs ys:List D}(h:Dx f xs ys=some b)(ht:∀(j:Nat) d e k,xs[j]?=some d->ys[j]?=some e->f d e=some k->k=true):b=true:=by
 clear 5(Dy h)h1 h2;rw[h1,uh9];intro j hj;have hj':=uk4.mp hj;have l1:j<xs.length:=by lia
 have l2:j<ys.length:=by lia
 clear 5(h2 j _ _ (ub2 l1) (ub2 l2))k ek;have:=ht j _ _ k (ub2 l1) (ub2 l2) ek;unfold ej;rw[ub2 l1,ub2 l2];simp[ek,this]
theorem HU{x y:D}(e:eq0 x y=some b):(∃i j,x=.int i/\y=.int j/\(i==j)=b)\/(∃i j,x=.str i/\y=.str j/\(i==j)=b)\/(∃i j,x=.bl i/\y=.bl j/\(i==j)=b)\/(x=.non/\y=.non/\true=b)\/(∃ys,x=.non/\y=.tup ys/\false=b):=by
 unfold eq0 at e
 split at e
 .cases e;exact .inl ⟨_,_,rfl,rfl,rfl⟩
 .cases e;exact .inr (.inl ⟨_,_,rfl,rfl,rfl⟩)
 .cases e;exact .inr (.inr (.inl ⟨_,_,rfl,rfl,rfl⟩))
 .cases e;exact .inr (.inr (.inr (.inl ⟨rfl,rfl,rfl⟩)))
 .cases e;exact .inr (.inr (.inr (.inr ⟨_,rfl,rfl,rfl⟩)))
 .cases e
theorem HW{n:Nat}{x y:D}(e:eqN n x y=some b):eq0 x y=some b\/(∃m xs ys,n=m+1/\x=.lst xs/\y=.lst ys/\(if xs.length=ys.length then Dx (eqN m) xs ys else some false)=some b)\/∃m xs ys b',n=m+1/\x=.tup xs/\y=.tup ys/\Dx (eqN m) xs ys=some b'/\(b'&&xs.length==ys.length)=b:=by
 unfold eqN at e
 split at e
 .exact .inl e
 .clear 5(uc2.mp e)b' e1 e2;exact .inr (.inr ⟨_,_,_,b',rfl,rfl,rfl,e1,e2⟩)
 .exact .inr (.inl ⟨_,_,_,rfl,rfl,rfl,e⟩)
 .exact .inl e
variable{K:fc}{c:Cf}
theorem Os:∀(n:Nat){v:V}{d e:D}{b:Bool},Rep K c H v d->Rep K c H v e->eqN n d e=some b->b=true
 :=by
  intro n
  induction n using Nat.strongRecOn with
  |ind n ih=>
  intro v d e b rd re q;have items:∀{m:Nat}{vs:List V}{ds es:List D}{b':Bool},n=m+1->Reps K c H vs ds->Reps K c H vs es->Dx (eqN m) ds es=some b'->b'=true:=λ{m vs ds es b'} hm r1 r2 e'=>
   QX e' λj d e k q1 q2 ek=>by
    clear 5(r1.at q1)v g1 g2;exact ih m (by lia) g2 (r2.get g1 q2) ek
  rcases HW q with q0|⟨m,ds,es,hm,rfl,rfl,q0⟩|⟨m,ds,es,b',hm,rfl,rfl,q1,q2⟩
  .rcases HU q0 with⟨i,j,rfl,rfl,rfl⟩|⟨i,j,rfl,rfl,rfl⟩|⟨i,j,rfl,rfl,rfl⟩|⟨rfl,rfl,rfl⟩|⟨ys,rfl,rfl,rfl⟩
   .cases rd;cases re;simp
   .cases rd;cases re;simp
   .cases rd;cases re;simp
   .cases rd;cases re;rfl
   .cases rd;cases re
  .cases rd with
   |lst h1 h2 h3=>
     cases re with
     |lst g1 g2 g3=>
       rw[h1] at g1;cases g1
       rw[hX (h3.length.symm.trans g3.length)] at q0;exact items hm h3 g3 q0
  .cases rd with
   |tup h1 h2 h3=>
     cases re with
     |tup g1 g2 g3=>
       rw[h1] at g1;cases g1
       rw[<-q2,items hm h3 g3 q1,h3.length.symm.trans g3.length];simp
theorem Oq{s:fj}(hok:HOk P w H s.heap):∀(n:Nat){A:Around}{x y:V}{u v:fg}{dx dy:D}{b:Bool},RelV x u->RelV y v->Rep K c H x dx->Rep K c H y dy->eqN n dx dy=some b->A.units+n<cLine->
 RcAt A s u v b/\(EqAt A s u v b)
 :=by
  intro n
  induction n using Nat.strongRecOn with
  |ind n ih=>
  intro A x y u v dx dy b ru rv rx ry e hu;have items:∀{m:Nat}{vs ws:List V}{is js:List fg}{ds es:List D}{b':Bool},n=m+1->Vals vs is->Vals ws js->Reps K c H vs ds->Reps K c H ws es->Dx (eqN m) ds es=some b'->
   ∀j (h1:j<is.toArray.size) (h2:j<js.toArray.size),EqAt A.in1 s is.toArray[j] js.toArray[j] (ej (eqN m) ds es j):=λ{m vs ws is js ds es b'} hm r1 r2 q1 q2 e' j h1 h2=>by
   clear 5(Kz r1 h1)v1 a1 a2;clear 5(Kz r2 h2)v2 b1 b2;clear 5(ua7.mp a1)l1 g1;clear 5(ua7.mp b1)l2 g2;have k1:ds[j]?=some (ds[j]'(by rw[<-q1.length];exact l1)):=ub2 _;have k2:es[j]?=some (es[j]'(by rw[<-q2.length];exact l2)):=ub2 _;clear 5((Dy e').2 j _ _ k1 k2)kk ek;have:ej (eqN m) ds es j=kk:=by unfold ej;rw[k1,k2];simp[ek]
   rw[this];have hu':A.in1.units+m<cLine:=by
    have:A.in1.units=A.units+1:=by first|rfl|exact Around.units_in1 _|simp[Around.in1,Around.units]
    lia
   exact(ih m (by lia) a2 b2 (q1.get a1 k1) (q2.get b1 k2) ek hu').2
  have hu0:A.units<cLine:=by lia
  have conc:∀{p q:fh}{k:Bool},p≠q->RcAt A s (.ref p) (.ref q) k->RcAt A s (.ref p) (.ref q) k/\EqAt A s (.ref p) (.ref q) k:=λhn h=>⟨h,EqAt.of_refs hn h⟩;rcases HW e with e0|⟨m,ds,es,hm,rfl,rfl,e0⟩|⟨m,ds,es,b',hm,rfl,rfl,e1,e2⟩
  .rcases HU e0 with⟨i,j,rfl,rfl,rfl⟩|⟨i,j,rfl,rfl,rfl⟩|⟨i,j,rfl,rfl,rfl⟩|⟨rfl,rfl,rfl⟩|⟨ys,rfl,rfl,rfl⟩
   .cases rx;cases ry;clear 5 ru t' rfl;clear 5 rv t rfl;exact⟨RcAt.int_int _ _ _ _,EqAt.int_int _ _ _ _⟩
   .cases rx;cases ry;clear 5 ru t' rfl;clear 5 rv t rfl;exact⟨RcAt.str_str _ _ _ _,EqAt.str_str _ _ _ _⟩
   .cases rx;cases ry;cases ru;cases rv;exact⟨RcAt.bool_bool _ _,EqAt.bool_bool _ _⟩
   .cases rx;cases ry;cases ru;cases rv;exact⟨RcAt.none_none,EqAt.same _⟩
   .cases rx;cases ry with|tup h1 h2 h3=>cases ru;cases rv;clear 5(FO hok h1)its r l;exact⟨RcAt.none_tuple l hu0,EqAt.none_tuple l hu0⟩
  .cases rx with
   |@lst p vs _ g1 g2 g3=>
   cases ry with
   |@lst q ws _ h1 h2 h3=>
     cases ru
     cases rv
     clear 5(Hk hok g1)is r1 l1;clear 5(Hk hok h1)js r2 l2;have hs1:is.toArray.size=ds.length:=by rw[<-g3.length,r1.length];simp
     have hs2:js.toArray.size=es.length:=by rw[<-h3.length,r2.length];simp
     by_cases hl:ds.length=es.length
     .rw[hX hl] at e0;have hsz:is.toArray.size=js.toArray.size:=by rw[hs1,hs2,hl]
      have rc:=RcAt.lists l1 l2 hsz hu0 (items hm r1 r2 g3 h3 e0);have eb:(List.range is.toArray.size).all (ej (eqN m) ds es)=b:=by rw[(Dy e0).1,hs1,<-hl,Nat.min_self]
      rw[eb] at rc
      by_cases hpq:p=q
      .refine⟨rc,?_⟩;subst hpq;rw[Os n (Rep.lst g1 g2 g3) (Rep.lst h1 h2 h3) e];exact EqAt.same _
      .exact conc hpq rc
     .rw[ia hl] at e0
      cases e0
      have hsz:(is.toArray.size != js.toArray.size)=true:=by rw[hs1,hs2];simpa using hl
      refine conc (λz=>hl ?_) (RcAt.lists_lengths l1 l2 hsz hu0);subst z;rw[g1] at h1;cases h1
      rw[<-g3.length,<-h3.length]
  .cases rx with
   |@tup p vs _ g1 g2 g3=>
   cases ry with
   |@tup q ws _ h1 h2 h3=>
     cases ru
     cases rv
     clear 5(FO hok g1)is r1 l1;clear 5(FO hok h1)js r2 l2;have hs1:is.toArray.size=ds.length:=by rw[<-g3.length,r1.length];simp
     have hs2:js.toArray.size=es.length:=by rw[<-h3.length,r2.length];simp
     have rc:=RcAt.tuples l1 l2 hu0 (items hm r1 r2 g3 h3 e1);have eb:((List.range (min is.toArray.size js.toArray.size)).all (ej (eqN m) ds es)&&is.toArray.size==js.toArray.size)=b:=by rw[hs1,hs2,<-(Dy e1).1];exact e2
     rw[eb] at rc
     by_cases hpq:p=q
     .refine⟨rc,?_⟩;subst hpq;rw[Os n (Rep.tup g1 g2 g3) (Rep.tup h1 h2 h3) e];exact EqAt.same _
     .exact conc hpq rc
theorem Wc{s:fj}(hok:HOk P w H s.heap)(n:Nat){A:Around}{x y:V}{u v:fg}{dx dy:D}{b:Bool}(ru:RelV x u)(rv:RelV y v)(rx:Rep K c H x dx)(ry:Rep K c H y dy)(e:eqN n dx dy=some b)(hu:A.units+n<cLine) :
 RcNeAt A s u v (!b):=by
 have items:∀{m:Nat}{vs ws:List V}{is js:List fg}{ds es:List D}{b':Bool},n=m+1->Vals vs is->Vals ws js->Reps K c H vs ds->Reps K c H ws es->Dx (eqN m) ds es=some b'->
  ∀j (h1:j<is.toArray.size) (h2:j<js.toArray.size),EqAt A.in1 s is.toArray[j] js.toArray[j] (ej (eqN m) ds es j):=λ{m vs ws is js ds es b'} hm r1 r2 q1 q2 e' j h1 h2=>by
  clear 5(Kz r1 h1)v1 a1 a2;clear 5(Kz r2 h2)v2 b1 b2;clear 5(ua7.mp a1)l1 g1;clear 5(ua7.mp b1)l2 g2;have k1:ds[j]?=some (ds[j]'(by rw[<-q1.length];exact l1)):=ub2 _;have k2:es[j]?=some (es[j]'(by rw[<-q2.length];exact l2)):=ub2 _;clear 5((Dy e').2 j _ _ k1 k2)kk ek;have:ej (eqN m) ds es j=kk:=by unfold ej;rw[k1,k2];simp[ek]
  rw[this];have hu':A.in1.units+m<cLine:=by
   have:A.in1.units=A.units+1:=rfl;lia
  exact(Oq hok m a2 b2 (q1.get a1 k1) (q2.get b1 k2) ek hu').2
 have hu0:A.units<cLine:=by lia
 rcases HW e with e0|⟨m,ds,es,hm,rfl,rfl,e0⟩|⟨m,ds,es,b',hm,rfl,rfl,e1,e2⟩
 .rcases HU e0 with⟨i,j,rfl,rfl,rfl⟩|⟨i,j,rfl,rfl,rfl⟩|⟨i,j,rfl,rfl,rfl⟩|⟨rfl,rfl,rfl⟩|⟨ys,rfl,rfl,rfl⟩
  .cases rx;cases ry;clear 5 ru t' rfl;clear 5 rv t rfl;exact RcNeAt.int_int _ _ _ _
  .cases rx;cases ry;clear 5 ru t' rfl;clear 5 rv t rfl;exact RcNeAt.str_str _ _ _ _
  .cases rx;cases ry;cases ru;cases rv;exact RcNeAt.bool_bool _ _
  .cases rx;cases ry;cases ru;cases rv;exact RcNeAt.none_none
  .cases rx;cases ry with|tup h1 h2 h3=>cases ru;cases rv;clear 5(FO hok h1)its r l;exact RcNeAt.none_tuple l hu0
 .cases rx with
  |@lst p vs _ g1 g2 g3=>
  cases ry with
  |@lst q ws _ h1 h2 h3=>
    cases ru
    cases rv
    clear 5(Hk hok g1)is r1 l1;clear 5(Hk hok h1)js r2 l2;have hs1:is.toArray.size=ds.length:=by rw[<-g3.length,r1.length];simp
    have hs2:js.toArray.size=es.length:=by rw[<-h3.length,r2.length];simp
    by_cases hl:ds.length=es.length
    .rw[hX hl] at e0;have hsz:is.toArray.size=js.toArray.size:=by rw[hs1,hs2,hl]
     have rc:=RcNeAt.lists l1 l2 hsz hu0 (items hm r1 r2 g3 h3 e0);rw[show(List.range is.toArray.size).all (ej (eqN m) ds es)=b by rw[(Dy e0).1,hs1,<-hl,Nat.min_self]] at rc;exact rc
    .rw[ia hl] at e0
     cases e0
     exact RcNeAt.lists_lengths l1 l2 (by rw[hs1,hs2];simpa using hl) hu0
 .cases rx with
  |@tup p vs _ g1 g2 g3=>
  cases ry with
  |@tup q ws _ h1 h2 h3=>
    cases ru
    cases rv
    clear 5(FO hok g1)is r1 l1;clear 5(FO hok h1)js r2 l2;have hs1:is.toArray.size=ds.length:=by rw[<-g3.length,r1.length];simp
    have hs2:js.toArray.size=es.length:=by rw[<-h3.length,r2.length];simp
    have rc:=RcNeAt.tuples l1 l2 hu0 (items hm r1 r2 g3 h3 e1);have eb:((List.range (min is.toArray.size js.toArray.size)).all (ej (eqN m) ds es)&&is.toArray.size==js.toArray.size)=b:=by rw[hs1,hs2,<-(Dy e1).1];exact e2
    rw[eb] at rc;exact rc
def EQD:Nat:=40
def neD(x y:D):M D:=λt=>(eqN EQD x y).map λb=>(.bl (!b),t)
def Qn(K:fc)(g:Bool->Bool):R2:=λx y H Q=>∃c dx dy b,Rep K c H x dx/\Rep K c H y dy/\eqN EQD dx dy=some b/\Q (.bl (g b)) H
theorem R5{X:Cx}(hu:X.A.units+64<cLine):OpR X (compareOp .Eq) (Qn X.K id):=by
 intro ff s σ H x y v u Q I rx ry h;clear 5 h c dx dy b q1 q2 e q;have hu':X.A.units+EQD<cLine:=by unfold EQD;lia
 exact(Oq I.hok EQD rx ry q1 q2 e hu').1 X.prog X.w _ _ ⟨.bl b,H,I,rfl,q⟩
theorem No{X:Cx}(hu:X.A.units+64<cLine):OpR X (compareOp .NotEq) (Qn X.K (!·)):=by
 intro ff s σ H x y v u Q I rx ry h;clear 5 h c dx dy b q1 q2 e q;have hu':X.A.units+EQD<cLine:=by unfold EQD;lia
 exact Wc I.hok EQD rx ry q1 q2 e hu' X.prog X.w _ _ ⟨.bl (!b),H,I,rfl,q⟩
end
section
variable{g:Int->Int->D}{t:T}{z:D×T}{X:Cx}{c:Cf}{H:Hp}
section
variable{K:fc}
def i2(g:Int->Int->D):D->D->M D
 |.int i,.int j=>ret (g i j)
 |_,_=>fail
theorem Yq{x y:D}(h:i2 g x y t=some z):∃i j,x=.int i/\y=.int j/\z=(g i j,t):=by
 cases x with
 |int i=>cases y with
   |int j=>cases h;exact⟨i,j,rfl,rfl,rfl⟩
   |_=>cases h
 |_=>cases h
theorem Zp{gV:Int->Int->V}(hr:∀i j c H,Rep K c H (gV i j) (g i j)):A6 K (rI0 gV) (i2 g):=λ{Oo c t σ H x y dx dy r t' Q} f rx ry eq k=>by
 clear 5(Yq eq)i j rfl rfl z
 cases z
 cases rx
 cases ry
 exact⟨i,j,rfl,rfl,k _ H c f .refl (hr i j c H)⟩
def i2C(C:Int->Int->Bool)(g:Int->Int->D):D->D->M D
 |.int i,.int j=>λt=>if C i j=true then some (g i j,t) else none
 |_,_=>fail
theorem VT{C:Int->Int->Bool}{x y:D}(h:i2C C g x y t=some z):∃i j,x=.int i/\y=.int j/\C i j=true/\z=(g i j,t):=by
 cases x with
 |int i=>cases y with
   |int j=>
     unfold i2C at h;dsimp only at h
     by_cases hc:C i j=true
     .rw[hX hc] at h;cases h;exact⟨i,j,rfl,rfl,hc,rfl⟩
     .rw[ia hc] at h;cases h
   |_=>cases h
 |_=>cases h
theorem IZ{P:Int->Int->Prop}{C:Int->Int->Bool}{gV:Int->Int->V}(hP:∀i j,C i j=true->P i j)(hr:∀i j c H,Rep K c H (gV i j) (g i j)):A6 K (rI P gV) (i2C C g):=λ{Oo c t σ H x y dx dy r t' Q} f rx ry eq k=>by
 clear 5(VT eq)i j rfl rfl hc z
 cases z
 cases rx
 cases ry
 exact⟨i,j,rfl,rfl,hP i j hc,k _ H c f .refl (hr i j c H)⟩
def CI:=i2 λi j=>.int (i-j)
noncomputable def Mb(_ j:Int):Bool:=decide (0<j)&&decide (j<1073741824)
def AQ:=i2C Mb λi j=>.int (i/j)
def AX:=i2C (λ_ j=>decide (0<j)) λi j=>.int (i%j)
noncomputable def Mi(i j:Int):Bool:=decide (0<=j)&&decide (j<=1000000)&&decide (i.natAbs<2 ^ 64)
def Nr:=i2C Mi λi j=>.int (i ^ j.toNat)
noncomputable def FG(i j:Int):Bool:=(decide (-(2 ^ 64)<i)&&decide (i<2 ^ 64))||(decide (-(2 ^ 64)<j)&&decide (j<2 ^ 64))
def NJ:=i2C (λ_ j=>decide (0<=j)) λi j=>.int (i/2 ^ j.toNat)
theorem Xc:A6 K (rI0 λi j=>.int (i-j)) CI:=Zp λi j _ _=>.int _
theorem Ut:A6 K (rI Xy λi j=>.int (i/j)) AQ:=IZ (λi j h=>by
 unfold Mb at h;rw[uh5] at h;exact⟨ug9 h.1,ug9 h.2⟩) λi j _ _=>.int _
theorem W6:A6 K (rI (λ_ j=>0<j) λi j=>.int (i%j)) AX:=IZ (λi j h=>ug9 h) λi j _ _=>.int _
theorem Xa:A6 K (rI Xz λi j=>.int (i ^ j.toNat)) Nr:=IZ (λi j h=>by
 unfold Mi at h;rw[uh5,uh5] at h;exact⟨ug9 h.1.1,ug9 h.1.2,ug9 h.2⟩) λi j _ _=>.int _
theorem Xb:A6 K (rI (λ_ j=>0<=j) λi j=>.int (i/2 ^ j.toNat)) NJ:=IZ (λi j h=>ug9 h) λi j _ _=>.int _
theorem RN{i j:Int}(h:FG i j=true):CMul i j:=by
 unfold FG at h;rw[Bool.or_eq_true,uh5,uh5] at h;rcases h with h|h
 .exact .inl ⟨ug9 h.1,ug9 h.2⟩
 .exact .inr ⟨ug9 h.1,ug9 h.2⟩
def Nd:D->M D
 |.int i=>ret (.int (-i))
 |_=>fail
theorem W8:XD K (rU λi=>.int (-i)) Nd:=λ{Oo c t σ H x dx r t' Q} f rx eq k=>by
 cases rx with
 |int i=>cases eq;exact⟨i,rfl,k _ H c f .refl (.int _)⟩
 |_=>cases eq
def XH:D->D->M D
 |.int i,.int j=>ret (.int (i+j))
 |.str x,.str y=>lim (x.length+y.length) (.str (x++y))
 |.lst xs,.lst ys=>lim (xs.length+ys.length) (.lst (xs++ys))
 |_,_=>fail
def WO:R2:=λx y H Q=>∃i j,x=.str i/\y=.str j/\i.length+j.length<=sizeLine/\Q (.str (i++j)) H
def Ql(K:fc):R2:=λx y H Q=>rI0 (λi j=>.int (i+j)) x y H Q\/(WO x y H Q\/Qm x y H Q)
theorem Wo:OpR X (binaryOp .Add) (Ql X.K):=op_add.or (op_add_str.or Nn)
theorem WX:A6 K (Ql K) XH:=λ{Oo c t σ H x y dx dy r t' Q} f rx ry eq k=>by
 cases rx with
 |int i=>
   cases ry with
   |int j=>cases eq;exact .inl ⟨i,j,rfl,rfl,k _ H c f .refl (.int _)⟩
   |_=>cases eq
 |str i=>
   cases ry with
   |str j=>
     clear 5(DE eq)h z
     cases z
     exact .inr (.inl ⟨i,j,rfl,rfl,um5 h B6,k _ H c f .refl (.str _)⟩)
   |_=>cases eq
 |@lst a vs ds h1 h2 h3=>
   cases ry with
   |@lst b ws es g1 g2 g3=>
     clear 5(DE eq)h z
     cases z
     refine .inr (.inr ⟨a,b,vs,ws,rfl,rfl,h1,g1,?_,λp hp=>?_⟩)
     .rw[h3.length,g3.length];exact um5 h B6
     .exact k _ _ c (f.laid hp) (f.stp_laid hp) (.lst AL (f.s.free hp) ((h3.append g3).mono (Ext.laid f.s hp)))
   |_=>cases eq
 |_=>cases eq
def Jp:D->D->M (List D)
 |.lst xs,.lst ys=>lim (xs.length+ys.length) (xs++ys)
 |_,_=>fail
theorem Us:L9 K Qm Jp:=λ{Oo c t σ H x y dx dy r t' Q} f rx ry eq k=>by
 cases rx with
 |@lst a vs ds h1 h2 h3=>
   cases ry with
   |@lst b ws es g1 g2 g3=>
     clear 5(DE eq)h z
     cases z
     refine⟨a,b,vs,ws,rfl,rfl,h1,g1,?_,λp hp=>k p _ H c f .refl (h3.append g3) hp⟩;rw[h3.length,g3.length];exact um5 h B6
   |_=>cases eq
 |_=>cases eq
def isC:D->D->M D
 |x,.non=>λt=>some (.bl (match x with | .non=>true|_=>false),t)
 |x,.bl b=>λt=>some (.bl (match x with | .bl c=>c==b|_=>false),t)
 |_,_=>fail
def GK(x y:D):M D:=bnd (isC x y) λd=>match d with | .bl b=>ret (.bl (!b))|_=>fail
def rIs(g:Bool->Bool):R2:=λx y H Q=>(y=.non\/∃b,y=.bl b)/\Q (.bl (g (decide (x=y)))) H
theorem Oh{x y:V}{v u:fg}(rx:RelV x v)(ry:RelV y u)(hy:y=.non\/∃b,y=.bl b):plainIs v u=true/\(v==u)=decide (x=y):=by
 rcases hy with rfl|⟨b,rfl⟩
 .cases ry
  cases x with
  |non=>cases rx;exact⟨rfl,by simp⟩
  |bl _=>cases rx;exact⟨rfl,by simp⟩
  |int _=>clear 5 rx t rfl;exact⟨rfl,by simp⟩
  |str _=>clear 5 rx t rfl;exact⟨rfl,by simp⟩
  |byt _=>clear 5 rx t rfl;exact⟨rfl,by simp⟩
  |flt _=>clear 5 rx t rfl;exact⟨rfl,by simp⟩
  |ref _=>cases rx;exact⟨rfl,by simp⟩
  |ty _=>cases rx;exact⟨rfl,by simp⟩
 .cases ry
  cases x with
  |non=>cases rx;exact⟨rfl,by simp⟩
  |bl c=>cases rx;exact⟨rfl,by simp;cases c<;>cases b<;>rfl⟩
  |int _=>clear 5 rx t rfl;exact⟨rfl,by simp⟩
  |str _=>clear 5 rx t rfl;exact⟨rfl,by simp⟩
  |byt _=>clear 5 rx t rfl;exact⟨rfl,by simp⟩
  |flt _=>clear 5 rx t rfl;exact⟨rfl,by simp⟩
  |ref _=>cases rx;exact⟨rfl,by simp⟩
  |ty _=>cases rx;exact⟨rfl,by simp⟩
theorem R7:OpR X (compareOp .Is) (rIs id):=by
 intro ff s σ H x y v u Q I rx ry h;clear 5 h hy q;clear 5(Oh rx ry hy)h1 h2;exact wpAny_is_plain h1 ⟨.bl _,H,I,by rw[h2];rfl,q⟩
theorem R8:OpR X (compareOp .IsNot) (rIs (!·)):=by
 intro ff s σ H x y v u Q I rx ry h;clear 5 h hy q;clear 5(Oh rx ry hy)h1 h2;exact wpAny_isNot_plain h1 ⟨.bl _,H,I,by rw[h2];rfl,q⟩
theorem OD{x y:V}{dx dy:D}(rx:Rep K c H x dx)(ry:Rep K c H y dy)(eq:isC dx dy t=some z):(y=.non\/∃b,y=.bl b)/\z=(.bl (decide (x=y)),t):=by
 cases ry with
 |non=>
   refine⟨.inl rfl,?_⟩
   cases rx<;>(cases eq;first|rfl|simp)
 |bl b=>
   refine⟨.inr ⟨b,rfl⟩,?_⟩
   cases rx<;>(cases eq;first|rfl|simp)
   next a=>cases a<;>cases b<;>rfl
 |_=>cases eq
theorem Sz:A6 K (rIs id) isC:=λ{Oo c t σ H x y dx dy r t' Q} f rx ry eq k=>by
 clear 5(OD rx ry eq)h z
 cases z
 exact⟨h,k _ H c f .refl (.bl _)⟩
theorem SA:A6 K (rIs (!·)) GK:=λ{Oo c t σ H x y dx dy r t' Q} f rx ry eq k=>by
 clear 5(Af eq)d t1 e1 eq;clear 5(OD rx ry e1)h z
 cases z
 cases eq
 exact⟨h,k _ H c f .refl (.bl _)⟩
def ixD:D->D->M D
 |.lst ds,.int i=>λt=>(atI ds i).map λd=>(d,t)
 |.tup ds,.int i=>λt=>(atI ds i).map λd=>(d,t)
 |.scr ns,.int i=>λt=>(atI ns i).map λn=>(.int n,t)
 |.str x,.int i=>λt=>if x.length<=LIM then(atI x.cps.toList i).map λn=>(.str ⟨#[n]⟩,t) else none
 |.obj k,.int i=>λt=>match t.S[k]? with
   |some (.lst ds)=>(atI ds i).map λd=>(d,t)
   |_=>none
 |_,_=>fail
theorem G5{vs:List V}{ds:List D}{i:Int}{d:D}(r:Reps K c H vs ds)(h:atI ds i=some d):∃v,atI vs i=some v/\Rep K c H v d:=by
 unfold atI at h⊢;clear 5(Option.bind_eq_some_iff.mp h)j h1 h2;clear 5(r.at h2)v h3 h4;exact⟨v,by rw[r.length,h1];exact h3,h4⟩
theorem Vi{α β:Type}(g:α->β)(xs:List α)(i:Int):atI (xs.map g) i=(atI xs i).map g:=by
 unfold atI;rw[ui8]
 cases ixN xs.length i with
 |none=>rfl
 |some j=>simp
theorem Yt{dx dy r:D}{t':T}(eq:ixD dx dy t=some (r,t')):∃i,dy=.int i/\((∃ds,dx=.lst ds)\/(∃ds,dx=.tup ds)\/(∃ns,dx=.scr ns)\/(∃z,dx=.str z)\/∃k,dx=.obj k):=by
 unfold ixD at eq
 split at eq
 .exact⟨_,rfl,.inl ⟨_,rfl⟩⟩
 .exact⟨_,rfl,.inr (.inl ⟨_,rfl⟩)⟩
 .exact⟨_,rfl,.inr (.inr (.inl ⟨_,rfl⟩))⟩
 .exact⟨_,rfl,.inr (.inr (.inr (.inl ⟨_,rfl⟩)))⟩
 .exact⟨_,rfl,.inr (.inr (.inr (.inr ⟨_,rfl⟩)))⟩
 .cases eq
theorem Zq:A6 K (rIx K) ixD:=λ{Oo c t σ H x y dx dy r t' Q} f rx ry eq k=>by
 clear 5(Yt eq)i rfl hd
 cases ry
 rcases hd with⟨ds,rfl⟩|⟨ds,rfl⟩|⟨ns,rfl⟩|⟨z,rfl⟩|⟨kk,rfl⟩
 .cases rx with
  |@lst a vs _ h1 h2 h3=>
    clear 5(uc2.mp eq)d e1 e2
    cases e2
    clear 5(G5 h3 e1)v e3 e4;exact .inl ⟨a,vs,i,v,rfl,rfl,SqL.of h1,e3,k _ H c f .refl e4⟩
 .cases rx with
  |@tup a vs _ h1 h2 h3=>
    clear 5(uc2.mp eq)d e1 e2
    cases e2
    clear 5(G5 h3 e1)v e3 e4;exact .inr (.inl ⟨a,vs,i,v,rfl,rfl,SqT.of h1,e3,k _ H c f .refl e4⟩)
 .cases rx with
  |@scr a _ h1=>
    clear 5(uc2.mp eq)n e1 e2
    cases e2
    exact .inl ⟨a,_,i,.int n,rfl,rfl,h1.sq,by rw[Vi,e1];rfl,k _ H c f .refl (.int n)⟩
 .cases rx
  unfold ixD at eq;dsimp only at eq
  split at eq
  .next hl=>
   clear 5(uc2.mp eq)n e1 e2
   cases e2
   exact .inr (.inr ⟨z,i,n,rfl,rfl,um5 hl B6,e1,k _ H c f .refl (.str _)⟩)
  .cases eq
 .cases rx with
  |@obj a _ h1=>
    unfold ixD at eq;dsimp only at eq
    cases es:t.S[kk]? with
    |none=>rw[es] at eq;cases eq
    |some o=>
      rw[es] at eq
      cases o with
      |dct _|ins _ _=>cases eq
      |lst ds=>
        clear 5(uc2.mp eq)d e1 e2
        cases e2
        clear 5(f.s.obs kk a _ h1 es)vs g1 g2;clear 5(G5 g2 e1)v e3 e4;exact .inl ⟨a,vs,i,v,rfl,rfl,SqL.of g1,e3,k _ H c f .refl e4⟩
end
variable{f:M D}{id:String}{R:List V->Hp->VK->Prop}{x:Str}{p:Pos}
section
variable{X:Cx}{e a b:Expr}{es:List Expr}{pos:Pos}
inductive RO(K:fc)(f:M (Option Int))(σ:L2.St)(H:Hp)(Q:Option Int->Hp->Prop):Prop where
 |mk (Oo:fh->Prop) (c:Cf) (t:T) (fi:FInv K Oo c t σ H) (r:Option Int) (t':T) (e:f t=some (r,t')) (k:∀H' c',FInv K Oo c' t' σ H'->Stp Oo c H c' H'->Q r H'):RO K f σ H Q
theorem QL{oe:Option Expr}{t t':TO}(h:PO X oe t)(i:∀σ H Q,t' σ H Q->t σ H Q):PO X oe t':=λff s σ H Q I q=>h ff s σ H Q I (i σ H Q q)
def fNo:M (Option Int):=ret none
def asI:D->M (Option Int)
 |.int i=>ret (some i)
 |_=>fail
def BO(f:M D):M (Option Int):=bnd f asI
theorem VF:PO X none (RO X.K fNo):=QL WF λσ H Q z9=>by
 clear 5 z9 Oo c t fi r t' eq k
 cases eq
 exact k H c fi .refl
theorem VG(h:PE X e (RE X.K f)):PO X (some e) (RO X.K (BO f)):=QL (WG h) λσ H Q z9=>by
 clear 5 z9 Oo c t fi r t' eq k;clear 5(Af eq)d t1 e1 eq;refine⟨Oo,c,t,fi,d,t1,e1,λv H1 c1 f1 s1 rv=>?_⟩
 cases rv with
 |int i=>cases eq;exact⟨i,rfl,k H1 c1 f1 s1⟩
 |_=>cases eq
def Pw(K:fc)(R:V->Option Int->Option Int->Hp->VK->Prop)(h:D->Option Int->Option Int->M D):Prop:=∀{Oo:fh->Prop}{c:Cf}{t:T}{σ:L2.St}{H:Hp}{x:V}{dx r:D}{lo hi:Option Int}{t':T}{Q:VK},FInv K Oo c t σ H->Rep K c H x dx->h dx lo hi t=some (r,t')->
 (∀v H' c',FInv K Oo c' t' σ H'->Stp Oo c H c' H'->Rep K c' H' v r->Q v H')->R x lo hi H Q
def fSl(f:M D)(l u:M (Option Int))(h:D->Option Int->Option Int->M D):M D:=bnd f λx=>bnd l λlo=>bnd u λhi=>h x lo hi
theorem MS{R:V->Option Int->Option Int->Hp->VK->Prop}{h:D->Option Int->Option Int->M D}{l u:M (Option Int)}{lo hi:Option Expr}{p2:Pos}(hr:SlR X R)(s:Pw X.K R h)(he:PE X e (RE X.K f))(hl:PO X lo (RO X.K l))(hu:PO X hi (RO X.K u)):PE X (.Subscript e (.Slice lo hi none p2) pos) (RE X.K (fSl f l u h)):=
 AH (Uf hr he hl hu) λσ H Q z9=>by
  clear 5 z9 Oo c t fi r t' eq k;clear 5(Af eq)d t1 e1 eq;clear 5(Af eq)ol t2 e2 eq;clear 5(Af eq)oh t3 e3 eq;exact⟨Oo,c,t,fi,d,t1,e1,λv H1 c1 f1 s1 rv=>⟨Oo,c1,t1,f1,ol,t2,e2,λH2 c2 f2 s2=>⟨Oo,c2,t2,f2,oh,t3,e3,λH3 c3 f3 s3=>
   s f3 (rv.mono (s2.trans s3).ext) eq λv H' c' f' s' rv'=>k v H' c' f' (((s1.trans s2).trans s3).trans s') rv'⟩⟩⟩
def AV{α:Type}(xs:List α)(lo hi:Option Int):List α:=(xs.drop (HT.sIx xs.length 0 lo)).take (HT.sIx xs.length xs.length hi-HT.sIx xs.length 0 lo)
def slD:D->Option Int->Option Int->M D
 |.lst ds,lo,hi=>ret (.lst (AV ds lo hi))
 |.scr ns,lo,hi=>ret (.lst ((AV ns lo hi).map .int))
 |.tup ds,lo,hi=>λt=>if HT.sIx ds.length 0 lo=0/\HT.sIx ds.length ds.length hi=ds.length then none else some (.tup (AV ds lo hi),t)
 |_,_,_=>fail
theorem Ht{K:fc}{vs:List V}{ds:List D}(r:Reps K c H vs ds)(lo hi:Option Int):Reps K c H (He vs lo hi) (AV ds lo hi):=by
 unfold He AV;rw[r.length];exact(r.drop _).take _
theorem Tl{α β:Type}(g:α->β)(xs:List α)(lo hi:Option Int):AV (xs.map g) lo hi=(AV xs lo hi).map g:=by
 unfold AV;rw[ui8,ul7,List.map_drop]
theorem QU(ns:List Int)(lo hi:Option Int):He (ns.map V.int) lo hi=(AV ns lo hi).map V.int:=Tl V.int ns lo hi
def Um(K:fc):V->Option Int->Option Int->Hp->VK->Prop:=λx lo hi H Q=>Zh K x lo hi H Q\/Zj K x lo hi H Q
theorem sl2:SlR X (Um X.K):=sl_list.or Zu
theorem Zr{K:fc}:Pw K (Um K) slD:=λ{Oo c t σ H x dx r lo hi t' Q} f rx eq k=>by
 cases rx with
 |@lst p vs ds h1 h2 h3=>
   cases eq
   exact .inl ⟨p,vs,rfl,SqL.of h1,λq hq=>k _ _ c (f.laid hq) (f.stp_laid hq) (.lst AL (f.s.free hq) ((Ht h3 lo hi).mono (Ext.laid f.s hq)))⟩
 |@scr p ns h1=>
   cases eq
   refine .inl ⟨p,_,rfl,h1.sq,λq hq=>k _ _ c (f.laid hq) (f.stp_laid hq) (.lst AL (f.s.free hq) ?_)⟩;rw[QU];exact Reps.ints _
 |@tup p vs ds h1 h2 h3=>
   unfold slD at eq;dsimp only at eq
   split at eq
   .cases eq
   .next hn=>
    cases eq
    exact .inr ⟨p,vs,rfl,SqT.of h1,by rw[h3.length];exact hn,λq hq=>k _ _ c (f.laid hq) (f.stp_laid hq) (.tup AL (f.s.free hq) ((Ht h3 lo hi).mono (Ext.laid f.s hq)))⟩
 |_=>cases eq
theorem bT{h:List D->M D}{f:M (List D)}(hc:Do X (.builtin id) R)(s:Gp X.K R h)(hg:Gl X x)(hm:X.mg x=none)(hv:bootBuiltins x=some (.builtin id))(ha:PA X (e::es) (RA X.K f))(hn:x≠"__name__":=by decide)(hdb:(x==("__debug__":Str))=false:=by decide)
 (he:starEach (e::es) X.env=(false,eval e X.env)::starEach es X.env:=by rfl) (hpl:(backTo pos (starEach es X.env)).any (·.1)=false:=by rfl):PE X (.Call (.Name x p) (e::es) [] pos) (RE X.K (fB f h)):=
 AH (Ub hc hg hm hv ha hn hdb he hpl) λ_ _ _ q=>RE.callB s q
theorem bU{h:List D->M D}{f:M (List D)}(hc:Do X (.type id) R)(s:Gp X.K R h)(hg:Gl X x)(hm:X.mg x=none)(hv:bootBuiltins x=some (.type id))(ha:PA X (e::es) (RA X.K f))(hn:x≠"__name__":=by decide)(hdb:(x==("__debug__":Str))=false:=by decide)
 (he:starEach (e::es) X.env=(false,eval e X.env)::starEach es X.env:=by rfl) (hpl:(backTo pos (starEach es X.env)).any (·.1)=false:=by rfl):PE X (.Call (.Name x p) (e::es) [] pos) (RE X.K (fB f h)):=
 AH (LN hc hg hm hv ha hn hdb he hpl) λ_ _ _ q=>RE.callB s q
theorem bV{h:List D->M (List D)}{f:M (List D)}(hc:Do X (.type id) R)(s:Ma X.K R h)(hg:Gl X x)(hm:X.mg x=none)(hv:bootBuiltins x=some (.type id))(ha:PA X (e::es) (RA X.K f))(hn:x≠"__name__":=by decide)(hdb:(x==("__debug__":Str))=false:=by decide)
 (he:starEach (e::es) X.env=(false,eval e X.env)::starEach es X.env:=by rfl) (hpl:(backTo pos (starEach es X.env)).any (·.1)=false:=by rfl):PE X (.Call (.Name x p) (e::es) [] pos) (RF X.K (fBF f h)):=
 AH (LN hc hg hm hv ha hn hdb he hpl) λ_ _ _ q=>RF.callB s q
theorem UU{op:Operator}{R:R2}{g:M D}{h:D->D->M (List D)}(ho:OpR X (binaryOp op) R)(s:L9 X.K R h)(ha:PE X a (RE X.K f))(hb:PE X b (RE X.K g)):PE X (.BinOp a op b pos) (RF X.K (bnd f λx=>bnd g λy=>h x y)):=
 AH (Qh ho ha hb) λ_ _ _ q=>RF.two s q
end
section
variable{K:fc}
theorem FH{xs:List V}{d:D}(r:Reps K c H xs [d]):∃v,xs=[v]/\Rep K c H v d:=by
 cases r with
 |cons r rs=>cases rs;exact⟨_,rfl,r⟩
theorem U5{xs:List V}{d e:D}(r:Reps K c H xs [d,e]):∃v u,xs=[v,u]/\Rep K c H v d/\Rep K c H u e:=by
 cases r with
 |cons r rs=>
   clear 5(FH rs)u rfl q;exact⟨_,u,rfl,r,q⟩
def AC:List D->M D
 |[.lst ds]=>ret (.int ds.length)
 |[.tup ds]=>ret (.int ds.length)
 |[.scr ns]=>ret (.int ns.length)
 |[.str x]=>lim x.length (.int x.length)
 |[.obj k]=>λt=>match t.S[k]? with
   |some (.lst ds)=>some (.int ds.length,t)
   |_=>none
 |_=>fail
theorem W2:Gp K (λxs H Q=>∃x n,xs=[x]/\XB K x H n/\Q (.int n) H) AC:=λ{Oo c t σ H xs ds r t' Q} f rx eq k=>by
 match ds,rx,eq with
 |[],_,eq=>cases eq
 |d0::_::_,_,eq=>cases d0<;>cases eq
 |[d],rx,eq=>
   clear 5(FH rx)v rfl rv
   cases rv with
   |@lst a vs ds h1 h2 h3=>cases eq;exact⟨_,ds.length,rfl,.inl ⟨vs,SqL.of h1,h3.length.symm⟩,k _ H c f .refl (.int _)⟩
   |@tup a vs ds h1 h2 h3=>cases eq;exact⟨_,ds.length,rfl,.inr ⟨vs,SqT.of h1,h3.length.symm⟩,k _ H c f .refl (.int _)⟩
   |@scr a ns h1=>cases eq;exact⟨_,ns.length,rfl,.inl ⟨_,h1.sq,by simp⟩,k _ H c f .refl (.int _)⟩
   |str x=>
     clear 5(DE eq)hl z
     cases z
     exact⟨_,x.length,rfl,⟨um5 hl B6,rfl⟩,k _ H c f .refl (.int _)⟩
   |@obj a kk h1=>
     unfold AC at eq;dsimp only at eq
     cases es:t.S[kk]? with
     |none=>rw[es] at eq;cases eq
     |some o=>
       rw[es] at eq
       cases o with
       |dct _|ins _ _=>cases eq
       |lst ds=>
         cases eq
         clear 5(f.s.obs kk a _ h1 es)vs g1 g2;exact⟨_,ds.length,rfl,.inl ⟨vs,SqL.of g1,g2.length.symm⟩,k _ H c f .refl (.int _)⟩
   |_=>cases eq
noncomputable def tyD:D->Option String
 |.non=>some "NoneType"
 |.bl _=>some "bool"
 |.int _=>some "int"
 |.str _=>some "str"
 |.lst _=>some "list"
 |.tup _=>some "tuple"
 |.dic=>some "dict"
 |_=>none
noncomputable def FY(n m:String):Option Bool:=match m with
 | "int"=>some (n == "int" || n == "bool")
 | "bool"=>some (n == "bool")
 | "str"=>some (n == "str")
 | "list"=>some (n == "list")
 | "tuple"=>some (n == "tuple")
 | "dict"=>some (n == "dict")
 |_=>none
def CO:List D->M D
 |[d,.ty m]=>λt=>match tyD d with
   |some n=>(FY n m).map λb=>(.bl b,t)
   |none=>none
 |_=>fail
theorem VX{d:D}{n m:String}{b:Bool}(h1:tyD d=some n)(h2:FY n m=some b):PySem.W.kitOne K (.type n) (.type m)=some b:=by
 have hm:m = "int"\/m = "bool"\/m = "str"\/m = "list"\/m = "tuple"\/m = "dict":=by
  unfold FY at h2
  split at h2<;>simp_all
 have hn:n = "NoneType"\/n = "bool"\/n = "int"\/n = "str"\/n = "list"\/n = "tuple"\/n = "dict":=by
  cases d<;>simp[tyD] at h1<;>simp[<-h1]
 rcases hm with rfl|rfl|rfl|rfl|rfl|rfl<;>rcases hn with rfl|rfl|rfl|rfl|rfl|rfl|rfl<;>(cases h2;rfl)
def Zd(K:fc):List V->Hp->VK->Prop:=λxs H Q=>∃x n t b,xs=[x,.ty n]/\TyOf K H x t/\PySem.W.kitOne K t (.type n)=some b/\Q (.bl b) H
theorem Th:Do X (.builtin "isinstance") (Zd X.K):=by
 intro ff s σ H xs us Q I r h;clear 5 h x n t b rfl ty e q;clear 5(U9 r)u w' rfl rx rt
 cases rt
 exact Rt I rx ty e λtk=>⟨.bl b,H,I.tok tk,rfl,q⟩
theorem W1:Gp K (Zd K) CO:=λ{Oo c t σ H xs ds r t' Q} f rx eq k=>by
 unfold CO at eq
 split at eq
 .next d m=>
  clear 5(U5 rx)v u rfl rv ru
  cases ru
  cases et:tyD d with
  |none=>rw[et] at eq;cases eq
  |some n=>
    rw[et] at eq;clear 5(uc2.mp eq)b e1 e2
    cases e2
    refine⟨v,m,.type n,b,rfl,?_,VX et e1,k _ H c f .refl (.bl b)⟩
    cases rv<;>first|(cases et;first|exact .non|exact .bl _|exact .int _|exact .str _|exact .lst ‹_› | exact .tup ‹_› | exact .dK ‹_›)|cases et
 .cases eq
def cK:List D->M D
 |[.lst ds]=>ret (.tup ds)
 |[.tup ds]=>ret (.tup ds)
 |[.obj k]=>λt=>match t.S[k]? with
   |some (.lst ds)=>some (.tup ds,t)
   |_=>none
 |_=>fail
def DU:List D->M (List D)
 |[.lst ds]=>ret ds
 |[.tup ds]=>ret ds
 |[.scr ns]=>ret (ns.map .int)
 |[.obj k]=>λt=>match t.S[k]? with
   |some (.lst ds)=>some (ds,t)
   |_=>none
 |_=>fail
theorem W3:Ma K (λxs H Q=>∃p ys,xs=[.ref p]/\(SqL K H p ys\/SqT K H p ys)/\∀l,H l=none->Q (.ref l) (upd H l (.lst ys))) DU:=λ{Oo c t σ H xs ds r t' Q} f rx eq k=>by
 match ds,rx,eq with
 |[],_,eq=>cases eq
 |d0::_::_,_,eq=>cases d0<;>cases eq
 |[d],rx,eq=>
   clear 5(FH rx)v rfl rv
   cases rv with
   |@lst a vs ds h1 h2 h3=>cases eq;exact⟨a,vs,rfl,.inl (SqL.of h1),λq hq=>k q vs H c f .refl h3 hq⟩
   |@tup a vs ds h1 h2 h3=>cases eq;exact⟨a,vs,rfl,.inr (SqT.of h1),λq hq=>k q vs H c f .refl h3 hq⟩
   |@scr a ns h1=>cases eq;exact⟨a,_,rfl,.inl h1.sq,λq hq=>k q _ H c f .refl (Reps.ints ns) hq⟩
   |@obj a kk h1=>
     unfold DU at eq;dsimp only at eq
     cases es:t.S[kk]? with
     |none=>rw[es] at eq;cases eq
     |some o=>
       rw[es] at eq
       cases o with
       |dct _|ins _ _=>cases eq
       |lst ds=>
         cases eq
         clear 5(f.s.obs kk a _ h1 es)vs g1 g2;exact⟨a,vs,rfl,.inl (SqL.of g1),λq hq=>k q vs H c f .refl g2 hq⟩
   |_=>cases eq
def Gu:List D->M D
 |[.int i]=>ret (.int i)
 |[.bl b]=>ret (.int (if b then 1 else 0))
 |_=>fail
theorem W0:Gp K (λxs H Q=>(∃i,xs=[.int i]/\Q (.int i) H)\/∃k,xs=[.bl k]/\Q (.int (if k then 1 else 0)) H) Gu:=λ{Oo c t σ H xs ds r t' Q} f rx eq k=>by
 match ds,rx,eq with
 |[],_,eq=>cases eq
 |d0::_::_,_,eq=>cases d0<;>cases eq
 |[d],rx,eq=>
   clear 5(FH rx)v rfl rv
   cases rv with
   |int i=>cases eq;exact .inl ⟨i,rfl,k _ H c f .refl (.int _)⟩
   |bl b=>cases eq;exact .inr ⟨b,rfl,k _ H c f .refl (.int _)⟩
   |_=>cases eq
def bP:List D->M D
 |[.int i]=>ret (.int (if i<0 then -i else i))
 |_=>fail
def K8:List D->M D
 |[.int i,.int j]=>ret (.int (if j<i then j else i))
 |_=>fail
def b8:List D->M D
 |[.int i,.int j]=>ret (.int (if j > i then j else i))
 |_=>fail
theorem W5:Gp K (λxs H Q=>∃i j,xs=[.int i,.int j]/\Q (.int (if j<i then j else i)) H) K8:=λ{Oo c t σ H xs ds r t' Q} f rx eq k=>by
 unfold K8 at eq
 split at eq
 .next i j=>
  clear 5(U5 rx)v u rfl rv ru
  cases rv;cases ru;cases eq
  exact⟨i,j,rfl,k _ H c f .refl (.int _)⟩
 .cases eq
def JD:List D->M D
 |[.str x]=>λt=>if x.length=1 then some (.int (x.cps.getD 0 0:Nat),t) else none
 |_=>fail
theorem W9:Gp K (λxs H Q=>∃x,xs=[.str x]/\x.length=1/\Q (.int (x.cps.getD 0 0:Nat)) H) JD:=λ{Oo c t σ H xs ds r t' Q} f rx eq k=>by
 match ds,rx,eq with
 |[],_,eq=>cases eq
 |d0::_::_,_,eq=>cases d0<;>cases eq
 |[d],rx,eq=>
   clear 5(FH rx)v rfl rv
   cases rv with
   |str x=>
     unfold JD at eq;dsimp only at eq
     split at eq
     .next h=>cases eq;exact⟨x,rfl,h,k _ H c f .refl (.int _)⟩
     .cases eq
   |_=>cases eq
end
end
open AutoSeq1 (wpAny_loadPart')
open AutoSeq1 (wpAny_loadPart')
theorem MtM.or{X:Cx}{id:String}{r r':V->List V->Hp->VK->Prop}(h:MtM X id r)(h':MtM X id r'):MtM X id (λx xs H Q=>r x xs H Q\/r' x xs H Q):=by
 intro ff s σ H x xs v us Q I rx rv q;rcases q with q|q
 .exact h ff s σ H x xs v us Q I rx rv q
 .exact h' ff s σ H x xs v us Q I rx rv q
section
variable{X:Cx}{a b c d:Expr}{ta tb tc td:TE}{pos:Pos}
end
section
variable{K:fc}
def AD(x y:D):M D:=XH x y
def UZ(K:fc):R2:=Ql K
theorem OO{X:Cx}:OpR X (binaryOp .Add) (UZ X.K):=Wo
theorem NG:A6 K (UZ K) AD:=WX
def T4:D->D->M D
 |.int i,.int j=>λt=>if FG i j=true then some (.int (i*j),t) else none
 |_,_=>fail
def Qo(K:fc):R2:=rI CMul (λi j=>.int (i*j))
theorem op_mul3{X:Cx}:OpR X (binaryOp .Mult) (Qo X.K):=YS
theorem W7:A6 K (Qo K) T4:=λ{Oo c t σ H x y dx dy r t' Q} f rx ry eq k=>by
 cases rx with
 |int i=>
   cases ry with
   |int j=>
     unfold T4 at eq;dsimp only at eq
     split at eq
     .next h=>cases eq;exact⟨i,j,rfl,rfl,RN h,k _ H c f .refl (.int _)⟩
     .cases eq
   |_=>cases eq
 |_=>cases eq
end
section
variable{K:fc}{μ:Cf->Hp->D->(V->Hp->Prop)->Prop}
section
variable{X:Cx}{e a b:Expr}{pos:Pos}
def BR(xs:List D):List D->Option (List D)
 |[d]=>if xs.length<LIM then some (xs++[d]) else none
 |_=>none
def Fq(xs:List D):List D->Option (List D)
 |[.lst ys]=>if xs.length+ys.length<=LIM then some (xs++ys) else none
 |_=>none
def ownM(i:Nat)(h:List D->List D->Option (List D))(g:M (List D)):M Out:=λt=>match t.env[i]? with
 | some (some (.own _))=>bnd g (λds t1=>match t1.env[i]? with
   |some (some (.own xs))=>(h xs ds).map λys=>(.next,{t1 with env:=t1.env.set i (some (.own ys))})
   |_=>none) t
 |_=>none
def Mu(K:fc)(R:V->List V->Hp->VK->Prop)(h:List D->List D->Option (List D)):Prop:=∀{c:Cf}{S:List Ob}{H:Hp}{a:fh}{vs us:List V}{xs ds ys:List D}{Q:VK},SInv K c S H->H a=some (.lst vs)->Reps K c H vs xs->Reps K c H us ds->h xs ds=some ys->
 (∀ws,Reps K c H ws ys->Q .non (upd H a (.lst ws)))->R (.ref a) us H Q
theorem O6:Mu K OY BR:=λ{c S H a vs us xs ds ys Q} s h r rs e k=>by
 unfold BR at e
 split at e
 .next d=>
  split at e
  .next hl=>
   cases e
   clear 5(FH rs)v rfl rv;exact⟨a,vs,v,rfl,rfl,h,by rw[r.length];exact ue9 hl B6,k _ (r.append (.cons rv .nil))⟩
  .cases e
 .cases e
def U0(K:fc):V->List V->Hp->VK->Prop:=OZ
theorem OJ{X:Cx}:MtM X "list.extend" (U0 X.K):=RM
theorem O7:Mu K (U0 K) Fq:=λ{c S H a vs us xs ds ys Q} s h r rs e k=>by
 unfold Fq at e
 split at e
 .split at e
  .next hl=>
   cases e
   clear 5(FH rs)v rfl rv
   cases rv with
   |lst h1 h2 h3=>exact⟨a,_,vs,_,rfl,rfl,h,h1,by rw[r.length,h3.length];exact um5 hl B6,k _ (r.append h3)⟩
  .cases e
 .cases e
theorem RS.ownM{μ:Cf->Hp->D->(V->Hp->Prop)->Prop}{K:fc}{i:Nat}{h:List D->List D->Option (List D)}{g:M (List D)}{R:V->List V->Hp->VK->Prop}(s:Mu K R h){E:Ends}{σ:L2.St}{H:Hp}(q:RSg K μ (L2.ownM i h g) E σ H):U7 (tBM K "list" R (Zz i) (RA K g)) E σ H:=by
 clear 5 q Oo c t fi o t' eq k;unfold L2.ownM at eq
 split at eq
 .next xs0 e0=>
  clear 5(Af eq)ds t1 e1 eq;clear 5(fi.own i xs0 e0)a vs0 h1 h2 h3 h4 h5;refine⟨.ref a,h1,.inl ⟨rfl,vs0,SqL.of h4⟩,Oo,c,t,fi,ds,t1,e1,λus H1 c1 f1 s1 rus=>?_⟩
  split at eq
  .next xs ex=>
   clear 5(uc2.mp eq)ys ey ez
   cases ez
   clear 5(f1.own i xs ex)a' vs g1 g2 g3 g4 g5;rw[h1] at g1;injection g1 with g1;injection g1 with g1;injection g1 with g1;subst g1
   refine s f1.s g4 g5 rus ey λws rws=>?_;clear 5(f1.wrOwn ex h1 rws)f2 s2;exact k σ _ c1 f2 (s1.trans s2)
  .cases eq
 .cases eq
theorem Q9(i:Nat){x:Str}{es:List Expr}{g:M (List D)}{px apos cpos:Pos}(ha:PA X (e::es) (RA X.K g))(hN:X.N[i]?=some x:=by rfl)(hv:Vis X.env.scope x:=by walk_at"h")(hd:(x==("__debug__":Str))=false:=by decide)
 (hcd:(x==("__classdict__":Str))=false:=by decide)
 (hbase:attributeBase (.Name x px) "append" X.env (eval (.Name x px) X.env)=eval (.Name x px) X.env:=by rfl)
 (hfew:((backTo cpos (starEach (e::es) X.env)).all (λx=>!x.1)&&(backToKw cpos (keywordEach [] X.env)).all (λx=>x.1.isSome)&&decide ((e::es).length+([]:List Keyword).length+(if ([]:List Keyword).isEmpty then 0 else 1)<30))=true:=by rfl)
 (hline:(apos.endLine==cpos.line)=true:=by rfl) (hs:starEach (e::es) X.env=(false,eval e X.env)::starEach es X.env:=by rfl) (hplain:(backTo cpos (starEach es X.env)).any (·.1)=false:=by rfl) :
 PS X (.Expr (.Call (.Attribute (.Name x px) "append" apos) (e::es) [] cpos) pos) (RSg X.K μ (ownM i BR g)):=
 AU (Ld (IV ub4 fx fy LM (GO hN hv hd hcd) ha hbase hfew hline hs hplain)) λ_ _ _ q=>RS.ownM O6 q
theorem Ra(i:Nat){x:Str}{es:List Expr}{g:M (List D)}{px apos cpos:Pos}(ha:PA X (e::es) (RA X.K g))(hN:X.N[i]?=some x:=by rfl)(hv:Vis X.env.scope x:=by walk_at"h")(hd:(x==("__debug__":Str))=false:=by decide)
 (hcd:(x==("__classdict__":Str))=false:=by decide)
 (hbase:attributeBase (.Name x px) "extend" X.env (eval (.Name x px) X.env)=eval (.Name x px) X.env:=by rfl)
 (hfew:((backTo cpos (starEach (e::es) X.env)).all (λx=>!x.1)&&(backToKw cpos (keywordEach [] X.env)).all (λx=>x.1.isSome)&&decide ((e::es).length+([]:List Keyword).length+(if ([]:List Keyword).isEmpty then 0 else 1)<30))=true:=by rfl)
 (hline:(apos.endLine==cpos.line)=true:=by rfl) (hs:starEach (e::es) X.env=(false,eval e X.env)::starEach es X.env:=by rfl) (hplain:(backTo cpos (starEach es X.env)).any (·.1)=false:=by rfl) :
 PS X (.Expr (.Call (.Attribute (.Name x px) "extend" apos) (e::es) [] cpos) pos) (RSg X.K μ (ownM i Fq g)):=
 AU (Ld (IV ub4 fz gb OJ (GO hN hv hd hcd) ha hbase hfew hline hs hplain)) λ_ _ _ q=>RS.ownM O7 q
def objM(h:List D->List D->Option (List D))(f:M D)(g:M (List D)):M D:=bnd f λo=>match o with
 |.obj k=>λt=>match t.S[k]? with
   | some (.lst _)=>bnd g (λds t1=>match t1.S[k]? with
     |some (.lst xs)=>(h xs ds).map λys=>(.non,{t1 with S:=t1.S.set k (.lst ys)})
     |_=>none) t
   |_=>none
 |_=>fail
theorem RE.objM{K:fc}{h:List D->List D->Option (List D)}{f:M D}{g:M (List D)}{R:V->List V->Hp->VK->Prop}(s:Mu K R h){σ:L2.St}{H:Hp}{Q:VK}(q:RE K (L2.objM h f g) σ H Q):tBM K "list" R (RE K f) (RA K g) σ H Q:=by
 clear 5 q Oo c t fi r t' eq k;clear 5(Af eq)o t0 e0 eq;refine⟨Oo,c,t,fi,o,t0,e0,λx H0 c0 f0 s0 rx=>?_⟩
 cases rx with
 |@obj a kk hk=>
   dsimp only at eq
   split at eq
   .next xs0 ex0=>
    clear 5(Af eq)ds t1 e1 eq;clear 5(f0.s.obs kk a _ hk ex0)vs0 g0 g0';refine⟨.inl ⟨rfl,vs0,SqL.of g0⟩,Oo,c0,t0,f0,ds,t1,e1,λus H1 c1 f1 s1 rus=>?_⟩
    split at eq
    .next xs ex=>
     clear 5(uc2.mp eq)ys ey ez
     cases ez
     have hk1:=s1.ext.io _ _ hk;clear 5(f1.s.obs kk a _ hk1 ex)vs g1 g2;refine s f1.s g1 g2 rus ey λws rws=>?_;obtain⟨f2,s2⟩:=f1.wrObj (o:=.lst ys) (u:=.lst ws) hk1 λc' H' ext hu=>⟨ws,hu,rws.mono ext⟩;exact k _ _ c1 f2 ((s0.trans s1).trans s2) .non
    .cases eq
   .cases eq
 |_=>cases eq
theorem Q0{o:Expr}{es:List Expr}{f:M D}{g:M (List D)}{apos cpos:Pos}(ho:PE X o (RE X.K f))(ha:PA X (e::es) (RA X.K g))
 (hbase:attributeBase o "append" X.env (eval o X.env)=eval o X.env:=by rfl)
 (hfew:((backTo cpos (starEach (e::es) X.env)).all (λx=>!x.1)&&(backToKw cpos (keywordEach [] X.env)).all (λx=>x.1.isSome)&&decide ((e::es).length+([]:List Keyword).length+(if ([]:List Keyword).isEmpty then 0 else 1)<30))=true:=by rfl)
 (hline:(apos.endLine==cpos.line)=true:=by rfl) (hs:starEach (e::es) X.env=(false,eval e X.env)::starEach es X.env:=by rfl) (hplain:(backTo cpos (starEach es X.env)).any (·.1)=false:=by rfl) :
 PE X (.Call (.Attribute o "append" apos) (e::es) [] cpos) (RE X.K (objM BR f g)):=
 AH (IV ub4 fx fy LM ho ha hbase hfew hline hs hplain) λ_ _ _ q=>RE.objM O6 q
def Gb(o i d:D):M Unit:=match o,i with
 |.obj k,.int j=>λt=>match t.S[k]? with
   |some (.lst xs)=>(ixN xs.length j).map λn=>((),{t with S:=t.S.set k (.lst (xs.set n d))})
   |_=>none
 |_,_=>fail
def stD(f g:M D)(d:D):M Unit:=bnd f λo=>bnd g λi=>Gb o i d
theorem Yc{o i:Expr}{f g:M D}(ho:PE X o (RE X.K f))(hi:PE X i (RE X.K g))
 (ha:∀v,assign (.Subscript o i pos) X.env v=(do
   let ov <-holding [v] (eval o X.env)
   let iv <-holding [v,ov] (eval i X.env)
   standAt pos
   holding [v,ov,iv] (setItem ov iv v)
   release [v,ov,iv] []):=by intro _;rfl):PG X (.Subscript o i pos) (RG X.K (stD f g)):=
 HG (Np ho hi NH ha) λv σ H Q z9=>by
  clear 5 z9 Oo c t d fi rv t' eq k;clear 5(Af eq)d0 t1 e1 eq;clear 5(Af eq)di t2 e2 eq;refine⟨Oo,c,t,fi,_,t1,e1,λx H1 c1 f1 s1 rx=>⟨Oo,c1,t1,f1,di,t2,e2,λy H2 c2 f2 s2 ry=>?_⟩⟩;unfold Gb at eq
  split at eq
  .cases ry with
   |int j=>
   cases rx with
   |@obj a kk hk=>
     split at eq
     .next xs ex=>
      clear 5(uc2.mp eq)n en ez
      cases ez
      have hk2:=s2.ext.io _ _ hk;clear 5(f2.s.obs _ a _ hk2 ex)vs g1 g2;refine⟨a,vs,_,n,rfl,rfl,g1,by rw[g2.length];exact en,?_⟩;have rv2:=rv.mono (s1.trans s2).ext;obtain⟨f3,s3⟩:=f2.wrObj (o:=.lst (xs.set n d)) (u:=.lst (vs.set n v)) hk2 λc' H' ext hu=>⟨_,hu,(Reps.set rv2 n g2).mono ext⟩;exact k σ _ c2 f3 ((s1.trans s2).trans s3)
     .cases eq
  .cases eq
end
variable{H:Hp}
section
variable{X:Cx}{e a b tg iter elt:Expr}{ifs:List Expr}{pos:Pos}{scope:Scope}{N':List Str}{n:Nat}{fr:List Nat}{f:M (List D)}{st:D->M Unit}{tst:M Bool}{el:M D}
def CT:M Bool:=ret true
theorem Vy:PIf X [] (RT X.K CT):=λff s σ H Q I z9=>by
 clear 5 z9 Oo c t fi r t' eq k;exact WC ff s σ H Q I (by cases eq;exact k H c fi .refl)
theorem Vz{g:M Bool}(h:PT X e (RT X.K g)):PIf X [e] (RT X.K g):=WD h
theorem FN(O:CmpOk X scope N' (Dw n fr))(hc:X.calm=true)(hi:PI X tg iter (RI X.K f))
 (hg:∀cl C s2 H2 fp,PG (A0 X N' scope cl C s2 H2 fp) tg (RG X.K st)) (ht:∀cl C s2 H2 fp,PIf (A0 X N' scope cl C s2 H2 fp) ifs (RT X.K tst)) (he:∀cl C s2 H2 fp,PE (A0 X N' scope cl C s2 H2 fp) elt (RE X.K el))
 (hs:∀x,foldedSetIterable iter X.env x=pure x:=by intro _;rfl):PE X (.ListComp elt [⟨tg,iter,ifs,0⟩] scope pos) (RF X.K (AS n fr f st tst el)):=
 AH (Lb O hc hi hg ht he hs) λ_ _ _ q=>RF.comp q
theorem RF.ofPure{f:M (List D)}{σ:L2.St}{Q:VK}(q:RE K (Ax f) σ H Q):RF K f σ H Q:=by
 clear 5 q Oo c t fi r t' eq k;clear 5(Af eq)ds t1 e1 eq
 cases eq
 exact⟨Oo,c,t,fi,ds,_,e1,λp xs H1 c1 f1 s1 rxs hp=>k _ _ c1 (f1.laid hp) (s1.trans (f1.stp_laid hp)) (.lst AL (f1.s.free hp) (rxs.mono (Ext.laid f1.s hp)))⟩
theorem VM{i:Nat}{y:Str}{py spos:Pos}(O:CmpOk X scope N' (Dw n fr))(hc:X.calm=true)(hN:X.N.Nodup)(hiN:X.N[i]?=some y)(hx:X.env.scope.names.lookup y=some .local)(hi:PI X tg iter (RI X.K f))
 (hg:∀cl C s2 H2 fp,PG (A0 X N' scope cl C s2 H2 fp) tg (RG X.K st)) (ht:∀cl C s2 H2 fp,PIf (A0 X N' scope cl C s2 H2 fp) ifs (RT X.K tst)) (he:∀cl C s2 H2 fp,PE (A0 X N' scope cl C s2 H2 fp) elt (RE X.K el))
 (hsw:swapsWith (.ListComp elt [⟨tg,iter,ifs,0⟩] scope pos) (some (.Name y py)) spos.line X.env=pure true:=by rfl)
 (hs:∀x,foldedSetIterable iter X.env x=pure x:=by intro _;rfl):PS X (.Assign [.Name y py] (.ListComp elt [⟨tg,iter,ifs,0⟩] scope pos) spos) (RSg X.K μ (An i (Ax (AS n fr f st tst el)))):=
 AU (Le O hc hN hiN hx hi hg ht he hsw hs) λE σ H q=>RF.comp (RF.ofPure (RS.set q))
theorem VL{i:Nat}{y:Str}{py spos:Pos}(O:CmpOk X scope N' (Dw n fr))(hc:X.calm=true)(hN:X.N.Nodup)(hiN:X.N[i]?=some y)(hx:X.env.scope.names.lookup y=some .local)(hi:PI X tg iter (RI X.K f))
 (hg:∀cl C s2 H2 fp,PG (A0 X N' scope cl C s2 H2 fp) tg (RG X.K st)) (ht:∀cl C s2 H2 fp,PIf (A0 X N' scope cl C s2 H2 fp) ifs (RT X.K tst)) (he:∀cl C s2 H2 fp,PE (A0 X N' scope cl C s2 H2 fp) elt (RE X.K el))
 (hsw:swapsWith (.ListComp elt [⟨tg,iter,ifs,0⟩] scope pos) (some (.Name y py)) spos.line X.env=pure true:=by rfl)
 (hs:∀x,foldedSetIterable iter X.env x=pure x:=by intro _;rfl):PS X (.Assign [.Name y py] (.ListComp elt [⟨tg,iter,ifs,0⟩] scope pos) spos) (RSg X.K μ (C9 i (AS n fr f st tst el))):=
 AU (Le O hc hN hiN hx hi hg ht he hsw hs) λE σ H q=>RF.comp (RS.own q)
theorem Om(tgs:List Str)(frn:List (Nat×Str))(hk:scope.kind=.function)(hcf:∃k:Option Str,(∀n cl,cellsFrom n scope.names cl=match k with|none=>cl|some x=>(x,n)::cl)/\(∀y,scope.names.lookup y=some .cell->k=some y)/\(∀y,k=some y->scope.names.lookup y=some .cell))(hloc:(scope.names.all λy=>y.2 != .local||scope.names.lookup y.1==some .local)=true)
 (hfree:(scope.names.all λy=>y.2 != .free||X.env.kindOf y.1==some .cell||X.env.kindOf y.1==some .free)=true)
 (hf:(frn.all λp=>X.N[p.1]?==some p.2&&scope.names.lookup p.2==some .free)=true):CmpOk X scope (tgs++frn.map (·.2)) (Dw tgs.length (frn.map (·.1))):=by
 rw[uh9] at hloc hfree hf;refine⟨hk,hcf,λy hy hl=>?_,λy hy hl=>?_,λσ _=>by simp[Dw],λσ j x v h1 h2=>?_⟩
 .have:=hloc y hy;simpa[hl] using this
 .have:=hfree y hy;simpa[hl] using this
 .unfold Dw at h2
  by_cases hj:j<tgs.length
  .rw[ua8 (by simpa using hj),ub3] at h2
   split at h2<;>simp at h2
  .rw[ua4 (by simpa using hj),uc7,ug1,ug1] at h2;rw[ua4 (by simpa using hj),ug1] at h1
   cases e:frn[j-tgs.length]? with
   |none=>rw[e] at h1;cases h1
   |some p=>
     rw[e] at h1 h2;simp only[uj8,Option.some.injEq] at h1 h2;have hp:=hf p (ud8 e);rw[uh5] at hp;refine⟨p.1,by rw[<-h1];simpa using hp.1,?_,by rw[<-h1];simpa using hp.2⟩
     cases e2:σ[p.1]? with
     |none=>rw[e2] at h2;cases h2
     |some o=>rw[e2] at h2;simpa using h2
theorem LB:∀(l:List (Str×NameKind)),(l.all λy=>y.2 != .cell)=true->∀(n:Nat) (cl:List (Str×fh)),cellsFrom n l cl=cl
 |[],_,_,_=>rfl
 |(x,k)::l,h,n,cl=>by
   rw[ul6,uh5] at h;rw[cellsFrom,ia (by simpa using h.1)];exact LB l h.2 n cl
theorem Dh(tgs:List Str)(frn:List (Nat×Str))(hk:scope.kind=.function)(hcell:(scope.names.all λy=>y.2 != .cell)=true)(hloc:(scope.names.all λy=>y.2 != .local||scope.names.lookup y.1==some .local)=true)
 (hfree:(scope.names.all λy=>y.2 != .free||X.env.kindOf y.1==some .cell||X.env.kindOf y.1==some .free)=true)
 (hf:(frn.all λp=>X.N[p.1]?==some p.2&&scope.names.lookup p.2==some .free)=true):CmpOk X scope (tgs++frn.map (·.2)) (Dw tgs.length (frn.map (·.1))):=
 Om tgs frn hk ⟨none,λn cl=>LB _ hcell n cl,λy h=>by
  rw[uh9] at hcell;have:=hcell _ (B3 h);simp at this,λy h=>by cases h⟩ hloc hfree hf
theorem Tk(k:Str)(tgs:List Str)(frn:List (Nat×Str))(hk:scope.kind=.function)(hcf:∀n cl,cellsFrom n scope.names cl=(k,n)::cl)(hck:(scope.names.all λy=>y.2 != .cell||y.1==k)=true)(hlk:scope.names.lookup k=some .cell)(hloc:(scope.names.all λy=>y.2 != .local||scope.names.lookup y.1==some .local)=true)
 (hfree:(scope.names.all λy=>y.2 != .free||X.env.kindOf y.1==some .cell||X.env.kindOf y.1==some .free)=true)
 (hf:(frn.all λp=>X.N[p.1]?==some p.2&&scope.names.lookup p.2==some .free)=true):CmpOk X scope (tgs++frn.map (·.2)) (Dw tgs.length (frn.map (·.1))):=
 Om tgs frn hk ⟨some k,hcf,λy h=>by
  rw[uh9] at hck;have:=hck _ (B3 h);simp at this;rw[this],λy h=>by cases h;exact hlk⟩ hloc hfree hf
end
mutual
noncomputable def Be:D->Bool
 |.tup xs=>E1 xs
 |.lst xs=>E1 xs
 |.obj _=>false
 |.scr _=>false
 |.exc _ _=>false
 |_=>true
noncomputable def E1:List D->Bool
 |[]=>true
 |d::r=>Be d&&E1 r
end
def c0:Cf:=⟨[],λ_=>False⟩
theorem HL(a:fh):¬c0.A a:=λh=>h.elim (λz=>nomatch z) λz=>z
mutual
theorem D8{K:fc}{c:Cf}{H:Hp}{v:V}{d:D}(r:Rep K c H v d)(p:Be d=true):Rep K c0 H v d:=by
 cases r with
 |non=>exact .non
 |bl b=>exact .bl b
 |int i=>exact .int i
 |str x=>exact .str x
 |ty n=>exact .ty n
 |tup h n r=>exact .tup h (HL _) (IW r (by simpa[Be] using p))
 |lst h n r=>exact .lst h (HL _) (IW r (by simpa[Be] using p))
 |scr h=>simp[Be] at p
 |dic h n=>exact .dic h (HL _)
 |obj h=>simp[Be] at p
 |exc _ _ _ _ _=>simp[Be] at p
theorem IW{K:fc}{c:Cf}{H:Hp}{vs:List V}{ds:List D}(r:Reps K c H vs ds)(p:E1 ds=true):Reps K c0 H vs ds:=by
 cases r with
 |nil=>exact .nil
 |cons h t=>
   simp only[E1,uh5] at p;exact .cons (D8 h p.1) (IW t p.2)
end
noncomputable def D1(S:List Ob):D->D
 |.obj k=>match S[k]? with
   |some (.lst ds)=>.lst ds
   |_=>.obj k
 |d=>d
noncomputable def Yr:D->Bool
 |.obj _=>true
 |_=>false
def eqS(g:Bool->Bool)(x y:D):M D:=λt=>
 if (Yr x||Yr y)=true then(if (Be (D1 t.S x)&&Be (D1 t.S y))=true then(eqN EQD (D1 t.S x) (D1 t.S y)).map λb=>(.bl (g b),t) else none)
 else(eqN EQD x y).map λb=>(.bl (g b),t)
theorem Nz{c:Cf}{S:List Ob}{v:V}{d:D}(s:SInv K c S H)(r:Rep K c H v d)(p:Be (D1 S d)=true):Rep K c0 H v (D1 S d):=by
 cases r with
 |@obj a k hk=>
   unfold D1 at p⊢;dsimp only at p⊢
   split
   .next ds e=>
    rw[e] at p;clear 5(s.obs k a _ hk e)vs h1 h2;exact .lst h1 (HL _) (IW h2 (by simpa[Be] using p))
   .next h=>
    split at p
    .next ds e=>exact absurd e (h ds)
    .simp[Be] at p
 |non=>exact .non
 |bl b=>exact .bl b
 |int b=>exact .int b
 |str b=>exact .str b
 |ty b=>exact .ty b
 |tup h n q=>exact D8 (.tup h n q) p
 |lst h n q=>exact D8 (.lst h n q) p
 |scr h=>exact D8 (c:=c) (.scr h) p
 |dic h n=>exact D8 (.dic h n) p
 |exc a b n f q=>exact D8 (.exc a b n f q) p
theorem IY{g:Bool->Bool}:A6 K (Qn K g) (eqS g):=λ{Oo c t σ H x y dx dy r t' Q} f rx ry eq k=>by
 unfold eqS at eq
 split at eq
 .split at eq
  .next hp=>
   rw[uh5] at hp;clear 5(uc2.mp eq)b e1 e2
   cases e2
   exact⟨c0,_,_,b,Nz f.s rx hp.1,Nz f.s ry hp.2,e1,k _ H c f .refl (.bl (g b))⟩
  .cases eq
 .obtain⟨b,e1,e2⟩:=uc2.mp eq
  cases e2
  exact⟨c,dx,dy,b,rx,ry,e1,k _ H c f .refl (.bl (g b))⟩
theorem Rw{a:fh}{ns:List Int}{f:Fn}{S':List Ob}(hO:Pu H)(hS:SqL K H a (ns.map V.int))(e:f [.scr ns] []=some (.bl true,S')):spF K f [.ref a] H (λv _=>v=.bl true) λ_ _ _=>False:=by
 refine⟨c0,[.scr ns],[],⟨rfl,List.Pairwise.nil,λk a o h=>by simp[c0] at h,λb z=>z.elim,λb z=>z.elim⟩,.cons (.scr ?_) .nil,.bl true,S',e,λv H' c' _ _ _ rv=>by cases rv;rfl⟩;rcases hS with (h|h)|h
 .rcases hO a with z|⟨o,xs,z⟩
  .rw[z] at h;cases h
  .rw[z] at h;cases h
 .exact .inl ⟨h,HL _⟩
 .exact .inr h
end
section
variable{prog:fk}{w:fq}{A:Around}{E:fg->fj->Prop}{s:fj}
theorem J5{it l:fh}{items:Array fg}(hne:l≠it):∀(n i:Nat) (s:fj) (Q:List fg->fj->Prop),s.heap.IsListIter it l i->s.heap.IsList l items->i+n<=items.size->
 (∀h',h'.IsListIter it l (i+n)->Heap.SameBut it s.heap h'->Q ((items.toList.drop i).take n) {s with heap:=h'})->wpAny (model prog w) A (draw (.ref it) n) Q E s
 |0,i,s,Q,hit,_,_,hQ=>uo2 (by simpa using hQ s.heap hit (Heap.SameBut.refl ..))
 |n+1,i,s,Q,hit,ht,hle,hQ=>by
   have hlt:i<items.size:=by lia
   refine uo1 (wpAny_pyNext_list_item hit ht (x:=items[i]) (by simp[hlt]) λh1 hit1 hs1=>?_);refine uo1 (um2 (J5 hne n (i+1) _ _ hit1 (ht.extBut hs1.extBut hne) (by lia) λh2 hit2 hs2=>uo2 ?_));have hd:items.toList.drop i=items[i]::items.toList.drop (i+1):=by simp[ua9,hlt]
   have:=hQ h2 (by rw[show i+(n+1)=i+1+n by lia];exact hit2) (hs1.trans hs2);rw[hd,ue8] at this;exact this
theorem NV{l:fh}{items:Array fg}{targets:List (Bool×(fg->Sem Unit))}{Q:Unit->fj->Prop}(hh:A.handled=none)(ht:s.heap.IsList l items)(hn:targets.length=items.size)(hstar:targets.findIdx? (·.1)=none)
 (h:∀h',Heap.ExtBut s.heap.objs.size s.heap h'->wpAny (model prog w) A (assignInOrder (targets.map (·.2)) items.toList) Q E {s with heap:=h'}):wpAny (model prog w) A (unpack (.ref l) targets) Q E s:=by
 have hlt:l≠s.heap.objs.size:=by obtain⟨o,ho,_⟩:=ht;exact um4 (um3 ho)
 unfold unpack;rw[hn,hstar];refine uo1 (um2 ?_);unfold unpackItems;refine uo1 ?_;unfold notIterableAtAll;refine uo1 (wpAny_specialOf ht.typeIs PySem.F.slot_list_iter.lookup ?_);refine uo2 ?_;simp only[uf4,gZ];refine uo1 (um2 (wpAny_pyIter_list ht ?_));have hp:Heap.IsList (s.heap.push {cls:=.type "list_iterator",data:=.fields #[.ref l,.int 0 0]}) l items:=by
  clear 5 ht o ho r;exact⟨o,uc0 _ ho,r⟩
 refine uo1 (um2 (J5 hlt items.size 0 _ _ ⟨_,ue3 _ rfl,rfl,rfl⟩ hp (by lia) λh1 hit1 hs1=>?_));have hall:List.take items.size (List.drop 0 items.toList)=items.toList:=by
  rw[uk8];exact uc3 (by simp)
 rw[hall];rw[ia (by simp)];have ht1:Heap.IsList h1 l items:=hp.extBut hs1.extBut hlt;refine uo1 (um2 (wpAny_pyNext_list_end hh hit1 ht1 (by simp) λh2 he2=>?_));simp only[Option.isSome_none,uf4,gZ];exact uo2 (h h2 λb o hb e=>he2 b o hb (hs1.extBut b o hb (uc0 _ e)))
end
section
variable{X:Cx}{pos:Pos}
def gUn(K:fc)(n:Nat)(t:TGs):TG:=λv σ H Q=>∃a xs,v=.ref a/\(SqT K H a xs\/SqL K H a xs)/\xs.length=n/\t xs σ H Q
theorem ar{es:List Expr}{k:Nat}{t:TGs}{n:Nat}(hc:X.calm=true)(h:PGs X es t)
 (hn:(assignEach es X.env).length=n:=by rfl) (hst:(assignEach es X.env).findIdx? (·.1)=none:=by rfl):PG X (.Tuple es k pos) (gUn X.K n t):=by
 intro ff s σ H v u Q I r hw;obtain⟨a,xs,e1,hq|hq,hl,hw⟩:=hw
 .exact Y5 hc h hn hst ff s σ H v u Q I r ⟨a,xs,e1,hq,hl,hw⟩
 .subst e1
  cases r
  clear 5(I.list hq)its rv ht hz;rw[assign_Tuple];refine uo1 (gI (NV (I.ok.hd hc) ht.isList (by simp[hn,<-hl,rv.length]) hst λh' hx=>?_));have I1:Inv X ff σ H {s with heap:=h'}:=I.kept (t':=s.toks) λb o e=>hx b o (um4 (um3 e)) e;exact h ff _ σ H xs _ Q I1 (by simpa using rv) hw
end
section
open HT
variable{prog:fk}{w:fq}{A:Around}{E:fg->fj->Prop}{s:fj}
theorem HE{t sl:fh}{items:Array fg}{vl vu:fg}{lo hi:Option Int}{Q:fg->fj->Prop}(ht:IsTup s.heap t items)(hs:s.heap.IsSliceOf sl vl vu .none)(pl:IsPart vl lo)(pu:IsPart vu hi)
 (hw:sIx items.size 0 lo=0/\sIx items.size items.size hi=items.size) (h:Q (.ref t) s):wpAny (model prog w) A (getItem (.ref t) (.ref sl)) Q E s:=by
 clear 5(id hs)os hos hcs hds;have hTs:s.TypeIs (.ref sl) "slice":=⟨os,hos,hcs⟩;unfold getItem
 try with_reducible refine um2 ?_
 first|refine uo1 (uo2 ?_)|skip
 refine uo1 (wpAny_sequenceKey ht.typeIs (by decide) ?_);refine uo1 (wpAny_callSpecial?_slot (name:=Str.ofString "__getitem__") ht.typeIs ua0
  (wpAny_call_entry ua0 ht.typeIs entry_tuple_getitem ?_ (args_tuple_getitem _ _)))
 show wpAny _ _ (Builtin.Tuple.tupleItemsOf (.ref t) >>= _) _ _ s;refine uo1 (tupleItemsOf_ ht ?_);refine uo1 (wpAny_typeOf hTs ?_);rw[hX (by decide)];refine uo1 (Ga hs pl pu ?_);have hyes:(((sIx items.size 0 lo:Nat):Int)==0&&(1:Int)==1&&(sIx items.size items.size hi-sIx items.size 0 lo)==items.size)=true:=by
  rw[hw.1,hw.2];simp
 show wpAny _ _ (if (((sIx items.size 0 lo:Nat):Int)==0&&(1:Int)==1&&(sIx items.size items.size hi-sIx items.size 0 lo)==items.size)=true then _ else _) _ _ s;rw[hX hyes];refine uo1 (m:=Builtin.Tuple.tupleIsExact _) ?_;unfold Builtin.Tuple.tupleIsExact;refine uo1 (wpAny_typeOf ht.typeIs (uo2 ?_));rw[hX (by decide)]
 first
  |exact uo1 (wpAny_rule (uo2 ⟨_,rfl,uo2 h⟩))
  |exact uo1 (wpAny_rule (uo1 (uo2 (uo2 ⟨_,rfl,uo2 h⟩))))
end
section
variable{X:Cx}
def Zk(K:fc):V->Option Int->Option Int->Hp->VK->Prop:=λx lo hi H Q=>∃a xs,x=.ref a/\SqT K H a xs/\(HT.sIx xs.length 0 lo=0/\HT.sIx xs.length xs.length hi=xs.length)/\Q (.ref a) H
theorem Xf:SlR X (Zk X.K):=by
 intro ff s σ H x v vl vu lo hi sl Q I rx hs pl pu h;clear 5 h a xs rfl hx hw q
 cases rx
 clear 5(I.tuple hx)its r ht hz;have hlen:its.toArray.size=xs.length:=by rw[ug0];exact r.length.symm
 exact⟨"tuple",_,ua0.lookup,ht.typeIs,HE ht hs pl pu (by rw[hlen];exact hw) ⟨.ref a,H,I,rfl,q⟩⟩
end
noncomputable def Its(z:Str):It:=⟨λi _=>i<z.cps.size,λi H x H'=>H'=H/\∃c,z.cps[i]?=some c/\x=.str ⟨#[c]⟩,λi _=>i=z.cps.size⟩
theorem NU{P:fk}{w:fq}{K:fc}{tg:Expr}{T:String}{x:Str}{t:Tok}(it:fh)(hT:["enumerate", "zip", "dict_itemiterator", "dict_reverseitemiterator", "odict_iterator", "itertools.zip_longest", "itertools.pairwise"].contains T=false)
 (W:∀A:Around,A.handled=none->Walks P w A it [it] [it] x.cps.size (SignAt x) (λi h=>h.IsStrIter it T x t i))
 (self:∀(A:Around) (i:Nat) (s:fj) (Q:fg->fj->Prop) (E:fg->fj->Prop),s.heap.IsStrIter it T x t i->Q (.ref it) s->wpAny (model P w) A (pyIter (.ref it)) Q E s) :
 Turn P w K tg (Its x) [it] it (λi h=>h.IsStrIter it T x t i) where
 mem:=by simp
 obj:=λi h st b hb=>by
  have e:b=it:=by simpa using hb
  subst e;clear 5 st o e c d;exact⟨o,e,λv z=>by rw[d] at z;cases z⟩
 keep:=λi h h' st k=>by
  clear 5 st o e r;exact⟨o,k it (by simp) o e,r⟩
 item:=by
  intro X hP hw hK hc i ff s σ H E I hf st hg;subst hP hw hK;clear 5(hf it (by simp))f0 f1 f2 f3 f4 f5;refine(W X.A (I.ok.hd hc)).item i s _ _ hg st λv h' tk hv st' kk=>?_;clear 5 hv c u hcc rfl;have I1:Inv X ff σ H {s with heap:=h',toks:=tk}:=I.turned (λb o hb e=>kk b o (by simpa using hb) e) f0 f1 f3 f4 f5;clear 5(id st')o e ec ed;exact⟨_,rfl,Mg (s:={s with heap:=h',toks:=tk}) e ec ed hT ⟨.str ⟨#[c]⟩,H,I1,⟨u,rfl⟩,⟨rfl,c,hcc,rfl⟩,st',λb hb=>(hf b hb).1⟩⟩
 done:=by
  intro X hP hw hK hc i ff s σ H E I hf st hg;subst hP hw hK;clear 5(hf it (by simp))f0 f1 f2 f3 f4 f5;have hg':i=x.cps.size:=hg;subst hg';exact(W X.A (I.ok.hd hc)).done s _ _ st λh' tk kk=>⟨rfl,I.turned (λb o hb e=>kk b o (by simpa using hb) e) f0 f1 f3 f4 f5⟩
 self:=λA i s Q E st h=>self A i s Q E st h
section
variable{X:Cx}{tg:Expr}{pos:Pos}
def b4(K:fc)(tl:TE):TI:=λσ H R=>tl σ H λx H1=>(∃a,x=.ref a/\(∃xs,SqL K H1 a xs)/\R (Itl K a) H1)\/(∃a,x=.ref a/\(∃xs,SqT K H1 a xs)/\R (Itt K a) H1)\/∃z,x=.str z/\R (Its z) H1
theorem Sb{l:Expr}{tl:TE}(hl:PE X l tl):PI X tg l (b4 X.K tl):=by
 intro ff s σ H R I h;refine thn (hl ff s σ H _ I h) λv s1 z9=>?_;clear 5 z9 x H1 I1 r1 q1;have fp:∀b∈[s1.heap.objs.size],FpOk X ff H1 b:=λb hb=>by
  have e:b=s1.heap.objs.size:=by simpa using hb
  subst e;exact I1.fpOk (un6 _) (I1.hok.fresh (un6 _))
 rcases q1 with⟨a,rfl,⟨xs,hq⟩,q⟩|⟨a,rfl,⟨xs,hq⟩,q⟩|⟨z,rfl,q⟩
 .cases r1
  clear 5(I1.list hq)its rv p hz;refine wpAny_pyIter_list p.isList ?_;exact⟨s1.heap.objs.size,[s1.heap.objs.size],_,_,H1,rfl,I1.kept (t':=s1.toks) λb o e=>uc0 _ e,SI a _,⟨_,ue3 _ rfl,rfl,rfl⟩,fp,q⟩
 .cases r1
  clear 5(I1.tuple hq)its rv p hz;refine wpAny_pyIter_tuple (show s1.heap.IsTuple a its.toArray from p) ?_;exact⟨s1.heap.objs.size,[s1.heap.objs.size],_,_,H1,rfl,I1.kept (t':=s1.toks) λb o e=>uc0 _ e,Qy a _,⟨_,ue3 _ rfl,rfl,rfl⟩,fp,q⟩
 .obtain⟨t,rfl⟩:=r1
  cases ha:z.cps.all (· < 128)
  .refine wpAny_pyIter_wide ha ?_;exact⟨s1.heap.objs.size,[s1.heap.objs.size],_,_,H1,rfl,I1.kept (t':=s1.toks) λb o e=>uc0 _ e,NU (T:="str_iterator") (x:=z) (t:=t) _ (by decide) (λA hA=>Walks.strWide hA _ z t) (λ_ _ _ _ _ st h=>wpAny_pyIter_striter_wide st h),⟨_,ue3 _ rfl,rfl,rfl⟩,fp,q⟩
  .refine wpAny_pyIter_ascii ha ?_;exact⟨s1.heap.objs.size,[s1.heap.objs.size],_,_,H1,rfl,I1.kept (t':=s1.toks) λb o e=>uc0 _ e,NU (T:="str_ascii_iterator") (x:=z) (t:=t) _ (by decide) (λA hA=>Walks.strAscii hA _ z t) (λ_ _ _ _ _ st h=>wpAny_pyIter_striter_ascii st h),⟨_,ue3 _ rfl,rfl,rfl⟩,fp,q⟩
def U4:R2:=λx y H Q=>∃z k,x=.str z/\y=.int k/\MulOk z k/\Q (.str (Txt.mul z k)) H
theorem Ws:OpR X (binaryOp .Mult) U4:=by
 intro ff s σ H x y v u Q I rx ry h;clear 5 h z k rfl rfl hk q;clear 5 rx t rfl;clear 5 ry t' rfl;exact SB.mul hk λt2 tk=>⟨.str _,H,I.tok tk,⟨t2,rfl⟩,q⟩
def Zi:V->Option Int->Option Int->Hp->VK->Prop:=λx lo hi H Q=>∃z,x=.str z/\z.length<=sizeLine/\Q (.str (Txt.slice z lo hi)) H
theorem sl_str:SlR X Zi:=by
 intro ff s σ H x v vl vu lo hi sl Q I rx hs pl pu h;clear 5 h z rfl hz q;clear 5 rx t rfl;refine⟨"str",_,PySem.F.slot_str_getitem.lookup,typeIs_str _ _ _,?_⟩;have part:∀{v:fg}{o:Option Int},IsPart v o->∃l:Option (Int×Tok),v=partValue l/\l.map (·.1)=o:=λ{v o} p=>by
  cases p with
  |none=>exact⟨none,rfl,rfl⟩
  |int i t=>exact⟨some (i,t),rfl,rfl⟩
 clear 5(part pl)l rfl el;clear 5(part pu)u rfl eu;refine wpAny_getItem_str_slice (l:=l) (u:=u) (st:=none) (by clear 5 hs o h1 h2 h3;exact⟨o,h1,h2,h3⟩) rfl ?_;unfold sliceMade slicePicked;rw[el,eu];show(if ((1:Int)==1&&(Builtin.Str.strSliceIndices lo hi 1 z.length).length==z.length)=true then Made.val (.str z t) else Made.str ⟨((Builtin.Str.strSliceIndices lo hi 1 z.length).filterMap (z.cps[·]?)).toArray⟩).post _ s;have hle:=Txt.slice_le z lo hi;unfold Txt.slice at q hle
 by_cases hc:((1:Int)==1&&(Builtin.Str.strSliceIndices lo hi 1 z.length).length==z.length)=true
 .rw[hX hc] at q⊢;exact⟨.str z,H,I,⟨t,rfl⟩,q⟩
 .rw[ia hc] at q hle⊢;exact⟨um5 hle hz,.str _,H,I.tok _,⟨_,rfl⟩,q⟩
def Hs(g:Int->Int->Bool)(h:List Nat->List Nat->Bool):R2:=λx y H Q=>(∃i j,x=.int i/\y=.int j/\Q (.bl (g i j)) H)\/∃i j,x=.str i/\y=.str j/\Q (.bl (h i.cps.toList j.cps.toList)) H
theorem YQ:OpR X (compareOp .Lt) (Hs (λi j=>decide (i<j)) λi j=>decide (i<j)):=op_lt.or λff s σ H x y v u Q I rx ry h=>by
 clear 5 h i j rfl rfl q;clear 5 rx t rfl;clear 5 ry t' rfl;exact P.lt_str ⟨.bl _,H,I,rfl,q⟩
theorem R9:OpR X (compareOp .LtE) (Hs (λi j=>decide (i<=j)) λi j=>!(decide (j<i))):=op_le.or λff s σ H x y v u Q I rx ry h=>by
 clear 5 h i j rfl rfl q;clear 5 rx t rfl;clear 5 ry t' rfl;exact P.le_str ⟨.bl _,H,I,rfl,q⟩
theorem R6:OpR X (compareOp .Gt) (Hs (λi j=>decide (j<i)) λi j=>decide (j<i)):=op_gt.or λff s σ H x y v u Q I rx ry h=>by
 clear 5 h i j rfl rfl q;clear 5 rx t rfl;clear 5 ry t' rfl;exact P.gt_str ⟨.bl _,H,I,rfl,q⟩
theorem YO:OpR X (compareOp .GtE) (Hs (λi j=>decide (j<=i)) λi j=>!(decide (i<j))):=op_ge.or λff s σ H x y v u Q I rx ry h=>by
 clear 5 h i j rfl rfl q;clear 5 rx t rfl;clear 5 ry t' rfl;exact P.ge_str ⟨.bl _,H,I,rfl,q⟩
end
def D7:D->M (List D)
 |.lst ds=>ret ds
 |.scr ns=>ret (ns.map .int)
 |.tup ds=>ret ds
 |.str x=>ret (x.cps.toList.map λc=>.str ⟨#[c]⟩)
 |_=>fail
def Ck(f:M D):M (List D):=bnd f D7
def DI:D->D->M D
 |.str x,.int k=>λt=>if De k=true/\x.length*k.toNat<=LIM/\k<=LIM/\x.length<=LIM then some (.str (Txt.mul x k),t) else none
 |x,y=>T4 x y
def Ci:D->Option Int->Option Int->M D
 |.str x,lo,hi=>lim x.length (.str (Txt.slice x lo hi))
 |.tup ds,lo,hi=>ret (.tup (AV ds lo hi))
 |x,lo,hi=>slD x lo hi
def MO(g:Int->Int->Bool)(h:List Nat->List Nat->Bool):D->D->M D
 |.int i,.int j=>ret (.bl (g i j))
 |.str x,.str y=>ret (.bl (h x.cps.toList y.cps.toList))
 |_,_=>fail
def ltA:=MO (λi j=>decide (i<j)) (λi j=>decide (i<j))
def leA:=MO (λi j=>decide (i<=j)) (λi j=>!(decide (j<i)))
def gtA:=MO (λi j=>decide (j<i)) (λi j=>decide (j<i))
def geA:=MO (λi j=>decide (j<=i)) (λi j=>!(decide (i<j)))
def unS(n:Nat)(g:List D->M Unit):D->M Unit
 |.tup ds=>if ds.length=n then g ds else fail
 |.lst ds=>if ds.length=n then g ds else fail
 |_=>fail
def XX:M D:=fC .dic
def Gm(i:Nat)(g:M D)(d:D):M Unit:=λt=>match t.env[i]? with
 | some (some (.own _))=>bnd g (λj t1=>match j,t1.env[i]? with
   |.int j,some (some (.own xs))=>(ixN xs.length j).map λn=>((),{t1 with env:=t1.env.set i (some (.own (xs.set n d)))})
   |_,_=>none) t
 |_=>none
section
variable{μ:Cf->Hp->D->(V->Hp->Prop)->Prop}{tg:Expr}{K:fc}{n:Nat}{g:List D->M Unit}{es:List Expr}
section
variable{X:Cx}{e a b:Expr}{pos:Pos}{st:Stmt}
theorem Ox:PS X st (RSg X.K μ fail):=λff s σ H E I ⟨Oo,c,t,fi,o,t',eq,k⟩=>by cases eq
theorem ItOk.str{K:fc}{c:Cf}{H:Hp}{x:Str}:ItOk K (Its x) c H (x.cps.toList.map λc=>.str ⟨#[c]⟩):=by
 refine⟨λc' H' i ex hi=>?_,λc' H' i y H'' d ex hd hy=>?_,λc' H' ex=>?_⟩
 .show i<x.cps.size;simpa using hi
 .clear 5 hy rfl n hn rfl;refine⟨rfl,?_⟩;have:d=.str ⟨#[n]⟩:=by
   rw[ug1] at hd;have hn':x.cps.toList[i]?=some n:=by simpa using hn
   rw[hn'] at hd;simpa using hd.symm
  rw[this];exact .str _
 .show _=x.cps.size;simp
theorem Ye{f:M D}(h:PE X e (RE X.K f)):PI X tg e (RI X.K (Ck f)):=
 GD (Sb h) λσ H R z9=>by
  clear 5 z9 Oo c t fi ds t' eq k;clear 5(Af eq)d t1 e1 eq;refine⟨Oo,c,t,fi,d,t1,e1,λv H1 c1 f1 s1 rv=>?_⟩
  cases rv with
  |@lst p vs ds' h1 h2 h3=>
    cases eq
    exact .inl ⟨p,rfl,⟨vs,SqL.of h1⟩,k _ H1 c1 f1 s1 (ItOk.lst λc' H' ex=>⟨vs,SqL.of (ex.keep _ _ h1 h2),h3.mono ex⟩)⟩
  |@scr p ns h1=>
    cases eq
    exact .inl ⟨p,rfl,⟨_,h1.sq⟩,k _ H1 c1 f1 s1 (ItOk.lst λc' H' ex=>⟨_,(h1.mono ex).sq,Reps.ints ns⟩)⟩
  |@tup p vs ds' h1 h2 h3=>
    cases eq
    exact .inr (.inl ⟨p,rfl,⟨vs,SqT.of h1⟩,k _ H1 c1 f1 s1 (ItOk.tup λc' H' ex=>⟨vs,SqT.of (ex.keep _ _ h1 h2),h3.mono ex⟩)⟩)
  |str x=>
    cases eq
    exact .inr (.inr ⟨x,rfl,k _ H1 c1 f1 s1 ItOk.str⟩)
  |_=>cases eq
theorem RG.un{v:V}{σ:L2.St}{H:Hp}{Q:L2.St->Hp->Prop}(q:RG K (unS n g) v σ H Q):gUn K n (RGs K g) v σ H Q:=by
 clear 5 q Oo c t d fi rv t' eq k
 cases rv with
 |@tup a vs ds h1 h2 h3=>
   unfold unS at eq
   by_cases hn:ds.length=n
   .dsimp only at eq;rw[hX hn] at eq;exact⟨a,vs,rfl,.inl (SqT.of h1),by rw[h3.length];exact hn,Oo,c,t,ds,fi,h3,t',eq,k⟩
   .dsimp only at eq;rw[ia hn] at eq;cases eq
 |@lst a vs ds h1 h2 h3=>
   unfold unS at eq
   by_cases hn:ds.length=n
   .dsimp only at eq;rw[hX hn] at eq;exact⟨a,vs,rfl,.inr (SqL.of h1),by rw[h3.length];exact hn,Oo,c,t,ds,fi,h3,t',eq,k⟩
   .dsimp only at eq;rw[ia hn] at eq;cases eq
 |_=>cases eq
theorem Z5{k:Nat}(hc:X.calm=true)(h:PGs X es (RGs X.K g))(hn:(assignEach es X.env).length=n:=by rfl)(hst:(assignEach es X.env).findIdx? (·.1)=none:=by rfl):PG X (.Tuple es k pos) (RG X.K (unS n g)):=
 HG (ar hc h hn hst) λ_ _ _ _ q=>RG.un q
theorem Tz{f:D->M Unit}(h1:PG X e (RG X.K f))(h2:PGs X es (RGs X.K g))(hs:(assignEach (e::es) X.env).map (·.2)=assign e X.env::(assignEach es X.env).map (·.2):=by rfl):PGs X (e::es) (RGs X.K (Ay f g)):=
 Of (Ug h1 h2 hs) λ_ _ _ _ q=>RGs.cons q
theorem LH(i:Nat){x:Str}{ix:Expr}{g:M D}{px:Pos}(hi:PE X ix (RE X.K g))(hN:X.N[i]?=some x:=by rfl)(hv:Vis X.env.scope x:=by walk_at"h")(hd:(x==("__debug__":Str))=false:=by decide)
 (hcd:(x==("__classdict__":Str))=false:=by decide)
 (ha:∀v,assign (.Subscript (.Name x px) ix pos) X.env v=(do
   let ov <-holding [v] (eval (.Name x px) X.env)
   let iv <-holding [v,ov] (eval ix X.env)
   standAt pos
   holding [v,ov,iv] (setItem ov iv v)
   release [v,ov,iv] []):=by intro _;rfl):PG X (.Subscript (.Name x px) ix pos) (RG X.K (Gm i g)):=
 HG (Np (GO hN hv hd hcd) hi NH ha) λv σ H Q z9=>by
  clear 5 z9 Oo c t d fi rv t' eq k;unfold Gm at eq
  split at eq
  .next xs0 e0=>
   clear 5(Af eq)j t1 e1 eq;clear 5(fi.own i xs0 e0)a vs0 h1 h2 h3 h4 h5;refine⟨.ref a,h1,Oo,c,t,fi,j,t1,e1,λy H1 c1 f1 s1 ry=>?_⟩
   split at eq
   .next j' xs ex=>
    clear 5(uc2.mp eq)n en ez
    cases ez
    cases ry
    clear 5(f1.own i xs ex)a' vs g1 g2 g3 g4 g5;rw[h1] at g1;injection g1 with g1;injection g1 with g1;injection g1 with g1;subst g1
    refine⟨a,vs,j',n,rfl,rfl,g4,by rw[g5.length];exact en,?_⟩;clear 5(f1.wrOwn ex h1 (Reps.set (rv.mono s1.ext) n g5))f2 s2;exact k σ _ c1 f2 (s1.trans s2)
   .cases eq
  .cases eq
end
variable{x:Str}
section
variable{K:fc}
def U3(K:fc):R2:=λx y H Q=>Qo K x y H Q\/U4 x y H Q
theorem Wq{X:Cx}:OpR X (binaryOp .Mult) (U3 X.K):=op_mul3.or Ws
theorem Oa{k:Int}(h:De k=true/\x.length*k.toNat<=LIM/\k<=LIM/\x.length<=LIM):MulOk x k:=by
 clear 5(Gk h.1)g1 g2;have hL:LIM=100000:=rfl;refine⟨?_,λh1 _=>?_,λh1 _=>?_⟩
 .rw[Bool.or_eq_false_iff];exact⟨uk3 (by lia),uk3 (by lia)⟩
 .have h2:k<=100000:=by have:=h.2.2.1;rw[hL] at this;exact this
  have h3:x.length<=100000:=by have:=h.2.2.2;rw[hL] at this;exact this
  have h4:(92233720368547:Int)<=(2 ^ 63-1)/k:=by
   rw[Int.le_ediv_iff_mul_le (by lia)];lia
  lia
 .have h5:=h.2.1;rw[hL] at h5;unfold Builtin.Str.tooLong
  first|exact uk3 (by unfold sizeLine;lia)|(unfold sizeLine;exact uk3 (by lia))
theorem Uv:A6 K (U3 K) DI:=λ{Oo c t σ H x y dx dy r t' Q} f rx ry eq k=>by
 unfold DI at eq
 split at eq
 .next z kk=>
  split at eq
  .next h=>
   cases eq
   cases rx
   cases ry
   exact .inr ⟨z,kk,rfl,rfl,Oa h,k _ H c f .refl (.str _)⟩
  .cases eq
 .exact .inl (W7 f rx ry eq k)
def Uo(K:fc):V->Option Int->Option Int->Hp->VK->Prop:=λx lo hi H Q=>Um K x lo hi H Q\/(Zi x lo hi H Q\/Zk K x lo hi H Q)
theorem sl3{X:Cx}:SlR X (Uo X.K):=sl2.or (sl_str.or Xf)
theorem PJ{α:Type}{xs:List α}{lo hi:Option Int}(h:HT.sIx xs.length 0 lo=0/\HT.sIx xs.length xs.length hi=xs.length):AV xs lo hi=xs:=by
 unfold AV;rw[h.1,h.2];simp
theorem Pa:Pw K (Uo K) Ci:=λ{Oo c t σ H x dx r lo hi t' Q} f rx eq k=>by
 unfold Ci at eq
 split at eq
 .next z=>
  clear 5(DE eq)h e
  cases e
  cases rx
  exact .inr (.inl ⟨z,rfl,um5 h B6,k _ H c f .refl (.str _)⟩)
 .next ds=>
  cases eq
  cases rx with
  |@tup p vs ds h1 h2 h3=>
    by_cases hw:HT.sIx ds.length 0 lo=0/\HT.sIx ds.length ds.length hi=ds.length
    .rw[PJ hw] at k;exact .inr (.inr ⟨p,vs,rfl,SqT.of h1,by rw[h3.length];exact hw,k _ H c f .refl (.tup h1 h2 h3)⟩)
    .exact .inl (.inr ⟨p,vs,rfl,SqT.of h1,by rw[h3.length];exact hw,λq hq=>k _ _ c (f.laid hq) (f.stp_laid hq) (.tup AL (f.s.free hq) ((Ht h3 lo hi).mono (Ext.laid f.s hq)))⟩)
 .exact .inl (Zr f rx eq k)
theorem IX{g:Int->Int->Bool}{h:List Nat->List Nat->Bool}:A6 K (Hs g h) (MO g h):=λ{Oo c t σ H x y dx dy r t' Q} f rx ry eq k=>by
 cases rx with
 |int i=>cases ry with
   |int j=>cases eq;exact .inl ⟨i,j,rfl,rfl,k _ H c f .refl (.bl _)⟩
   |_=>cases eq
 |str i=>cases ry with
   |str j=>cases eq;exact .inr ⟨i,j,rfl,rfl,k _ H c f .refl (.bl _)⟩
   |_=>cases eq
 |_=>cases eq
theorem W4:A6 K (Hs (λi j=>decide (i<j)) λi j=>decide (i<j)) ltA:=IX
theorem O9:A6 K (Hs (λi j=>decide (i<=j)) λi j=>!(decide (j<i))) leA:=IX
theorem O8:A6 K (Hs (λi j=>decide (j<i)) λi j=>decide (j<i)) gtA:=IX
theorem WZ:A6 K (Hs (λi j=>decide (j<=i)) λi j=>!(decide (i<j))) geA:=IX
end
variable{fa:fh}{fd:ft}
theorem Yf{P:fk}{w:fq}{mg:Str->Option fg}{base:Heap}{qual:Str}{st:Stmt}{N ps:List Str}{k m:Nat}{g:M Out}(e1:ps.length=n)(e2:N.length=m)(F:Fun K x qual st fa fd)(S:FnScope N ps (AF st))
 (hb:∀(cdv:fg) (A:Around) (outer:List Env) (s:fj) (H:Hp) (E:XK),Room k (A.deeper (PyProof.Rows.envOfC qual (AF st) s.heap.objs.size fa cdv))->
   PSs (EM CX0 P w K mg base N qual (AF st) fa cdv A outer s H E).nox (CN st) (RS K g)):FnOk P w K mg base CX0 (k+1) fa fd ps (spF K (fnOf n m g)):=by
 subst e1 e2;exact Z8 F S hb
theorem Zm{P:fk}{w:fq}{mg:Str->Option fg}{base:Heap}{ps:List Str}{k:Nat}{f g:Fn}(e:f=g)(h:FnOk P w K mg base CX0 k fa fd ps (spF K g)):FnOk P w K mg base CX0 k fa fd ps (spF K f):=by rw[e];exact h
theorem XL:bootBuiltins "len" = some (.builtin "len"):=by decide +kernel
theorem LZ:bootBuiltins "isinstance" = some (.builtin "isinstance"):=by decide +kernel
theorem XO:bootBuiltins "ord" = some (.builtin "ord"):=by decide +kernel
theorem XN:bootBuiltins "min" = some (.builtin "min"):=by decide +kernel
theorem QP:bootBuiltins "int" = some (.type "int"):=by decide +kernel
theorem XQ:bootBuiltins "str" = some (.type "str"):=by decide +kernel
theorem Vk:bootBuiltins "bool" = some (.type "bool"):=by decide +kernel
theorem Oi:bootBuiltins "list" = some (.type "list"):=by decide +kernel
theorem Tg:bootBuiltins "tuple" = some (.type "tuple"):=by decide +kernel
noncomputable def AY:Expr->Bool
 |.Starred _ _=>true
 |_=>false
theorem A5{e:Expr}{env:Env}(h:AY e=false):starEach (e::es) env=(false,eval e env)::starEach es env:=by
 cases e<;>first|rfl|cases h
def A4(es:List Expr):Bool:=es.all λe=>!AY e
theorem AW:∀{es:List Expr}{env:Env}{p:Pos},A4 es=true->(backTo p (starEach es env)).any (·.1)=false/\(backTo p (starEach es env)).all (λx=>!x.1)=true
 |[],env,p,_=>⟨rfl,rfl⟩
 |e::es,env,p,h=>by
   have h':AY e=false/\A4 es=true:=by
    rw[A4,ul6,uh5] at h;exact⟨by simpa using h.1,h.2⟩
   clear 5(AW (es:=es) (env:=env) (p:=p) h'.2)h1 h2;rw[A5 h'.1];refine⟨?_,?_⟩
   .show(false||(backTo p (starEach es env)).any (·.1))=false;rw[h1];rfl
   .show(!false&&(backTo p (starEach es env)).all (λx=>!x.1))=true;rw[h2];rfl
variable{f:M (List D)}{p:Pos}{id:String}{R:List V->Hp->VK->Prop}
section
variable{X:Cx}{e a b:Expr}{es:List Expr}{pos:Pos}
theorem Tt{f:M D}{g:M (List D)}(ha:PE X e (RE X.K f))(hr:PA X es (RA X.K g))(hs:AY e=false:=by rfl):PA X (e::es) (RA X.K (Ab f g)):=Vp ha hr (A5 hs)
theorem Tu{k:Nat}{ps:List Str}{g:Fn}(F:FnOk X.prog X.w X.K X.mg X.base CX0 k fa fd ps (spF X.K g))(hr:Room k X.A)(hg:Gl X x)(hm:X.mg x=some (.ref fa))(hk:PySem.W.keepIn X.K (.ref fa)=true)(hb:Binds X.K fd ps [])
 (ha:PA X (e::es) (RA X.K f)) (hdb:(x==("__debug__":Str))=false:=by decide) (h1:AY e=false:=by rfl) (h2:A4 es=true:=by rfl) :
 PE X (.Call (.Name x p) (e::es) [] pos) (RE X.K (Ah g f)):=Vq F hr hg hm hk hb ha hdb (A5 h1) (AW h2).1
theorem Mf{h:List D->M D}(hc:Do X (.builtin id) R)(s:Gp X.K R h)(hg:Gl X x)(hm:X.mg x=none)(hv:bootBuiltins x=some (.builtin id))(ha:PA X (e::es) (RA X.K f))(hn:x≠"__name__":=by decide)(hdb:(x==("__debug__":Str))=false:=by decide)
 (h1:AY e=false:=by rfl) (h2:A4 es=true:=by rfl):PE X (.Call (.Name x p) (e::es) [] pos) (RE X.K (fB f h)):=bT hc s hg hm hv ha hn hdb (A5 h1) (AW h2).1
theorem Z1{h:List D->M D}(hc:Do X (.type id) R)(s:Gp X.K R h)(hg:Gl X x)(hm:X.mg x=none)(hv:bootBuiltins x=some (.type id))(ha:PA X (e::es) (RA X.K f))(hn:x≠"__name__":=by decide)(hdb:(x==("__debug__":Str))=false:=by decide)
 (h1:AY e=false:=by rfl) (h2:A4 es=true:=by rfl):PE X (.Call (.Name x p) (e::es) [] pos) (RE X.K (fB f h)):=bU hc s hg hm hv ha hn hdb (A5 h1) (AW h2).1
theorem Z4{h:List D->M (List D)}(hc:Do X (.type id) R)(s:Ma X.K R h)(hg:Gl X x)(hm:X.mg x=none)(hv:bootBuiltins x=some (.type id))(ha:PA X (e::es) (RA X.K f))(hn:x≠"__name__":=by decide)(hdb:(x==("__debug__":Str))=false:=by decide)
 (h1:AY e=false:=by rfl) (h2:A4 es=true:=by rfl):PE X (.Call (.Name x p) (e::es) [] pos) (RF X.K (fBF f h)):=bV hc s hg hm hv ha hn hdb (A5 h1) (AW h2).1
theorem PQ(hg:Gl X "range")(hm:X.mg "range" = none)(ha:PA X [a] (RA X.K f))(h1:AY a=false:=by rfl):PI X tg (.Call (.Name "range" p) [a] [] pos) (RI X.K (BZ f)):=Q7 hg hm ha (A5 h1)
theorem PR(hg:Gl X "range")(hm:X.mg "range" = none)(ha:PA X [a,b] (RA X.K f))(h1:AY a=false:=by rfl)(h2:AY b=false:=by rfl):PI X tg (.Call (.Name "range" p) [a,b] [] pos) (RI X.K (Gi f)):=
 Q8 hg hm ha (by rw[A5 h1,A5 h2];rfl) (A5 h2)
theorem Q5{cpos:Pos}(h1:AY e=false)(h2:A4 es=true)(h3:es.length<20):((backTo cpos (starEach (e::es) X.env)).all (λx=>!x.1)&&(backToKw cpos (keywordEach [] X.env)).all (λx=>x.1.isSome)&&decide ((e::es).length+([]:List Keyword).length+(if ([]:List Keyword).isEmpty then 0 else 1)<30))=true:=by
 rw[(AW (es:=e::es) (env:=X.env) (p:=cpos) (by rw[A4,ul6,h1];exact h2)).2];show(true&&true&&decide (es.length+1+0+0<30))=true;simp;lia
theorem PV(i:Nat){x:Str}{g:M (List D)}{px apos cpos:Pos}(ha:PA X (e::es) (RA X.K g))(hN:X.N[i]?=some x:=by rfl)(hv:Vis X.env.scope x:=by walk_at"h")(hd:(x==("__debug__":Str))=false:=by decide)
 (hcd:(x==("__classdict__":Str))=false:=by decide) (hline:(apos.endLine==cpos.line)=true:=by rfl) (h1:AY e=false:=by rfl) (h2:A4 es=true:=by rfl) (h3:es.length<20:=by decide) :
 PS X (.Expr (.Call (.Attribute (.Name x px) "append" apos) (e::es) [] cpos) pos) (RSg X.K μ (ownM i BR g)):=Q9 i ha hN hv hd hcd rfl (Q5 h1 h2 h3) hline (A5 h1) (AW h2).1
theorem PX(i:Nat){x:Str}{g:M (List D)}{px apos cpos:Pos}(ha:PA X (e::es) (RA X.K g))(hN:X.N[i]?=some x:=by rfl)(hv:Vis X.env.scope x:=by walk_at"h")(hd:(x==("__debug__":Str))=false:=by decide)
 (hcd:(x==("__classdict__":Str))=false:=by decide) (hline:(apos.endLine==cpos.line)=true:=by rfl) (h1:AY e=false:=by rfl) (h2:A4 es=true:=by rfl) (h3:es.length<20:=by decide) :
 PS X (.Expr (.Call (.Attribute (.Name x px) "extend" apos) (e::es) [] cpos) pos) (RSg X.K μ (ownM i Fq g)):=Ra i ha hN hv hd hcd rfl (Q5 h1 h2 h3) hline (A5 h1) (AW h2).1
end
end
end L2
namespace HT
open PySem PySem.Spec L2 PyProof.Rows
section
variable{prog:fk}{w:fq}{A:Around}{E:fg->fj->Prop}{s:fj}
end
end HT
namespace L2
open PySem PySem.Spec PyProof.Rows
section
variable{X:Cx}{e ek:Expr}{p2 pos:Pos}{te:TE}{tk:TO}
end
section
variable{X:Cx}
theorem HQ:∀{ys:List Str}{us:List fg},Vals (ys.map V.str) us->CarriedAll us (ys.map PyData.str)
 |[],_,r=>by cases r;exact .nil
 |_::_,_,r=>by
   cases r with
   |cons r1 r2=>clear 5 r1 t rfl;exact .cons (.str _ _) (HQ r2)
def U2(K:fc):V->List V->Hp->VK->Prop:=λx xs H Q=>∃z a ys,x=.str z/\xs=[.ref a]/\SqL K H a (ys.map V.str)/\(∀y∈ys,y.length<=8)/\z.length<=8/\ys.length<=1048576/\Q (.str (Txt.join z ys)) H
theorem Wa:MtR X "str.join" (U2 X.K):=by
 intro ff s σ H x xs v us Q I rx rs h;clear 5 h z a ys rfl rfl ha h1 h2 h3 q;clear 5 rx t rfl;clear 5(Jb rs)u rfl ru
 cases ru
 obtain⟨its,r,pl,_⟩:=I.list ha;refine join_madeW (l:=ys) (g:=id) 8 pl.isList (by rw[List.map_id];exact HQ r) h1 h3 (by lia) λt' k=>?_;rw[List.map_id];exact⟨.str _,H,I.tok _,⟨_,rfl⟩,q⟩
end
section
variable{X:Cx}
end
section
variable{X:Cx}
end
section
variable{X:Cx}{K:fc}
noncomputable def Gc:List D->Option (List Str)
 |[]=>some []
 |.str x::r=>if x.length<=8 then(Gc r).map (x :: ·) else none
 |_=>none
def joinM(f:M D)(g:M (List D)):M D:=bnd f λo=>bnd g λas=>match o,as with
 |.str z,[.lst ds]=>λt=>match Gc ds with
   |some ys=>if z.length<=8/\ys.length<=1048576 then some (.str (Txt.join z ys),t) else none
   |none=>none
 |_,_=>fail
theorem NO{c:Cf}{H:Hp}:∀{ds:List D}{vs:List V}{ys:List Str},Reps K c H vs ds->Gc ds=some ys->vs=ys.map V.str/\∀y∈ys,y.length<=8
 |[],_,ys,r,e=>by
   cases r
   cases e
   exact⟨rfl,λ_ h=>nomatch h⟩
 |d::ds,_,ys,r,e=>by
   cases r with
   |cons r1 r2=>
     cases r1 with
     |str x=>
       unfold Gc at e
       split at e
       .next hx=>
        clear 5(uc2.mp e)zs e1 rfl;clear 5(NO r2 e1)h1 h2;refine⟨by rw[h1];rfl,λy hy=>?_⟩;rcases ul2.mp hy with rfl|hy
        .exact hx
        .exact h2 y hy
       .cases e
     |_=>cases e
theorem RE.joinM{f:M D}{g:M (List D)}{σ:L2.St}{H:Hp}{Q:VK}(q:RE K (L2.joinM f g) σ H Q):tBM K "str" (U2 K) (RE K f) (RA K g) σ H Q:=by
 clear 5 q Oo c t fi r t' eq k;clear 5(Af eq)d t1 e1 eq;clear 5(Af eq)as t2 e2 eq;refine⟨Oo,c,t,fi,d,t1,e1,λv H1 c1 f1 s1 rv=>?_⟩
 split at eq
 .next z ds=>
  cases rv
  refine⟨rfl,Oo,c1,t1,f1,_,t2,e2,λus H2 c2 f2 s2 rus=>?_⟩;clear 5(FH rus)w rfl rw'
  split at eq
  .next ys ey=>
   split at eq
   .next hz=>
    cases eq
    cases rw' with
    |@lst p vs ds h1 h2 h3=>
      clear 5(NO h3 ey)h4 h5;subst h4;exact⟨_,p,ys,rfl,rfl,SqL.of h1,h5,hz.1,hz.2,k _ _ c2 f2 (s1.trans s2) (.str _)⟩
   .cases eq
  .cases eq
 .cases eq
theorem Vs{o e:Expr}{es:List Expr}{f:M D}{g:M (List D)}{apos cpos:Pos}(ho:PE X o (RE X.K f))(ha:PA X (e::es) (RA X.K g))
 (hbase:attributeBase o "join" X.env (eval o X.env)=eval o X.env:=by rfl)
 (hfew:((backTo cpos (starEach (e::es) X.env)).all (λx=>!x.1)&&(backToKw cpos (keywordEach [] X.env)).all (λx=>x.1.isSome)&&decide ((e::es).length+([]:List Keyword).length+(if ([]:List Keyword).isEmpty then 0 else 1)<30))=true:=by rfl)
 (hline:(apos.endLine==cpos.line)=true:=by rfl) (hs:starEach (e::es) X.env=(false,eval e X.env)::starEach es X.env:=by rfl) (hplain:(backTo cpos (starEach es X.env)).any (·.1)=false:=by rfl) :
 PE X (.Call (.Attribute o "join" apos) (e::es) [] cpos) (RE X.K (joinM f g)):=
 AH (IV PySem.F.plainAttrs_str PySem.F.slot_str_join PySem.F.type_str_join Wa ho ha hbase hfew hline hs hplain) λ_ _ _ q=>RE.joinM q
end
def Si:R2:=λx y H Q=>∃a kvs k v,x=.ref a/\y=.str k/\H a=some (.dK kvs)/\Fy kvs (Sum.inr k:Key)=some v/\Q v H
def Zc:V->V->V->Hp->(Hp->Prop)->Prop:=λo i v H Q=>∃a kvs k,o=.ref a/\i=.str k/\H a=some (.dK kvs)/\kvs.length<sizeLine/\Q (upd H a (.dK (D0 kvs (Sum.inr k:Key) v)))
section
variable{X:Cx}
theorem Ys:IxR X Si:=by
 intro value slice ff s σ H x y v u Q I rx ry h hs;clear 5 h a kvs k z rfl rfl e l q
 cases rx
 obtain⟨_,_,vs,rel,dd⟩:=PK I.hok e;have g:DGet H a (kV (Sum.inr k:Key)) (some z):=by rw[<-l];exact DGet.k e
 have hT:=dd.typeIs;unfold subscriptTail;refine uo1 ?_;rw[getitemInPython_of_ne hT.not_modules];refine uo1 (wpAny_specialOf hT PySem.F.slot_dict_getitem.lookup ?_);have get:wpAny (model X.prog X.w) X.A (getItem (.ref a) u) (EP X ff σ Q) X.xe s:=by
  clear 5(RelO.some_of (v:=z) (o:=valueAt vs (Sum.inr k:Key)) (by rw[<-l];exact rel.val _))w' hw rw';exact wpAny_getItem_of (P3 (k:=(Sum.inr k:Key)) ry) dd.mapOf hw ⟨z,H,I.tok _,rw',q⟩
 have fin:wpAny (model X.prog X.w) X.A (subscripted slice false (.ref a) u) (λr s₃=>wpAny (model X.prog X.w) X.A (letTemporaryGo value (.ref a) r >>= λ_=>pure r) (EP X ff σ Q) X.xe s₃) X.xe s:=by
  rw[hs];exact wpAny_operating (uo3 get (λr s₃ h₃=>uo1 (wpAny_letTemporaryGo (uo2 h₃))) λ_ _ x=>x)
 first
  |exact uo2 (uo1 fin)
  |exact uo1 (uo2 (uo1 fin))
  |exact uo1 fin
theorem Xd:SW X Zc:=by
 intro ff s σ H o i v ov iv u Q I ro ri rv h;clear 5 h a kvs k rfl rfl e l q
 cases ro
 clear 5(PK I.hok e)z hd vs rel dd;have hz:vs.length<=sizeLine:=by rw[<-rel.length];exact z
 have hl:(D0 kvs (Sum.inr k:Key) v).length<=sizeLine:=by have:=Jj kvs (Sum.inr k:Key) v;lia
 refine wpAny_setItem_pairs (hsz:=hz) (P3 (k:=(Sum.inr k:Key)) ri) dd λh' dd' hs=>⟨_,?_,q⟩;have he:∃q,h'.get? a=some q:=let ⟨q,_,_,hq,_⟩:=dd';⟨q,hq⟩;exact On I (by rw[e];exact True.intro) hs he (QW hl hd (rel.put _ rv) dd')
end
noncomputable def Ct(kvs:List (Key×D))(k:Key):Option D:=(kvs.find? λkv=>decide (kv.1=k)).map (·.2)
noncomputable def Cu(kvs:List (Key×D))(k:Key)(d:D):List (Key×D):=
 if (kvs.any λkv=>decide (kv.1=k))=true then kvs.map (λkv=>if kv.1=k then(kv.1,d) else kv) else kvs++[(k,d)]
def BY:D->D->M D
 |.obj n,.str x=>λt=>match t.S[n]? with
   |some (.dct kvs)=>(Ct kvs (.inr x)).map λd=>(d,t)
   |_=>none
 |_,_=>fail
def GX:D->D->D->M Unit
 |.obj n,.str x,d=>λt=>match t.S[n]? with
   |some (.dct kvs)=>if kvs.length<LIM then some ((),{t with S:=t.S.set n (.dct (Cu kvs (.inr x) d))}) else none
   |_=>none
 |_,_,_=>fail
def Mm(f g:M D)(d:D):M Unit:=bnd f λo=>bnd g λi=>GX o i d
def D5:List (Str×M D)->M (List (Key×D))
 |[]=>ret []
 |(k,f)::r=>bnd f λd=>bnd (D5 r) λps=>ret ((.inr k,d)::ps)
def Eo(ps:List (Key×D)):List (Key×D):=ps.foldl (λacc kv=>Cu acc kv.1 kv.2) []
def IK(n:Nat)(ps:List (Key×D)):M D:=λt=>match t.S[n]? with
 |some (.dct [])=>if ps.length<=15 then some (.obj n,{t with S:=t.S.set n (.dct (Eo ps))}) else none
 |_=>none
def Gh(l:List (Str×M D)):M D:=λt=>bnd (D5 l) (IK t.S.length) {t with S:=t.S++[.dct []]}
def D4(i:Nat)(g:M D):M D:=λt=>match t.env[i]? with
 | some (some (.own _))=>bnd g (λj t1=>match j,t1.env[i]? with
   |.int j,some (some (.own xs))=>(atI xs j).map λd=>(d,t1)
   |_,_=>none) t
 |_=>none
section
variable{K:fc}{c:Cf}{H:Hp}
theorem KVR.get{us:List (Key×V)}{kvs:List (Key×D)}(r:KVR K c H us kvs)(k:Key){d:D}(e:Ct kvs k=some d):∃v,Fy us k=some v/\Rep K c H v d:=by
 unfold KVR at r
 induction r with
 |nil=>simp[Ct] at e
 |@cons p q ps qs h t ih=>
   by_cases hk:p.1=k
   .have hq:q.1=k:=h.1.symm.trans hk;have:Ct (q::qs) k=some q.2:=by simp[Ct,uj6,hq]
    rw[this] at e;cases e
    exact⟨p.2,NY hk,h.2⟩
   .have hq:¬q.1=k:=λz=>hk (h.1.trans z);have:Ct (q::qs) k=Ct qs k:=by simp[Ct,uj6,hq]
    rw[this] at e;rw[NX hk];exact ih e
theorem KVR.any{us:List (Key×V)}{kvs:List (Key×D)}(r:KVR K c H us kvs)(k:Key):(us.any λkv=>decide (kv.1=k))=(kvs.any λkv=>decide (kv.1=k)):=by
 unfold KVR at r
 induction r with
 |nil=>rfl
 |@cons p q ps qs h t ih=>rw[ul5,ul5,ih,h.1]
theorem KVR.put{us:List (Key×V)}{kvs:List (Key×D)}(r:KVR K c H us kvs)(k:Key){v:V}{d:D}(rv:Rep K c H v d):KVR K c H (D0 us k v) (Cu kvs k d):=by
 unfold D0 Cu;rw[r.any k]
 by_cases q:(kvs.any λkv=>decide (kv.1=k))=true
 .rw[hX q,hX q];clear q;unfold KVR at r⊢
  induction r with
  |nil=>exact .nil
  |@cons p q ps qs h t ih=>
    rw[ul3,ul3];refine .cons ?_ ih
    by_cases e:p.1=k
    .rw[hX e,hX (h.1.symm.trans e)];exact⟨h.1,rv⟩
    .rw[ia e,ia (λz=>e (h.1.trans z))];exact h
 .rw[ia q,ia q];exact Paired.snoc r ⟨rfl,rv⟩
theorem KVR.length{us:List (Key×V)}{kvs:List (Key×D)}(r:KVR K c H us kvs):us.length=kvs.length:=Paired.length r
theorem KVR.mono{c':Cf}{H':Hp}{us:List (Key×V)}{kvs:List (Key×D)}(e:Ext c H c' H')(r:KVR K c H us kvs):KVR K c' H' us kvs:=Paired.mapP r λ_ _ z=>⟨z.1,z.2.mono e⟩
theorem KVR.merge:∀{ps:List (Key×D)}{us:List (Key×V)}{acc:List (Key×D)}{ua:List (Key×V)},KVR K c H us ps->KVR K c H ua acc->KVR K c H (F6 ua us) (ps.foldl (λacc kv=>Cu acc kv.1 kv.2) acc):=by
 intro ps us acc ua r;unfold KVR at r
 induction r generalizing acc ua with
 |nil=>intro q;exact q
 |@cons p q ps qs h t ih=>
   intro r0;refine ih ?_;show KVR K c H (D0 ua p.1 p.2) (Cu acc q.1 q.2);have:=KVR.put r0 p.1 h.2;rw[<-h.1];exact this
theorem Sw:A6 K Si BY:=λ{Oo c t σ H x y dx dy r t' Q} f rx ry eq k=>by
 unfold BY at eq
 split at eq
 .next n z=>
  cases ry
  cases rx with
  |@obj a kk hk=>
    split at eq
    .next kvs es=>
     clear 5(uc2.mp eq)d e1 e2
     cases e2
     clear 5(f.s.obs _ a _ hk es)us g1 g2;clear 5(g2.get _ e1)v e3 e4;exact⟨a,us,z,v,rfl,rfl,g1,e3,k _ H c f .refl e4⟩
    .cases eq
 .cases eq
end
section
variable{X:Cx}{pos:Pos}{e:Expr}
theorem Q6{o i:Expr}{f g:M D}(ho:PE X o (RE X.K f))(hi:PE X i (RE X.K g))
 (ha:∀v,assign (.Subscript o i pos) X.env v=(do
   let ov <-holding [v] (eval o X.env)
   let iv <-holding [v,ov] (eval i X.env)
   standAt pos
   holding [v,ov,iv] (setItem ov iv v)
   release [v,ov,iv] []):=by intro _;rfl):PG X (.Subscript o i pos) (RG X.K (Mm f g)):=
 HG (Np ho hi Xd ha) λv σ H Q z9=>by
  clear 5 z9 Oo c t d fi rv t' eq k;clear 5(Af eq)d0 t1 e1 eq;clear 5(Af eq)di t2 e2 eq;refine⟨Oo,c,t,fi,_,t1,e1,λx H1 c1 f1 s1 rx=>⟨Oo,c1,t1,f1,di,t2,e2,λy H2 c2 f2 s2 ry=>?_⟩⟩;unfold GX at eq
  split at eq
  .next n z dd=>
   cases ry
   cases rx with
   |@obj a kk hk=>
     split at eq
     .next kvs es=>
      split at eq
      .next hl=>
       cases eq
       have hk2:=s2.ext.io _ _ hk;clear 5(f2.s.obs _ a _ hk2 es)us g1 g2;refine⟨a,us,z,rfl,rfl,g1,by rw[g2.length];exact Nat.lt_trans hl XA,?_⟩;have rv2:=rv.mono (s1.trans s2).ext;obtain⟨f3,s3⟩:=f2.wrObj (o:=.dct (Cu kvs (.inr z) d)) (u:=.dK (D0 us (.inr z) v)) hk2 λc' H' ext hu=>⟨_,hu,(g2.put _ rv2).mono ext⟩;exact k σ _ c2 f3 ((s1.trans s2).trans s3)
      .cases eq
     .cases eq
  .cases eq
def RP(K:fc)(f:M (List (Key×D)))(σ:St)(H:Hp)(Q:List (V×V)->Hp->Prop):Prop:=
 ∃Oo c t,FInv K Oo c t σ H/\∃ps t',f t=some (ps,t')/\∀us H' c',FInv K Oo c' t' σ H'->Stp Oo c H c' H'->KVR K c' H' us ps->Q (us.map λkv=>(kV kv.1,kv.2)) H'
def PPf(X:Cx)(pos:Pos)(keys:List (Option Expr))(values:List Expr)(f:M (List (Key×D))):Prop:=
 ∃trs,PPs X pos keys values trs/\∀σ H Q,RP X.K f σ H Q->Kw trs σ H Q
theorem VH:PPf X pos [] [] (D5 []):=⟨[],WH,λσ H Q z9=>by
 clear 5 z9 Oo c t fi ps t' eq k
 cases eq
 exact k [] H c fi .refl .nil⟩
theorem TF{k:Str}{j:Nat}{kp:Pos}{v:Expr}{ks:List (Option Expr)}{vs:List Expr}{f:M D}{r:List (Str×M D)}(hv:PE X v (RE X.K f))(hr:PPf X pos ks vs (D5 r)) :
 PPf X pos (some (.Constant (.str k) j kp)::ks) (v::vs) (D5 ((k,f)::r)):=by
 clear 5 hr trs h1 h2;refine⟨_,Ui Sa hv h1,λσ H Q z9=>?_⟩;clear 5 z9 Oo c t fi ps t' eq kk;clear 5(Af eq)d t1 e1 eq;clear 5(Af eq)qs t2 e2 eq
 cases eq
 refine⟨Oo,c,t,fi,d,t1,e1,λy H1 c1 f1 s1 ry=>?_⟩;refine h2 σ H1 _ ⟨Oo,c1,t1,f1,qs,_,e2,λus H2 c2 f2 s2 ru=>?_⟩;exact kk ((.inr k,y)::us) H2 c2 f2 (s1.trans s2) (.cons ⟨rfl,ry.mono s2.ext⟩ ru)
theorem Vr{keys:List (Option Expr)}{values:List Expr}{l:List (Str×M D)}(h:PPf X pos keys values (D5 l))(hall:keys.all (·.isSome)=true:=by rfl)(hl:keys.length=values.length:=by rfl)(h0:keys≠[]:=by exact List.cons_ne_nil _ _)
 (h15:keys.length<=15:=by exact ud0 rfl):PE X (.Dict keys values pos) (RE X.K (Gh l)):=by
 clear 5 h trs h1 h2;refine AH (Wx h1 hall hl h0 h15) λσ H Q z9=>?_;clear 5 z9 Oo c t fi r t' eq k;intro p hp;obtain⟨c1,f1,s1,e1⟩:=fi.newObj (o:=.dct []) (u:=.dK []) hp λc' H' ex hu=>⟨[],hu,.nil⟩;clear 5(Af eq)ps t2 e2 eq;refine h2 σ _ _ ⟨Oo,c1,_,f1,ps,t2,e2,λus H2 c2 f2 s2 ru=>?_⟩;unfold IK at eq
 split at eq
 .next es=>
  split at eq
  .next hl15=>
   cases eq
   have hk2:=s2.ext.io _ _ e1;clear 5(f2.s.obs _ p _ hk2 es)u0 g1 g2
   cases g2
   refine⟨g1,us,rfl,by rw[ru.length];exact hl15,?_⟩;obtain⟨f3,s3⟩:=f2.wrObj (o:=.dct (Eo ps)) (u:=.dK (F6 [] us)) hk2 λc' H' ext hu=>⟨_,hu,(KVR.merge ru .nil).mono ext⟩;exact k _ _ c2 f3 (s1.trans (s2.trans s3)) (.obj hk2)
  .cases eq
 .cases eq
theorem MR(i:Nat){x:Str}{ix:Expr}{g:M D}{px:Pos}(hi:PE X ix (RE X.K g))(hs:KL ix)(hN:X.N[i]?=some x:=by rfl)(hv:Vis X.env.scope x:=by walk_at"h")(hd:(x==("__debug__":Str))=false:=by decide)
 (hcd:(x==("__classdict__":Str))=false:=by decide):PE X (.Subscript (.Name x px) ix pos) (RE X.K (D4 i g)):=
 AH (UY ix_list (GO hN hv hd hcd) hi hs) λσ H Q z9=>by
  clear 5 z9 Oo c t fi r t' eq k;unfold D4 at eq
  split at eq
  .next xs0 e0=>
   clear 5(Af eq)j t1 e1 eq;clear 5(fi.own i xs0 e0)a vs0 h1 h2 h3 h4 h5;refine⟨.ref a,h1,Oo,c,t,fi,j,t1,e1,λy H1 c1 f1 s1 ry=>?_⟩
   split at eq
   .next j' xs ex=>
    clear 5(uc2.mp eq)d en ez
    cases ez
    cases ry
    clear 5(f1.own i xs ex)a' vs g1 g2 g3 g4 g5;rw[h1] at g1;injection g1 with g1;injection g1 with g1;injection g1 with g1;subst g1
    clear 5(G5 g5 en)v e3 e4;exact⟨a,vs,j',v,rfl,rfl,SqL.of g4,e3,k _ H1 c1 f1 s1 e4⟩
   .cases eq
  .cases eq
end
section
variable{X:Cx}
end
section
variable{X:Cx}{pos:Pos}{e:Expr}{es:List Expr}
end
section
variable{prog:fk}{w:fq}{A:Around}{I:fh}{fp wr:List fh}{G:Array GenState->Array GenState->Prop}{n:Nat}{P:Nat->fg->Prop}{St:Nat->fj->Prop}
end
section
variable{X:Cx}
end
section
variable{X:Cx}{pos:Pos}{e:Expr}
end
noncomputable def Dj(f:M Bool)(b:M Out):Nat->M Out
 |0=>λ_=>none
 |n+1=>λt=>match f t with
   |none=>none
   |some (false,t1)=>some (.next,t1)
   |some (true,t1)=>match b t1 with
     |some (.next,t2)=>Dj f b n t2
     |some (.cont,t2)=>Dj f b n t2
     |some (.brk,t2)=>some (.next,t2)
     |some (.ret x,t2)=>some (.ret x,t2)
     |none=>none
def JN:Nat:=1000000
def KH(f:M Bool)(b:M Out):M Out:=Dj f b JN
theorem RS.while{μ:Cf->Hp->D->(V->Hp->Prop)->Prop}{K:fc}{f:M Bool}{b:M Out}{E:Ends}{σ:L2.St}{H:Hp}(q:RSg K μ (KH f b) E σ H):SE (RT K f) (RSg K μ b) E σ H:=by
 clear 5 q Oo c t fi o t' eq k;refine⟨λm σ' H'=>∃c' t2,FInv K Oo c' t2 σ' H'/\Stp Oo c H c' H'/\Dj f b m t2=some (o,t'),⟨JN,c,t,fi,.refl,eq⟩,?_⟩;rintro m σ' H' ⟨c',t2,f2,s2,e2⟩
 cases m with
 |zero=>cases e2
 |succ m=>
 rw[Dj] at e2;dsimp only at e2
 cases ef:f t2 with
 |none=>rw[ef] at e2;cases e2
 |some p=>
 clear 5 p r t3;rw[ef] at e2;refine⟨Oo,c',t2,f2,r,t3,ef,λH3 c3 f3 s3=>?_⟩
 cases r with
 |false=>
   cases e2
   exact k σ' H3 c3 f3 (s2.trans s3)
 |true=>
   rw[hX rfl];dsimp only at e2;refine⟨λσ4 H4=>∃c4 t4,FInv K Oo c4 t4 σ4 H4/\Stp Oo c H c4 H4/\Dj f b m t4=some (o,t'),λσ4 H4 h=>⟨m,uh2 m,h⟩,?_⟩
   cases eb:b t3 with
   |none=>rw[eb] at e2;cases e2
   |some p=>
   clear 5 p ob t4;rw[eb] at e2;refine⟨Oo,c3,t3,f3,ob,t4,eb,λσ4 H4 c4 f4 s4=>?_⟩
   cases ob with
   |next=>exact⟨c4,t4,f4,(s2.trans s3).trans s4,e2⟩
   |cont=>exact⟨c4,t4,f4,(s2.trans s3).trans s4,e2⟩
   |brk=>
     cases e2
     exact k σ4 H4 c4 f4 ((s2.trans s3).trans s4)
   |ret x=>
     cases e2
     exact k σ4 H4 c4 f4 ((s2.trans s3).trans s4)
section
variable{X:Cx}{pos:Pos}
theorem TJ{μ:Cf->Hp->D->(V->Hp->Prop)->Prop}{e:Expr}{body:List Stmt}{f:M Bool}{b:M Out}(hp:PassesOwn (model X.prog X.w) X.A X.env X.xe)(hc:PT X e (RT X.K f))(hb:PSs X body (RSg X.K μ b)):PS X (.While e body [] pos) (RSg X.K μ (KH f b)):=
 AU (Uk hp hc hb) λ_ _ _ q=>RS.while q
end
section
variable{X:Cx}{tg:Expr}
end
section
variable{X:Cx}{pos:Pos}{e:Expr}{es:List Expr}
end
noncomputable def EZ(H:Hp)(a:fh):Hp:=λb=>if b=a then none else H b
theorem Ua{H:Hp}{a:fh}{o:HO}(h:H a=some o):upd (EZ H a) a o=H:=by
 funext b
 by_cases e:b=a
 .subst e;rw[AL];exact h.symm
 .rw[Av e];unfold EZ;rw[ia e]
section
variable{K:fc}{Oo:fh->Prop}{c:Cf}{t:T}{σ:L2.St}{H:Hp}
theorem FInv.out(f:FInv K Oo c t σ H){i:Nat}{ds:List D}(e:t.env[i]?=some (some (.own ds))){a:fh}(ha:σ[i]?=some (some (.ref a))) :
 FInv K Oo ⟨c.ι,λb=>c.O b/\b≠a⟩ {t with env:=t.env.set i none} σ (EZ H a)/\Stp Oo c H ⟨c.ι,λb=>c.O b/\b≠a⟩ (EZ H a):=by
 clear 5(f.own i ds e)a' vs g1 g2 g3 g4 g5;rw[ha] at g1;injection g1 with g1;injection g1 with g1;injection g1 with g1;subst g1
 have ni:a∉c.ι:=f.s.dis a g2;have ext:Ext c H ⟨c.ι,λb=>c.O b/\b≠a⟩ (EZ H a):=by
  refine⟨λb o hb hn=>?_,λb o hb z=>?_,λk b h=>h⟩
  .unfold EZ;rw[ia λz=>hn (by rw[z];exact .inr g2)];exact hb
  .rcases z with z|z
   .exact .inl z
   .exact .inr z.1
 have stp:Stp Oo c H ⟨c.ι,λb=>c.O b/\b≠a⟩ (EZ H a):=⟨ext,λb hb=>by unfold EZ;rw[ia λz=>g3 (by rw[<-z];exact hb)]⟩;have old:∀{j:Nat}{x:Sl},(t.env.set i none)[j]?=some (some x)->j≠i/\t.env[j]?=some (some x):=λ{j x} q=>by
  by_cases h:j=i
  .subst h;rw[ug5] at q
   split at q
   .split at q<;>simp at q
   .contradiction
  .exact⟨h,by rw[ud7 (Ne.symm h)] at q;exact q⟩
 refine⟨⟨⟨f.s.len,f.s.nd,λk b o e1 e2=>?_,λb hb=>?_,λb hb=>f.s.dis b hb.1⟩,by simpa using f.len,λb hb=>⟨f.sub b hb,λz=>g3 (by rw[<-z];exact hb)⟩,λj d q=>?_,λj es q=>?_,λj k es fs b q1 q2 q3 q4=>?_⟩,stp⟩
 .refine(f.s.obs k b o e1 e2).mono ext ?_;unfold EZ;rw[ia λz=>ni (by rw[<-z];exact ud8 e1)]
 .clear 5(f.s.trk b hb.1)o ho;exact⟨o,by unfold EZ;rw[ia hb.2];exact ho⟩
 .clear 5(f.val j d (old q).2)v h1 h2;exact⟨v,h1,h2.mono ext⟩
 .clear 5(old q)nj q';clear 5(f.own j es q')b us k1 k2 k3 k4 k5;have nb:b≠a:=λz=>nj (f.inj j i es ds a q' e (by rw[k1,z]) ha);exact⟨b,us,k1,⟨k2,nb⟩,k3,by unfold EZ;rw[ia nb];exact k4,k5.mono ext⟩
 .exact f.inj j k es fs b (old q1).2 (old q2).2 q3 q4
end
noncomputable def GR(i:Nat):M Out:=λt=>match t.env[i]? with
 |some (some (.own xs))=>some (.ret (.lst xs),{t with env:=t.env.set i none})
 |_=>none
def Hu(f:M (List D)):M Out:=bnd f λds=>ret (.ret (.lst ds))
section
variable{g:Fn}{fa:fh}{fd:ft}
section
variable{X:Cx}{pos:Pos}{e:Expr}{es:List Expr}
theorem Oz{f:M (List D)}(h:PE X e (RF X.K f)):PS X (.Return (some e) pos) (RSg X.K (μF X.K) (Hu f)):=
 AU (Iu h) λE σ H z9=>by
  clear 5 z9 Oo c t fi o t' eq k;clear 5(Af eq)ds t1 e1 eq
  cases eq
  exact⟨Oo,c,t,fi,ds,_,e1,λp us H1 c1 f1 s1 ru hp=>k σ H1 c1 f1 s1 p us hp ru⟩
theorem Rf(i:Nat){x:Str}{px:Pos}(hN:X.N[i]?=some x:=by rfl)(hv:Vis X.env.scope x:=by walk_at"h")(hd:(x==("__debug__":Str))=false:=by decide)
 (hcd:(x==("__classdict__":Str))=false:=by decide):PS X (.Return (some (.Name x px)) pos) (RSg X.K (μF X.K) (GR i)):=
 AU (Iu (GO hN hv hd hcd)) λE σ H z9=>by
  clear 5 z9 Oo c t fi o t' eq k;unfold GR at eq
  split at eq
  .next xs ex=>
   cases eq
   clear 5(fi.own i xs ex)a vs h1 h2 h3 h4 h5;refine⟨.ref a,h1,?_⟩;clear 5(fi.out ex h1)f2 s2;have:=k σ (EZ H a) _ f2 s2 a vs (by unfold EZ;rw[hX rfl]) (h5.mono s2.ext);rw[Ua h4] at this;exact this
  .cases eq
inductive spFF(K:fc)(f:Fn)(vs:List V)(H:Hp)(Q:VK)(E:XK):Prop where
 |mk (c:Cf) (ds:List D) (S:List Ob) (si:SInv K c S H) (rp:Reps K c H vs ds) (rs:List D) (S':List Ob) (e:f ds S=some (.lst rs,S')) (k:∀p us H' c',SInv K c' S' H'->Stp c.O c H c' H'->(∀b,c'.O b↔c.O b)->Reps K c' H' us rs->H' p=none->Q (.ref p) (upd H' p (.lst us))):spFF K f vs H Q E
def D3(g:Fn)(f:M (List D)):M (List D):=bnd f λds t=>match g ds t.S with
 |some (.lst rs,S')=>some (rs,{t with S:=S'})
 |_=>none
theorem PD{ds:List D}{t:T}{rs:List D}{t':T}(h:(match g ds t.S with|some (.lst rs,S')=>some (rs,{t with S:=S'})|_=>none:Option (List D×T))=some (rs,t')):∃S',g ds t.S=some (.lst rs,S')/\t' = {t with S:=S'}:=by
 split at h
 .next rs' S' e=>cases h;exact⟨S',e,rfl⟩
 .cases h
theorem Ty{k:Nat}{ps:List Str}{f:M (List D)}{x:Str}{p:Pos}(F:FnOk X.prog X.w X.K X.mg X.base CX0 k fa fd ps (spFF X.K g))(hr:Room k X.A)(hg:Gl X x)(hm:X.mg x=some (.ref fa))(hk:PySem.W.keepIn X.K (.ref fa)=true)(hb:Binds X.K fd ps [])
 (ha:PA X (e::es) (RA X.K f)) (hdb:(x==("__debug__":Str))=false:=by decide) (h1:AY e=false:=by rfl) (h2:A4 es=true:=by rfl) :
 PE X (.Call (.Name x p) (e::es) [] pos) (RF X.K (D3 g f)):=
 AH (OQ F hr hg hm hk hb .nil Mh ha hdb (A5 h1) (AW h2).1) λσ H Q z9=>by
  clear 5 z9 Oo c t fi rs t' eq kk;clear 5(Af eq)ds t1 e1 eq;clear 5(PD eq)S' e2 rfl;refine⟨Oo,c,t,fi,ds,t1,e1,λvs H1 c1 f1 s1 rvs=>?_⟩;show spFF X.K g (vs++[]) H1 Q E0;rw[uj0];refine⟨c1,ds,t1.S,f1.s,rvs,rs,S',e2,λp us H' c' si st ho ru hp=>?_⟩;clear 5(f1.after si st ho)f2 s2;exact kk p us H' c' f2 (s1.trans s2) ru hp
end
theorem VC{P:fk}{w:fq}{K:fc}{mg:Str->Option fg}{base:Heap}{x qual:Str}{st:Stmt}{N ps:List Str}{k n m:Nat}{g:M Out}(e1:ps.length=n)(e2:N.length=m)(F:Fun K x qual st fa fd)(S:FnScope N ps (AF st))
 (hb:∀(cdv:fg) (A:Around) (outer:List Env) (s:fj) (H:Hp) (E:XK),Room k (A.deeper (PyProof.Rows.envOfC qual (AF st) s.heap.objs.size fa cdv))->
   PSs (EM CX0 P w K mg base N qual (AF st) fa cdv A outer s H E).nox (CN st) (RSg K (μF K) g)):FnOk P w K mg base CX0 (k+1) fa fd ps (spFF K (fnOf n m g)):=by
 subst e1 e2;have hlen:∀{ds:List D}{S:List Ob}{z:D×List Ob},fnOf ps.length N.length g ds S=some z->ds.length=ps.length:=λ{ds S z} h=>by
  unfold fnOf at h
  split at h
  .next h1=>exact h1
  .cases h
 refine F.ok S (λvs H Q E h=>?_) (λcdv A outer s H vs Q E hr h=>?_)
 .obtain⟨c,ds,S,si,rs,r,S',e,_⟩:=h;rw[rs.length];exact hlen e
 clear 5 h c ds S0 si rs r S' e kk;refine⟨RSg K (μF K) g,hb cdv A outer s H E hr,?_⟩;have hl:=hlen e;unfold fnOf at e;rw[hX hl] at e
 cases eg:g ⟨env0 N.length ds,S0⟩ with
 |none=>rw[eg] at e;cases e
 |some p=>
   clear 5 p o t;rw[eg] at e;refine⟨c.O,c,_,Hi si rs,o,t,eg,λσ' H' c' f' s'=>?_⟩;clear 5 f'.leave si' ext';have st':Stp c.O c H ⟨c'.ι,c.O⟩ H':=⟨s'.ext.trans ext',s'.oo⟩
   cases o with
   |next=>cases e
   |ret d=>
     cases e
     exact λp us hp ru=>kk p us H' _ si' st' (λ_=>hV) (ru.mono ext') hp
   |brk=>cases e
   |cont=>cases e
theorem WV{P:fk}{w:fq}{K:fc}{mg:Str->Option fg}{base:Heap}{ps:List Str}{k:Nat}{f:Fn}(e:f=g)(h:FnOk P w K mg base CX0 k fa fd ps (spFF K g)):FnOk P w K mg base CX0 k fa fd ps (spFF K f):=by rw[e];exact h
end
section
variable{X:Cx}
theorem Wu{o:Expr}{to:TE}{apos cpos:Pos}(ho:PE X o to)(hbase:attributeBase o "bit_length" X.env (eval o X.env)=eval o X.env:=by rfl)(hline:(apos.endLine==cpos.line)=true:=by rfl) :
 PE X (.Call (.Attribute o "bit_length" apos) [] [] cpos) (λσ H Q=>to σ H λv H1=>∃i,v=.int i/\Q (.int (Builtin.Int.intBits i:Nat)) H1):=by
 intro ff s σ H Q I h;refine Call_method0 hbase hline (thn (ho ff s σ H _ I h) λu s1 z9=>?_);clear 5 z9 v H1 I1 rv i ex q;subst ex;clear 5 rv t rfl;exact⟨"int", "int.bit_length",PySem.F.plainAttrs_int,ua3,PySem.F.type_int_bit_length,gW _ _ _,(λ_ e=>nomatch e),
  method0_gives ua3 PySem.F.entry_int_bit_length (gW _ _ _) (PySem.F.args_int_bit_length_1 _) (PySem.AutoIntG2.int_bit_length_int_0 i t) ⟨.int (Builtin.Int.intBits i:Nat),H1,I1.tok _,⟨_,rfl⟩,q⟩⟩
end
def JS:D->M D
 |.int i=>ret (.int (Builtin.Int.intBits i:Nat))
 |_=>fail
section
variable{X:Cx}{pos:Pos}{e:Expr}{es:List Expr}
theorem Q1{o:Expr}{f:M D}{apos cpos:Pos}(ho:PE X o (RE X.K f))(hbase:attributeBase o "bit_length" X.env (eval o X.env)=eval o X.env:=by rfl)(hline:(apos.endLine==cpos.line)=true:=by rfl) :
 PE X (.Call (.Attribute o "bit_length" apos) [] [] cpos) (RE X.K (fUn f JS)):=
 AH (Wu ho hbase hline) λσ H Q z9=>by
  clear 5 z9 Oo c t fi r t' eq k;clear 5(Af eq)d t1 e1 eq;refine⟨Oo,c,t,fi,d,t1,e1,λx H1 c1 f1 s1 rx=>?_⟩;unfold JS at eq
  split at eq
  .next i=>
   cases eq
   cases rx
   exact⟨i,rfl,k _ H1 c1 f1 s1 (.int _)⟩
  .cases eq
end
section
variable{X:Cx}{b elt:Expr}{pos:Pos}
end
theorem Inv.turnedL{X:Cx}{ff:List (fh×Obj)}{σ:St}{H:Hp}{s:fj}{h':Heap}{t':Nat}(fp:List fh)(I:Inv X ff σ H s)(hf:∀b∈fp,FpOk X ff H b)(k:∀b o,b∉fp->s.heap.get? b=some o->h'.get? b=some o):Inv X ff σ H {s with heap:=h',toks:=t'}:=by
 have nit:∀b u,H b=some u->b∉fp:=λb u e z=>by rw[(hf b z).1] at e;cases e
 refine I.step (g':=s.gens) (d':=s.drawn) (ch:=fp) (λb hb=>?_) (λb o _ _ hc e _=>k b o hc e) (λb o _ _ hc e _=>⟨o.slots,k b o hc e⟩) (λ_ _ _ _ n=>n)
  (λb o hc e=>⟨o,k b o hc e⟩) (λ_ _ e=>e) (λ_ _ _ e=>e) (λb ps e=>⟨#[],by rw[e];simp⟩) (λm hm=>?_) (λb u e=>?_) I.bare
 .obtain⟨_,h1,_,h3,h4,h5⟩:=hf b hb;exact⟨h3,h1,h4,h5⟩
 .clear 5 hm o es ep ho r;exact⟨o,es,ep,k _ o (λz=>(hf _ z).2.1 rfl) ho,r⟩
 .refine(I.hok b u e).stay (λc v hc q=>k c v ?_ q) (λ_ q=>q) λ_ _ q=>q;rcases hc with z|z
  .rw[z];exact nit b u e
  .exact nit c _ z
noncomputable def Ite(K:fc)(a:fh):It:=
 ⟨λi H=>∃xs x,SqL K H a xs/\xs[i]?=some x,λi H x H'=>∃p v,x=.ref p/\H p=none/\(∀xs,SqL K H a xs->xs[i]?=some v)/\H'=upd H p (.tup [.int i,v]),λi H=>∃xs,SqL K H a xs/\xs.length<=i⟩
theorem SH{P:fk}{w:fq}{K:fc}{elts:List Expr}{n:Nat}{pos:Pos}(a e it:fh)(hne:e≠it):Turn P w K (.Tuple elts n pos) (Ite K a) [e,it] e (λi h=>(∃old,IsEnum h e it i old)/\h.IsListIter it a i) where
 mem:=by simp
 obj:=λi h st b hb=>by
  obtain⟨⟨old,h1⟩,o,e1,c,d⟩:=st;simp only[ul2,ui0,hJ] at hb;rcases hb with rfl|rfl
  .exact⟨_,h1,λv z=>by have z':Data.fields _=Data.cell v:=z;cases z'⟩
  .exact⟨o,e1,λv z=>by rw[d] at z;cases z⟩
 keep:=λi h h' st k=>⟨by obtain⟨⟨old,h1⟩,_⟩:=st;exact⟨old,k e (by simp) _ h1⟩,st.2.at λo e=>k it (by simp) o e⟩
 item:=by
  intro X hP hw hK hc i ff s σ H E I hf st hg;subst hP hw hK;clear 5 hg xs x hq hx;clear 5(I.list hq)its rv p hz;clear 5(rv.get hx)u hu ru;obtain⟨⟨old,st1⟩,st2⟩:=st;refine wpAny_pyNext_enum_item st1 st2 p.isList (x:=u) (by simpa using hu) hne λh' so st2' hT hsz kk=>?_;refine⟨_,rfl,?_⟩;refine wpAny_letOwnedTupleGo_enum so λh2 st1' sb=>?_;have fe:=hf e (by simp);have fi:=hf it (by simp);have le:e<s.heap.objs.size:=um3 st1;have li:it<s.heap.objs.size:=by obtain⟨o,e1,_,_⟩:=st2;exact um3 e1
  have hfr:H s.heap.objs.size=none:=I.hok.fresh (un6 _);have h2T:h2.get? s.heap.objs.size=some {cls:=.type "tuple",data:=.seq #[.int (i:Nat) s.toks,u]}:=(sb.2 _ (um6 le)).trans hT;have I1:Inv X ff σ (upd H s.heap.objs.size (.tup [.int (i:Nat),x])) {s with heap:=s.heap.push {cls:=.type "tuple",data:=.seq #[.int (i:Nat) s.toks,u]},toks:=s.toks}:=
   I.laid (t':=s.toks) (λb u e=>uc0 _ e) (un6 _) ⟨by show 2<=sizeLine;decide,[.int (i:Nat) s.toks,u],.cons ⟨_,rfl⟩ (.cons ru .nil),⟨_,ue3 _ rfl,rfl,_,rfl⟩⟩
  have hup:∀b,b≠s.heap.objs.size->upd H s.heap.objs.size (.tup [.int (i:Nat),x]) b=H b:=λb hb=>Av hb;have fp':∀b∈[e,it],FpOk X ff (upd H s.heap.objs.size (.tup [.int (i:Nat),x])) b:=λb hb=>by
   clear 5(hf b hb)g0 g1;refine⟨?_,g1⟩;rw[hup b ?_];exact g0;simp only[ul2,ui0,hJ] at hb;rcases hb with rfl|rfl
   .exact um4 le
   .exact um4 li
  refine⟨.ref s.heap.objs.size,upd H s.heap.objs.size (.tup [.int (i:Nat),x]),?_,rfl,⟨_,x,rfl,hfr,λys hy=>by rw[I.list_inj hy hq];exact hx,rfl⟩,⟨⟨_,by simpa using st1'⟩,?_⟩,λb hb=>(fp' b hb).1⟩
  .have I2:=Inv.turnedL (h':=h2) (t':=s.toks + 1) [e,it] I1 fp' λb o hb eb=>(by
    simp only[ul2,ui0,hJ,not_or] at hb;rcases Heap.get?_push_cases eb with⟨rfl,rfl⟩|eb'
    .exact h2T
    .exact(sb.2 b hb.1).trans (kk b o hb.1 hb.2 eb'))
   exact I2
  .exact st2'.at λo e1=>(sb.2 it (Ne.symm hne)).trans e1
 done:=by
  intro X hP hw hK hc i ff s σ H E I hf st hg;subst hP hw hK;clear 5 hg xs hq hx;clear 5(I.list hq)its rv p hz;obtain⟨⟨old,st1⟩,st2⟩:=st;have hl:=rv.length;refine wpAny_pyNext_enum_end (I.ok.hd hc) st1 st2 p.isList (by simp;lia) λh' eb=>⟨rfl,?_⟩;exact Inv.turnedL [e,it] (t':=s.toks) I hf λb o hb e1=>eb b o (λz=>hb (by simp[z])) e1
 self:=λ_ _ _ _ _ st h=>by obtain⟨⟨old,h1⟩,_⟩:=st;exact wpAny_pyIter_enum h1 h
def ae(K:fc)(ta:TA):TI:=λσ H R=>ta σ H λvs H1=>∃a xs,vs=[.ref a]/\SqL K H1 a xs/\R (Ite K a) H1
theorem OS{X:Cx}{e:Expr}{ta:TA}{elts:List Expr}{n:Nat}{tpos p pos:Pos}(hg:Gl X "enumerate")(hm:X.mg "enumerate" = none)(ha:PA X [e] ta)(hs:starEach [e] X.env=[(false,eval e X.env)]:=by rfl) :
 PI X (.Tuple elts n tpos) (.Call (.Name "enumerate" p) [e] [] pos) (ae X.K ta):=by
 intro ff s σ H R I h;refine Call_ (GL I hg hm boot_enumerate (ua2 (thn (ha pos ff s σ H _ I h) λus s1 z9=>?_) hs rfl));clear 5 z9 vs H1 I1 r1 q1;clear 5 q1 a xs ev hq q;subst ev
 cases r1 with
 |cons r rr=>
   cases rr
   cases r
   clear 5(I1.list hq)its rv pl hz;refine call_enumerate_list pl.isList λh' e1 e2 e3 kk=>?_;refine wpAny_pyIter_enum e1 ?_;have hfp:∀b∈[s1.heap.objs.size+1,s1.heap.objs.size],FpOk X ff H1 b:=λb hb=>by
    have hb':s1.heap.objs.size<=b:=by
     simp only[ul2,ui0,hJ] at hb;lia
    exact I1.fpOk hb' (I1.hok.fresh hb')
   exact⟨s1.heap.objs.size+1,[s1.heap.objs.size+1,s1.heap.objs.size],_,_,H1,rfl,I1.kept (t':=s1.toks) kk,SH a (s1.heap.objs.size+1) s1.heap.objs.size (Nat.succ_ne_self _),⟨⟨_,e1⟩,e2⟩,hfp,q⟩
structure ItOk2(K:fc)(J:It)(c:Cf)(H:Hp)(ds:List D):Prop where
 go:∀c' H' (i:Nat),Ext c H c' H'->i<ds.length->J.go i H'
 yld:∀c' H' (i:Nat) x H'' d,Ext c H c' H'->ds[i]?=some d->J.yld i H' x H''->∃p vs es,x=.ref p/\H' p=none/\H''=upd H' p (.tup vs)/\d=.tup es/\Reps K c' H' vs es
 stop:∀c' H',Ext c H c' H'->J.stop ds.length H'
inductive RI2(K:fc)(f:M (List D))(σ:L2.St)(H:Hp)(R:It->Hp->Prop):Prop where
 |mk (Oo:fh->Prop) (c:Cf) (t:T) (fi:FInv K Oo c t σ H) (ds:List D) (t':T) (e:f t=some (ds,t')) (k:∀J H' c',FInv K Oo c' t' σ H'->Stp Oo c H c' H'->ItOk2 K J c' H' ds->R J H'):RI2 K f σ H R
noncomputable def BG:Nat->List D->List D
 |_,[]=>[]
 |i,d::r=>.tup [.int (i:Nat),d]::BG (i+1) r
theorem Fe:∀(ds:List D) (i:Nat),(BG i ds).length=ds.length
 |[],_=>rfl
 |d::r,i=>by rw[BG,uh1,uh1,Fe r]
theorem HS:∀(ds:List D) (i j:Nat),(BG i ds)[j]?=(ds[j]?).map λd=>.tup [.int ((i+j:Nat):Int),d]
 |[],_,_=>by simp[BG]
 |d::r,i,0=>rfl
 |d::r,i,j+1=>by
   rw[BG,ub5,ub5,HS r (i+1) j]
   congr 1
   funext d
   rw[show i+1+j=i+(j+1) by lia]
def US:List D->M (List D)
 |[.lst ds]=>ret (BG 0 ds)
 |_=>fail
def IP(f:M (List D)):M (List D):=bnd f US
theorem ItOk2.enum{K:fc}{c:Cf}{H:Hp}{p:fh}{ds:List D}(r:∀c' H',Ext c H c' H'->∃vs,SqL K H' p vs/\Reps K c' H' vs ds):ItOk2 K (Ite K p) c H (BG 0 ds):=by
 refine⟨λc' H' i ex hi=>?_,λc' H' i x H'' d ex hd hy=>?_,λc' H' ex=>?_⟩
 .clear 5(r c' H' ex)vs h1 h2;rw[Fe] at hi;obtain⟨v,e,_⟩:=h2.at (ub2 hi);exact⟨vs,v,h1,e⟩
 .clear 5(r c' H' ex)vs h1 h2;clear 5 hy q v rfl hq hs rfl;have hv:=hs vs h1;rw[HS] at hd;clear 5(uc2.mp hd)d' e1 rfl;clear 5(h2.at e1)v' e2 rv;rw[hv] at e2
  cases e2
  rw[um9];exact⟨q,_,_,rfl,hq,rfl,rfl,.cons (.int _) (.cons rv .nil)⟩
 .clear 5(r c' H' ex)vs h1 h2;exact⟨vs,h1,by rw[Fe,h2.length];exact un6 _⟩
section
variable{X:Cx}{pos:Pos}{e:Expr}
theorem Vx{f:M (List D)}{elts:List Expr}{n:Nat}{tpos p:Pos}(hg:Gl X "enumerate")(hm:X.mg "enumerate" = none)(ha:PA X [e] (RA X.K f))(h1:AY e=false:=by rfl):PI X (.Tuple elts n tpos) (.Call (.Name "enumerate" p) [e] [] pos) (RI2 X.K (IP f)):=
 GD (OS hg hm ha (A5 h1)) λσ H R z9=>by
  clear 5 z9 Oo c t fi ds t' eq k;clear 5(Af eq)xs t1 e1 eq;refine⟨Oo,c,t,fi,xs,t1,e1,λvs H1 c1 f1 s1 rv=>?_⟩;unfold US at eq
  split at eq
  .next es=>
   cases eq
   cases rv with
   |cons r rs=>
     cases rs
     cases r with
     |@lst a ws _ g1 g2 g3=>exact⟨a,ws,rfl,SqL.of g1,k _ H1 c1 f1 s1 (ItOk2.enum λc' H' ex=>⟨ws,SqL.of (ex.keep _ _ g1 g2),g3.mono ex⟩)⟩
  .cases eq
end
section
variable{X:Cx}
end
section
variable{X:Cx}{pos:Pos}{e:Expr}{es:List Expr}
end
section
variable{X:Cx}{e ek:Expr}{p2 pos:Pos}{te:TE}{tk:TO}
end
section
variable{X:Cx}
end
section
variable{X:Cx}
end
section
variable{X:Cx}{pos:Pos}
end
section
variable{X:Cx}
end
section
variable{X:Cx}
end
section
variable{X:Cx}
end
section
variable{X:Cx}
end
section
variable{X:Cx}{pos:Pos}{e:Expr}{es:List Expr}
end
section
variable{X:Cx}
end
def Ot:List (Int×M D)->M (List (Key×D))
 |[]=>ret []
 |(k,f)::r=>bnd f λd=>bnd (Ot r) λps=>ret ((.inl k,d)::ps)
def dS(l:List (Int×M D)):M D:=λt=>bnd (Ot l) (IK t.S.length) {t with S:=t.S++[.dct []]}
noncomputable def P4:List (Key×D)->Option (List Int)
 |[]=>some []
 |(.inl k,_)::r=>(P4 r).map (k :: ·)
 |_=>none
section
variable{K:fc}{c:Cf}{H:Hp}
end
section
variable{X:Cx}{pos:Pos}{e b:Expr}
end
noncomputable def tb(led:Bool)(pl:List Nat):SetTable:={mask:=7,place:=pl.toArray,dummies:=#[],finger:=0,led:=led,moves:=0,plain:=true}
noncomputable def pls:Nat->List (List Nat)
 |0=>[[]]
 |k+1=>(pls k).flatMap λl=>(List.range 8).filterMap λj=>if l.all (· < j) then some (l++[j]) else none
section
variable{P:fk}{w:fq}{A:Around}{E:fg->fj->Prop}{s:fj}
end
section
variable{P:fk}{w:fq}{A:Around}{I:fh}{fp wr:List fh}{G:Array GenState->Array GenState->Prop}{n:Nat}{Pr:Nat->fg->Prop}{St:Nat->fj->Prop}
end
section
variable{P:fk}{w:fq}{A:Around}{E:fg->fj->Prop}{s:fj}
end
section
variable{prog:fk}{w:fq}{A:Around}
end
section
variable{X:Cx}
end
section
variable{X:Cx}{pos:Pos}{e:Expr}
end
section
variable{P:fk}{w:fq}{A:Around}{E:fg->fj->Prop}{s:fj}
structure ZT(h:Heap)(z TI TO i1 i2 t1 t2:fh)(n:Nat):Prop where
 zz:IsZip h z TI TO .none
 ti:IsPair h TI (.ref i1) (.ref i2)
 ot:∃a b,IsPair h TO a b
 p1:h.IsTupleIter i1 t1 n
 p2:h.IsTupleIter i2 t2 n
end
section
variable{P:fk}{w:fq}{A:Around}{E:fg->fj->Prop}{s:fj}
end
noncomputable def Itz(K:fc)(a b:fh):It:=
 ⟨λi H=>∃xs ys x y,SqT K H a xs/\SqT K H b ys/\xs[i]?=some x/\ys[i]?=some y,λi H v H'=>∃p x y,v=.ref p/\H p=none/\(∀xs,SqT K H a xs->xs[i]?=some x)/\(∀ys,SqT K H b ys->ys[i]?=some y)/\H'=upd H p (.tup [x,y]),λi H=>∃xs ys,SqT K H a xs/\SqT K H b ys/\(xs.length<=i\/ys.length<=i)⟩
noncomputable def dI:List D->List D->List D
 |x::xs,y::ys=>.tup [x,y]::dI xs ys
 |_,_=>[]
theorem RF.comp2{K:fc}{n:Nat}{fr:List Nat}{f:M (List D)}{st:D->M Unit}{tst:M Bool}{elt:M D}{σ:L2.St}{H:Hp}{Q:VK}(q:RF K (AS n fr f st tst elt) σ H Q):Kv (RI2 K f) (RG K st) (RT K tst) (RE K elt) (Dw n fr) σ H Q:=by
 clear 5 q Oo c t fi xs t' eq k;clear 5(Af eq)ds t1 e1 eq;refine⟨Oo,c,t,fi,ds,t1,e1,λJ H1 c1 f1 s1 it=>?_⟩
 cases e3:Bl st tst elt ds ⟨cenv n fr t1.env,t1.S⟩ with
 |none=>rw[e3] at eq;cases eq
 |some p=>
   clear 5 p ys t3;rw[e3] at eq;dsimp only at eq
   split at eq
   case isFalse=>cases eq
   next hl=>
   cases eq
   refine⟨λi m acc σ' H'=>m=ds.length-i/\i<=ds.length/\∃c' t2 zs rest,FInv K c1.O c' t2 σ' H'/\Stp c1.O c1 H1 c' H'/\Reps K c' H' acc zs/\Bl st tst elt (ds.drop i) t2=some (rest,t3)/\xs=zs++rest,
    ⟨_,rfl,un7 _,c1,_,[],xs,Hh f1,.refl,.nil,by rw[uk8];exact e3,rfl⟩,?_⟩
   rintro i m acc σ' H' ⟨rfl,hi,c',t2,zs,rest,f2,s2,ra,e2,ez⟩;have hacc:acc.length<=sizeLine:=by
    have:zs.length<=xs.length:=by rw[ez,uf3];exact uh8 _ _
    rw[ra.length];exact um5 this (um5 hl B6)
   refine⟨hacc,?_⟩
   by_cases hlt:i<ds.length
   .refine .inr ⟨it.go c' H' i s2.ext hlt,λx H'' hy=>?_⟩;clear 5(it.yld c' H' i x H'' _ s2.ext (ub2 hlt) hy)p vs es rfl hp rfl ed rx;rw[ua9 hlt,ed] at e2;unfold Bl at e2;clear 5(Af e2)u t4 e4 e2;clear 5(Af e2)kb t5 e5 e2;have sL:=f2.stp_laid (o:=.tup vs) hp;have s2':=s2.trans sL;have ra':=ra.mono sL.ext;refine⟨c1.O,c',t2,_,f2.laid hp,.tup AL (f2.s.free hp) (rx.mono (Ext.laid f2.s hp)),t4,e4,λσ3 H3 c3 f3 s3=>⟨c1.O,c3,t4,f3,kb,t5,e5,λH4 c4 f4 s4=>?_⟩⟩
    cases kb with
    |false=>
      rw[ia uf1] at e2⊢;exact⟨ds.length-(i+1),by lia,rfl,hlt,c4,t5,zs,rest,f4,(s2'.trans s3).trans s4,ra'.mono (s3.trans s4).ext,e2,ez⟩
    |true=>
      rw[hX rfl] at e2⊢;clear 5(Af e2)x6 t6 e6 e2;clear 5(Af e2)r7 t7 e7 e2
      cases e2
      refine⟨c1.O,c4,t5,f4,x6,t6,e6,λv H5 c5 f5 s5 rv=>?_⟩;exact⟨ds.length-(i+1),by lia,rfl,hlt,c5,t6,zs++[x6],r7,f5,((s2'.trans s3).trans s4).trans s5,(ra'.mono ((s3.trans s4).trans s5).ext).append (.cons rv .nil),e7,by rw[ez,ug3];rfl⟩
   .have hi':i=ds.length:=by lia
    subst hi';rw[uh7] at e2
    cases e2
    refine .inl ⟨it.stop c' H' s2.ext,λp hp _=>?_⟩;clear 5 f2.leave si ext;clear 5(f1.after si ⟨s2.ext.trans ext,s2.oo⟩ (λ_=>hV))f6 s6;rw[uj0] at ez;subst ez;exact k p acc H' _ f6 (s1.trans s6) (ra.mono ext) hp
section
variable{X:Cx}{e a b tg iter elt:Expr}{ifs:List Expr}{pos:Pos}{scope:Scope}{N':List Str}{n:Nat}{fr:List Nat}{f:M (List D)}{st:D->M Unit}{tst:M Bool}{el:M D}
theorem MT(O:CmpOk X scope N' (Dw n fr))(hc:X.calm=true)(hi:PI X tg iter (RI2 X.K f))
 (hg:∀cl C s2 H2 fp,PG (A0 X N' scope cl C s2 H2 fp) tg (RG X.K st)) (ht:∀cl C s2 H2 fp,PIf (A0 X N' scope cl C s2 H2 fp) ifs (RT X.K tst)) (he:∀cl C s2 H2 fp,PE (A0 X N' scope cl C s2 H2 fp) elt (RE X.K el))
 (hs:∀x,foldedSetIterable iter X.env x=pure x:=by intro _;rfl):PE X (.ListComp elt [⟨tg,iter,ifs,0⟩] scope pos) (RF X.K (AS n fr f st tst el)):=
 AH (Lb O hc hi hg ht he hs) λ_ _ _ q=>RF.comp2 q
end
def eG:List D->M D
 |[.obj k,.ty m]=>λt=>match t.S[k]? with
   |some (.lst _)=>(FY "list" m).map λb=>(.bl b,t)
   |_=>none
 |ds=>CO ds
section
variable{X:Cx}{elt:Expr}{pos:Pos}{e:Expr}{es:List Expr}
theorem Q2{o:Expr}{f:M D}{g:M (List D)}{apos cpos:Pos}(ho:PE X o (RE X.K f))(ha:PA X (e::es) (RA X.K g))
 (hbase:attributeBase o "extend" X.env (eval o X.env)=eval o X.env:=by rfl)
 (hfew:((backTo cpos (starEach (e::es) X.env)).all (λx=>!x.1)&&(backToKw cpos (keywordEach [] X.env)).all (λx=>x.1.isSome)&&decide ((e::es).length+([]:List Keyword).length+(if ([]:List Keyword).isEmpty then 0 else 1)<30))=true:=by rfl)
 (hline:(apos.endLine==cpos.line)=true:=by rfl) (hs:starEach (e::es) X.env=(false,eval e X.env)::starEach es X.env:=by rfl) (hplain:(backTo cpos (starEach es X.env)).any (·.1)=false:=by rfl) :
 PE X (.Call (.Attribute o "extend" apos) (e::es) [] cpos) (RE X.K (objM Fq f g)):=
 AH (IV ub4 fz gb OJ ho ha hbase hfew hline hs hplain) λ_ _ _ q=>RE.objM O7 q
end
section
variable{X:Cx}{ff:List (fh×Obj)}{σ:St}{H:Hp}{s:fj}{a:fh}{kvs:List (Key×V)}{o:Obj}
end
section
variable{X:Cx}
end
section
variable{X:Cx}
end
open SeqAt
def QG(K:fc)(H:Hp)(v w:V):Prop:=∃c dv dw,Rep K c H v dv/\Rep K c H w dw/\eqN EQD dv dw=some true
def Xx(K:fc)(H:Hp)(v w:V):Prop:=QG K H v w\/∃a b us ts,v=.ref a/\w=.ref b/\H a=some (.dK us)/\H b=some (.dK ts)/\us.length=ts.length/\(∀kv∈us,∃n:Int,kv.1=Sum.inl n)/\(∀kv∈ts,∃n:Int,kv.1=Sum.inl n)/\∀kv∈us,∃z,Fy ts kv.1=some z/\QG K H kv.2 z
def eJ(K:fc)(b:Bool):R2:=λx y H Q=>∃p q vs ws,x=.ref p/\y=.ref q/\H p=some (.lst vs)/\H q=some (.lst ws)/\vs.length=ws.length/\(∀(j:Nat) v w,vs[j]?=some v->ws[j]?=some w->Xx K H v w)/\Q (.bl b) H
def Mz(S:List Ob)(x y:D):Bool:=Be (D1 S x)&&Be (D1 S y)&&decide (eqN EQD (D1 S x) (D1 S y)=some true)
def dQ(S:List Ob)(x y:D):Bool:=match x,y with
 |.obj m,.obj n=>match S[m]?,S[n]? with
   |some (.dct kvs),some (.dct lvs)=>kvs.length==lvs.length&&(P4 kvs).isSome&&(P4 lvs).isSome&&kvs.all (λkv=>match Ct lvs kv.1 with|some e=>Mz S kv.2 e|none=>false)
   |_,_=>Mz S x y
 |_,_=>Mz S x y
section
variable{X:Cx}{pos:Pos}
end
structure ZL(h:Heap)(z TI TO i1 i2 t1 t2:fh)(n:Nat):Prop where
 zz:IsZip h z TI TO .none
 ti:IsPair h TI (.ref i1) (.ref i2)
 ot:∃a b,IsPair h TO a b
 p1:h.IsListIter i1 t1 n
 p2:h.IsListIter i2 t2 n
section
variable{X:Cx}{a b:Expr}{pos:Pos}
end
open PySem.W
section
variable{prog:fk}{w:fq}{A:Around}{h:Heap}{g:Array GenState}{d:Drawn}{t:Nat}{os:OsState}{R:Result->fj->Prop}
variable{nm q:Str}{C N fI:fh}{bs bm bmB:List fg}{hdct:Bool}{sn:List Str}{sub:List fg}{ab:Bool}{col:Option Bool}{dd:Option fh}{k0 k1 k2 k3 k5:Option fg}{B newId initId:String}{mN:Str->Option fg}
abbrev QY(C tp:fh):Obj:={cls:=.ref C,data:=.fields #[.ref tp,.none,.none,.none,.bool false,.none]}
abbrev Kf(h:Heap)(C:fh)(us:List fg):Heap:=(h.push {cls:=.type "tuple",data:=.seq us.toArray}).push (QY C h.objs.size)
end
open PySem.Builtin PySem.Builtin.ObjectAttr
section
variable{prog:fk}{w:fq}{A:Around}{s:fj}{K:fc}{x C P tp:fh}{R:Result->fj->Prop}{name:Str}{v:fg}{tk:Tok}{cd:ClassData}
end
section
variable{qx:Bool}
def XRec(qx:Bool)(h:Heap)(x C:fh)(dx:Option fh)(tb:fg):Prop:=∃(o:Obj) (vs:Array fg),h.get? x=some o/\o.cls=.ref C/\o.dict=dx/\o.data=.fields vs/\vs[1]?=some tb/\(qx=true->vs[2]?=some .none/\4<vs.size)
theorem XU{qx:Bool}{vs:Array fg}{v:fg}(h:qx=true->vs[2]?=some .none/\4<vs.size):qx=true->(vs.setIfInBounds 1 v)[2]?=some .none/\4<(vs.setIfInBounds 1 v).size:=λz=>by
 rw[Array.getElem?_setIfInBounds_ne (by decide),Array.size_setIfInBounds];exact h z
theorem XRec.to{qx:Bool}{h:Heap}{x C:fh}{dx:Option fh}{tb:fg}(r:XRec true h x C dx tb):XRec qx h x C dx tb:=by
 clear 5 r o vs h1 h2 h3 h4 h5 h6;exact⟨o,vs,h1,h2,h3,h4,h5,λ_=>h6 rfl⟩
def XTb(h:Heap)(T:fh):Prop:=∃(o:Obj) (ts:Array fg),h.get? T=some o/\o.data=.fields ts/\ts[3]?=some .none
structure XKeep(fs ch:List fh)(h h':Heap):Prop where
 keep:∀b o,b∉ch->b∉fs->h.get? b=some o->h'.get? b=some o
 slot:∀b o,b∉ch->h.get? b=some o->∃sl,h'.get? b=some {o with slots:=sl}
section
variable{M:Model}{A:Around}{E:fg->fj->Prop}{s:fj}{env:Env}{outer:List Env}{base:Heap}{L x C:fh}{dx:Option fh}{tb:fg}{Q:Unit->fj->Prop}
theorem M9{o:Obj}{vs:Array fg}(hd:o.data=.fields vs)(f:Array fg->Array fg):(o.mapFields f).data=.fields (f vs)/\(o.mapFields f).cls=o.cls/\(o.mapFields f).dict=o.dict:=by
 clear 5 o c d dt sl
 cases hd
 exact⟨rfl,rfl,rfl⟩
end
end
section
variable{qx:Bool}
abbrev VE:List fg:=[.type "ValueError",.type "Exception",.type "BaseException",.type "object"]
structure XCl(K:fc)(C:fh)(bm:List fg):Prop where
 ex:∃cd dd k0 k1 k2 k3 k5,K.lookup C=some {cls:=.type "type",dict:=dd,data:=.cls cd,slots:=#[k0,k1,k2,k3,some (.builtin "ValueError.__new__"),k5]}/\cd.mro=.ref C::bm/\cd.hasDel=false/\cd.hasDict=true/\nsOkIn K cd.ns=true
 tl:tailIn K VE bm=true
noncomputable def Mq(K:fc)(C:fh)(bm:List fg):Bool:=tailIn K VE bm&&match K.lookup C with
 | some ⟨.type "type",_,.cls cd,sl⟩=>(match sl.toList with
   |[_,_,_,_,some (.builtin n),_]=>n == "ValueError.__new__" && cd.mro==.ref C::bm && !cd.hasDel&&cd.hasDict&&nsOkIn K cd.ns
   |_=>false)
 |_=>false
variable{K:fc}{C:fh}{bm:List fg}
theorem XCl.of_in(q:Mq K C bm=true):XCl K C bm:=by
 unfold Mq at q;rw[uh5] at q;refine⟨?_,q.1⟩;have q:=q.2
 split at q
 .rename_i dd cd sl ho
  split at q
  .rename_i k0 k1 k2 k3 n k5 hs;simp only[uh5,gS,Bool.not_eq_true'] at q;obtain⟨⟨⟨⟨rfl,h1⟩,h2⟩,h3⟩,h4⟩:=q;have hsl:sl=#[k0,k1,k2,k3,some (.builtin "ValueError.__new__"),k5]:=by
    cases sl
    exact gY Array.mk hs
   exact⟨cd,dd,k0,k1,k2,k3,k5,by rw[ho,hsl],h1,h2,h3,h4⟩
  .cases q
 .cases q
theorem XCl.obj{K:fc}{C:fh}{bm:List fg}{h:Heap}(c:XCl K C bm)(X:K.In h):∃nm q N bs sn sub ab col dd k0 k1 k2 k3 k5,h.get? C=some (excClassObj nm q C N bs bm true sn sub ab col dd k0 k1 k2 k3 k5 "ValueError.__new__")/\h.Ns N (h.nsMap N):=by
 obtain⟨⟨nm,bs,mro,ns,qn,hd,sn,sub,ab,col,del⟩,dd,k0,k1,k2,k3,k5,h1,h2,h3,h4,h5⟩:=c.ex;dsimp only at h2 h3 h4 h5;subst h2 h3 h4;exact⟨nm,qn,ns,bs,sn,sub,ab,col,dd,k0,k1,k2,k3,k5,X _ _ h1,.of_isNs (isNs_of_in X h5)⟩
variable{h:Heap}
theorem XCl.tail(c:XCl K C bm)(X:K.In h):OwnTail h VE bm:=tail_of_in X c.tl
theorem XCl.has(c:XCl K C bm)(X:K.In h):(Value.ref C::bm).contains (.type "BaseException")=true:=by
 rw[List.contains_cons,(c.tail X).hasType (b:=true) (by decide +kernel),Bool.or_true]
section
variable{M:Model}{A:Around}{E:fg->fj->Prop}{env:Env}{K:fc}{C:fh}{bm:List fg}{s:fj}
theorem Up{t:Sem fg}{Q:Flow->fj->Prop}(c:XCl K C bm)(hh:A.handled=none)
 (h:wpAny M A t (λv s1=>∃x dx,v=.ref x/\K.In s1.heap/\XRec qx s1.heap x C dx .none/\E v s1) E s):wpAny M A (raiseStmt env (some t) none) Q E s:=by
 unfold raiseStmt;refine uo1 (uo3 h (λv s1 q=>?_) λ_ _ z=>z);obtain⟨x,dx,rfl,X,⟨o,vs,hx,hc,hd,hdt,h1,_⟩,hE⟩:=q;obtain⟨nm,q,N,bs,sn,sub,ab,col,dd,k0,k1,k2,k3,k5,hC,_⟩:=c.obj X;have hb:=c.has X;clear 5 s1 hp g d tk os
 repeat (first
  |(with_reducible refine gD hx ?_;rw[hc])
  |with_reducible refine gD hC ?_
  |(with_reducible refine gu hC ?_;rw[hb])
  |with_reducible refine uo0 hx hdt h1 ?_
  |wp_step)
 exact wpAny_raiseNew_none hh hE
end
def CX1(qx:Bool)(P:fk)(w:fq):CXT:=λouter H s E e s'=>∃(x C:fh) (dx:Option fh) (T:fh) (H':Hp),e=.ref x/\s'.os=s.os/\AllBare s'.gens/\Un (frs outer) [] H H' s.heap s'.heap/\HOk P w H' s'.heap/\
 H' x=some (.ext (L2.XIs qx x C dx))/\s.heap.objs.size<=x/\s.heap.objs.size<=T/\T≠x/\H' T=none/\XRec qx s'.heap x C dx (.ref T)/\XTb s'.heap T/\E (.ref x) dx H'
variable{x:fh}{dx:Option fh}
theorem XRec.is{tb:fg}(r:XRec qx h x C dx tb):L2.XIs qx x C dx h:=by
 obtain⟨o,vs,h1,h2,h3,h4,_,h5⟩:=r;exact⟨o,vs,h1,h2,h3,h4,h5⟩
theorem XIs.stay{h1 h2:Heap}(r:L2.XIs qx x C dx h1)(k:∀o,h1.get? x=some o->h2.get? x=some o):L2.XIs qx x C dx h2:=by
 clear 5 r o vs e q;exact⟨o,vs,k o e,q⟩
theorem QZ{P:fk}{w:fq}{H:Hp}(r:L2.XIs qx x C dx h):ObjOk P w H h x (.ext (L2.XIs qx x C dx)):=
 ⟨r,let ⟨o,_,e,_⟩:=r;⟨o,e⟩,λ_ _ q k=>XIs.stay q k⟩
section
variable{X:Cx}{ff:List (fh×Obj)}{σ:St}{H H':Hp}{s s':fj}{h':Heap}{x C T:fh}{dx:Option fh}{ch:List fh}
theorem UE(k:XKeep (frs X.stack) ch s.heap h')(hT:∀b∈ch,b=x\/b=T):Un (frs X.stack) (x::T::[]) H H s.heap h':=by
 have nch:∀b:fh,b∉(x::T::[])->b∉ch:=λb hb z=>hb (by rcases hT b z with rfl|rfl<;>simp);refine⟨λb o e n hb hx=>k.keep b o (nch b hx) hb e,λb o e n hb hx=>k.slot b o (nch b hx) e,λb o e n _=>n,λb o e hx=>?_,λ_ _ e=>e,λ_ _ _ e=>e,λb ps e=>⟨#[],by rw[e];simp⟩⟩;clear 5(k.slot b o (nch b hx) e)sl q;exact⟨_,q⟩
theorem Inv.left(I:Inv X ff σ H s)(hx:H x=some (.ext (L2.XIs qx x C dx)))(hT:H T=none)(nx:X.s₀.heap.objs.size<=x)(nT:X.s₀.heap.objs.size<=T)(k:XKeep (frs X.stack) ch s.heap h')(hc:∀b∈ch,b=x\/b=T)(r:L2.XIs qx x C dx h')
 (oT:∀y c,X.env.cells.lookup y=some c->c≠T) (lT:T≠X.env.locals) (pT:∀p∈X.pn++ff,p.1≠T):Inv X ff σ H {s with heap:=h'}:=by
 have nfr:∀b u,H b=some u->b∉frs X.stack:=λb u e z=>by rw[I.stkFree b z] at e;cases e
 refine I.call (g':=s.gens) (t':=s.toks) (d':=s.drawn) (ch:=[x,T]) (UE k hc) (λb u e=>?_) I.bare λb hb=>?_
 .by_cases hb:b=x
  .subst hb;rw[hx] at e;cases e;exact QZ r
  .refine(I.hok b u e).stay (λc v hcc q=>k.keep c v ?_ ?_ q) (λ_ q=>q) λ_ _ q=>q
   .intro z;rcases hcc with rfl|hcc
    .rcases hc c z with q|q
     .exact hb q
     .rw[q,hT] at e;cases e
    .rcases hc c z with q|q
     .rw[q,hx] at hcc;cases hcc
     .rw[q,hT] at hcc;cases hcc
   .rcases hcc with rfl|hcc
    .exact nfr _ _ e
    .exact nfr _ _ hcc
 .have q:b=x\/b=T:=by simpa using hb
  rcases q with rfl|rfl
  .exact⟨.inr nx,(λz=>by rw[z,I.free] at hx;cases hx),(λy c e z=>by subst z;rw[I.freeC y c e] at hx;cases hx),λp hp z=>by rw[<-z,(I.pin p hp).2.1] at hx;cases hx⟩
  .exact⟨.inr nT,lT,oT,pT⟩
theorem Inv.raised(I:Inv X ff σ H s){E:XK}{e:fg}(q:CX1 qx X.prog X.w X.stack H s E e s'):∃(x C:fh) (dx:Option fh) (T:fh) (H':Hp),e=.ref x/\Inv X ff σ H' s'/\H' x=some (.ext (L2.XIs qx x C dx))/\s.heap.objs.size<=x/\s.heap.objs.size<=T/\T≠x/\H' T=none/\XRec qx s'.heap x C dx (.ref T)/\XTb s'.heap T/\E (.ref x) dx H':=by
 clear 5 q x C dx T H' he os bare un hok hx nx nT ne hT r tb q;clear 5 s' hh g d t os';obtain rfl:os'=s.os:=os;exact⟨x,C,dx,T,H',he,I.call (h':=hh) (g':=g) (d':=d) (t':=t) (ch:=[]) un hok bare (λb z=>absurd z (by simp)),hx,nx,nT,ne,hT,r,tb,q⟩
theorem Inv.newT(I:Inv X ff σ H s)(h:s.heap.objs.size<=T):T≠X.env.locals/\(∀y c,X.env.cells.lookup y=some c->c≠T)/\∀p∈X.pn++ff,p.1≠T:=by
 have far:∀b o,s.heap.get? b=some o->b≠T:=λb o e z=>absurd (ue9 (um3 e) h) (by rw[z];exact ul1 _);refine⟨λz=>absurd I.lt (by rw[<-z];exact Nat.not_lt.mpr h),λy c e=>?_,λp hp=>far _ _ (I.pin p hp).1⟩;obtain⟨v,o,ho,_⟩:=I.cell y c e;exact far c o ho
end
section
variable{P:fk}{w:fq}{K:fc}{mg:Str->Option fg}{base:Heap}{N:List Str}{qual:Str}{scope:Scope}{f:fh}{cd:fg}{A:Around}{outer:List Env}{s₀:fj}{H₀:Hp}{E:XK}
end
end
structure XAt(K:fc)(C P:fh)(f:Str):Prop where
 cl:XCl K C (.ref P::VE)
 set:findIn K (.ref C) "__setattr__" = some (some (.builtin "object.__setattr__"))
 no:findIn K (.ref C) f=some none
section
variable{qx:Bool}
structure XMk(K:fc)(C P f:fh):Prop where
 cl:XCl K C (.ref P::VE)
 init:∃cd,clsIn K C=some cd/\nsIn K cd.ns "__init__" = some (some (.ref f))
 fn:isFn K (.ref f)=true
 kp:keepIn K (.ref C)=true
section
variable{X:Cx}{k:Nat}{f C P:fh}{fd:ft}{ff:List (fh×Obj)}{σ:St}{H:Hp}{s:fj}{Q:fg->fj->Prop}{us:List fg}{vs:List V}{a:Str}{ps:List Str}{v:V}{u:fg}
end
end
section
variable{qx:Bool}
section
variable{M:Model}{A:Around}{E:fg->fj->Prop}{K:fc}{s:fj}{x C C':fh}{bm bm':List fg}{dx:Option fh}{tb:fg}
theorem Na{Q:Bool->fj->Prop}(c:XCl K C bm)(c':XCl K C' bm')(X:K.In s.heap)(hx:XRec qx s.heap x C dx tb)(h:Q ((Value.ref C::bm).contains (.ref C')) s):wpAny M A (excMatches (.ref x) (.ref C')) Q E s:=by
 obtain⟨nm,q,N,bs,sn,sub,ab,col,dd,k0,k1,k2,k3,k5,hC,_⟩:=c.obj X;obtain⟨nm',q',N',bs',sn',sub',ab',col',dd',k0',k1',k2',k3',k5',hC',_⟩:=c'.obj X;have hb:=c'.has X;clear 5 hx o vs ho hc hd hdt h1;clear 5 s hp g d tk os;have ty:(⟨hp,g,d,tk,os⟩:fj).TypeIs (.ref C') "type":=⟨_,hC',rfl⟩;have nt:=tc_notTuple
 cases hbb:(Value.ref C::bm).contains (.ref C')<;>(
  rw[hbb] at h;unfold excMatches
  repeat (first
   |(with_reducible refine gD ho ?_;rw[hc])
   |with_reducible refine gD hC' ?_
   |(with_reducible refine gu hC' ?_;rw[hb])
   |(with_reducible refine gu hC ?_;rw[hbb])
   |wp_step)
  exact h)
end
end
section
variable{qx:Bool}
def SZ(h:Heap)(T:fh)(fl:fg):Prop:=∃(o:Obj) (ts:Array fg),h.get? T=some o/\o.data=.fields ts/\ts[3]?=some fl
section
variable{M:Model}{A:Around}{E:fg->fj->Prop}{s:fj}{env:Env}{outer:List Env}{base:Heap}{L x C:fh}{dx:Option fh}{tb:fg}{Q:Unit->fj->Prop}
theorem LF{hadNext:Bool}{hd:fg}(hfr:A.frames=some (env::outer))(hl:s.heap.FunFrames base (env::outer))(hf:env.frame=some L)(hx:XRec qx s.heap x C dx tb)
 (h:∀h' T,s.heap.objs.size<=T->T≠x->XRec qx h' x C dx (.ref T)->SZ h' T (rawInt L)->XKeep (frs (env::outer)) [x] s.heap h'->Q () {s with heap:=h'}) :
 wpAny M A (do let fo <-frameOf env;let at' <-entryPlaceOf L hadNext;let en <-EntryCells.newEntry hd fo .none (rawInt L) .none at';setField (.ref x) 1 en) Q E s:=by
 clear 5 hx ox vs gx cx dxe dtx tbx xc;have v1:1<vs.size:=(ua5.mp tbx).1;have nfr:x∉frs (env::outer):=λz=>by
  obtain⟨_,o2,g2,n2⟩:=hl.mem z;rw[gx] at g2;cases g2
  exact n2 vs dtx
 refine uo1 (wpAny_frameOf_fun hfr hl hf λh1 so=>?_);refine uo1 (wpAny_entryPlaceOf λat' ip=>?_);unfold EntryCells.newEntry newFields;refine uo1 (gz ?_ (ip.sizeOk5 _ _ _ _ _));generalize hne:(Obj.mk (Value.type "traceback") none (Data.fields ([hd,Value.ref L,Value.none,rawInt L,Value.none]++if at'.isEmpty=true then List.replicate 6 Value.none else at').toArray) #[])=nob;have dn:nob.data=.fields ([hd,Value.ref L,Value.none,rawInt L,Value.none]++if at'.isEmpty=true then List.replicate 6 Value.none else at').toArray:=by rw[<-hne]
 have gx1:h1.get? x=some ox:=(so.2.1 x nfr).trans gx;have gx2:(h1.push nob).get? x=some ox:=uc0 _ gx1;have nex:h1.objs.size≠x:=um6 (um3 gx1);refine gH gx2 dtx v1 ?_;clear 5(M9 dtx (·.setIfInBounds 1 (Value.ref h1.objs.size)))m1 m2 m3;have gx3:=uc8 (Obj.mapFields (·.setIfInBounds 1 (Value.ref h1.objs.size))) gx2 (gn m1);have gT2:(h1.push nob).get? h1.objs.size=some nob:=ue3 h1 (gn dn);have gT3:=(uc1 (h1.push nob) (Obj.mapFields (·.setIfInBounds 1 (Value.ref h1.objs.size))) (Ne.symm nex)).trans gT2;have vx:(vs.setIfInBounds 1 (Value.ref h1.objs.size))[1]?=some (.ref h1.objs.size):=by simp[v1]
 have old:∀b o,b≠x->h1.get? b=some o->((h1.push nob).update x (Obj.mapFields (·.setIfInBounds 1 (Value.ref h1.objs.size)))).get? b=some o:=λb o hb e=>by
  rw[uc1 _ _ (Ne.symm hb)];exact uc0 _ e
 refine h _ h1.objs.size (gN so.1.symm) nex ⟨_,_,gx3,m2.trans cx,m3.trans dxe,m1,vx,XU xc⟩ ⟨_,_,gT3,dn,?_⟩ ⟨λb o hb hbf e=>old b o (λz=>hb (by simp[z])) ((so.2.1 b hbf).trans e),λb o hb e=>?_⟩
 .rw[List.getElem?_toArray];rfl
 .clear 5(so.2.2 b o e)sl e1;exact⟨sl,old b _ (λz=>hb (by simp[z])) e1⟩
end
structure XOn(qx:Bool)(X:Cx)(ff:List (fh×Obj))(H:Hp)(s:fj)(x C:fh)(dx:Option fh)(T:Option fh)(fl:fg):Prop where
 hx:H x=some (.ext (L2.XIs qx x C dx))
 nx:X.s₀.heap.objs.size<=x
 rc:XRec qx s.heap x C dx (match T with|some a=>.ref a|none=>.none)
 tb:∀a,T=some a->a≠x/\H a=none/\X.s₀.heap.objs.size<=a/\(a≠X.env.locals/\(∀y c,X.env.cells.lookup y=some c->c≠a)/\∀p∈X.pn++ff,p.1≠a)/\SZ s.heap a fl
 fo:fl=.none\/fl=rawInt X.env.locals
section
variable{M:Model}{A:Around}{Er:fg->fj->Prop}{X:Cx}{ff:List (fh×Obj)}{σ:St}{H:Hp}{s:fj}{x C:fh}{dx T:Option fh}{fl:fg}{Q:Unit->fj->Prop}
theorem GV(fr:Option fh)(I:Inv X ff σ H s){a:fh}(o:XOn qx X ff H s x C dx (some a) fl)(hfr:fr=none\/fr=some X.env.locals)
 (k:∀h',Inv X ff σ H {s with heap:=h'}->XOn qx X ff H {s with heap:=h'} x C dx (some a) (fr.elim Value.none λf=>rawInt f)->Q () {s with heap:=h'}):wpAny M A (setFlight (.ref x) fr) Q Er s:=by
 clear 5(id o.rc)ox vs gx cx dxe dtx tbx xc;clear 5(o.tb a rfl)ne hT nT oT ot ts gT dT t3;unfold setFlight;refine uo1 (uo0 gx dtx tbx ?_);rw[hX (show(Value.ref a != Value.none)=true from rfl)];refine gH gT dT (ua5.mp t3).1 ?_;clear 5(M9 dT (·.setIfInBounds 3 (fr.elim Value.none λf=>rawInt f)))m1 m2 m3;have gT2:=uc8 (Obj.mapFields (·.setIfInBounds 3 (fr.elim Value.none λf=>rawInt f))) gT (gn m1);have oth:∀b,b≠a->(s.heap.update a (Obj.mapFields (·.setIfInBounds 3 (fr.elim Value.none λf=>rawInt f)))).get? b=s.heap.get? b:=λb z=>uc1 _ _ (Ne.symm z);have rc':XRec qx (s.heap.update a (Obj.mapFields (·.setIfInBounds 3 (fr.elim Value.none λf=>rawInt f)))) x C dx (.ref a):=⟨ox,vs,(oth x (Ne.symm ne)).trans gx,cx,dxe,dtx,tbx,xc⟩;refine k _ (I.left o.hx hT o.nx nT (ch:=[a]) ⟨λb u hb _ e=>(oth b (by simpa using hb)).trans e,λb u hb e=>⟨u.slots,(oth b (by simpa using hb)).trans e⟩⟩ (λb hb=>.inr (by simpa using hb)) rc'.is oT.2.1 oT.1 oT.2.2) ⟨o.hx,o.nx,rc',λa' e=>?_,?_⟩
 .cases e
  exact⟨ne,hT,nT,oT,_,_,gT2,m1,by rw[Array.getElem?_setIfInBounds_self,hX (ua5.mp t3).1]⟩
 .rcases hfr with rfl|rfl
  .exact .inl rfl
  .exact .inr rfl
theorem JB(hA:A.frames=some X.stack)(I:Inv X ff σ H s)(hs:X.stack=X.env::X.outer)(hf:X.env.frame=some X.env.locals)(o:XOn qx X ff H s x C dx T fl)
 (k:∀h' a,Inv X ff σ H {s with heap:=h'}->XOn qx X ff H {s with heap:=h'} x C dx (some a) (rawInt X.env.locals)->Q () {s with heap:=h'}):wpAny M A (noteFrame (.ref x) X.env) Q Er s:=by
 clear 5(id o.rc)ox vs gx cx dxe dtx tbx xc;have fin:∀(s1:fj) (hh:∃h1,s1 = {s with heap:=h1}) (ch:List fh) (h':Heap) (a:fh),Inv X ff σ H s1->s1.heap.objs.size<=a->a≠x->XRec qx h' x C dx (.ref a)->SZ h' a (rawInt X.env.locals)->XKeep (frs (X.env::X.outer)) [x] s1.heap h'->Q () {s1 with heap:=h'}:=by
  rintro s1 ⟨h1,rfl⟩ ch h' a I1 l1 l2 l3 l4 l5;clear 5(I1.newT l1)o1 o2 o3;have J:=I1.left o.hx (I1.hok.fresh l1) o.nx (um5 I1.sz l1) (ch:=[x]) (hs ▸ l5) (λb hb=>.inl (by simpa using hb)) l3.is o2 o1 o3;exact k h' a J ⟨o.hx,o.nx,l3,λa' e=>by cases e;exact⟨l2,I1.hok.fresh l1,um5 I1.sz l1,⟨o1,o2,o3⟩,l4⟩,.inr rfl⟩
 unfold noteFrame;simp only[hf];refine uo1 (uo0 gx dtx tbx ?_)
 cases T with
 |none=>
   rw[ia (by decide)];exact LF (hA.trans (gY some hs)) (hs ▸ I.stack) hf o.rc λh' a l1 l2 l3 l4 l5=>fin s ⟨s.heap,rfl⟩ [] h' a I l1 l2 l3 l4 l5
 |some T₀=>
   clear 5(o.tb T₀ rfl)ne hT nT oT ot ts gT dT t3;rw[hX (show(Value.ref T₀ != Value.none)=true from rfl)];refine uo1 (uo0 gT dT t3 ?_);rcases o.fo with rfl|rfl
   .rw[ia (show ¬((Value.none==rawInt X.env.locals)=true) from by simp[rawInt])];refine uo1 (gH gT dT (ua5.mp t3).1 ?_);have oth:∀b,b≠T₀->(s.heap.update T₀ (Obj.mapFields (·.setIfInBounds 3 Value.none))).get? b=s.heap.get? b:=λb z=>uc1 _ _ (Ne.symm z);have rc':XRec qx (s.heap.update T₀ (Obj.mapFields (·.setIfInBounds 3 Value.none))) x C dx (.ref T₀):=⟨ox,vs,(oth x (Ne.symm ne)).trans gx,cx,dxe,dtx,tbx,xc⟩;have J:=I.left o.hx hT o.nx nT (ch:=[T₀]) ⟨λb u hb _ e=>(oth b (by simpa using hb)).trans e,λb u hb e=>⟨u.slots,(oth b (by simpa using hb)).trans e⟩⟩ (λb hb=>.inr (by simpa using hb)) rc'.is oT.2.1 oT.1 oT.2.2;exact LF (s:={s with heap:=s.heap.update T₀ (Obj.mapFields (·.setIfInBounds 3 Value.none))}) (hA.trans (gY some hs)) (hs ▸ J.stack) hf rc' λh' a l1 l2 l3 l4 l5=>fin _ ⟨_,rfl⟩ [] h' a J l1 l2 l3 l4 l5
   .rw[hX (show(rawInt X.env.locals==rawInt X.env.locals)=true from by first|(simp;done)|exact ui5 _)];exact uo2 (k s.heap T₀ I ⟨o.hx,o.nx,o.rc,o.tb,.inr rfl⟩)
end
def XE(qx:Bool)(X:Cx)(E:St->XK):fg->fj->Prop:=λe s=>∃ff σ H x C dx T fl,e=.ref x/\Inv X ff σ H s/\XOn qx X ff H s x C dx T fl/\E σ (.ref x) dx H
def FM(CX:CXT)(X:Cx)(E:St->XK):Prop:=∀(ff:List (fh×Obj)) (σ:St) (H:Hp) (s:fj) (e:fg) (s':fj),Inv X ff σ H s->CX X.stack H s (E σ) e s'->X.xe e s'
section
variable{M:Model}{X:Cx}{E:St->XK}
theorem XE.own(hs:X.stack=X.env::X.outer)(hf:X.env.frame=some X.env.locals):PassesOwn M X.A X.env (XE qx X E):=by
 rintro e s ⟨ff,σ,H,x,C,dx,T,fl,rfl,I,o,q⟩;refine JB I.ok.frames I hs hf o λh' a I' o'=>?_;clear 5(id o'.rc)ox vs gx cx dxe dtx tbx xc;unfold cameBackBy;refine uo1 (uo0 gx dtx tbx ?_);rw[ia (show ¬((Value.ref a==Value.none)=true) from by intro z;cases z)]
 rw[hf];exact GV _ I' o' (.inr rfl) λh'' I'' o''=>⟨ff,σ,H,x,C,dx,some a,_,rfl,I'',o'',q⟩
theorem XE.pass:FM (CX1 qx X.prog X.w) (X.wish (XE qx X E)) E:=by
 intro ff σ H s e s' I q;clear 5(I.unwish.raised q)x C dx T H' rfl J hx nx nT ne hT r tb q;exact⟨ff,σ,H',x,C,dx,some T,.none,rfl,J,⟨hx,um5 I.sz nx,r,λa e=>by cases e;exact⟨ne,hT,um5 I.sz nT,I.unwish.newT nT,tb⟩,.inl rfl⟩,q⟩
end
section
variable{P:fk}{w:fq}{K:fc}{mg:Str->Option fg}{base:Heap}
abbrev cxX(qx:Bool)(P:fk)(w:fq)(K:fc)(mg:Str->Option fg)(base:Heap)(N:List Str)(qual:Str)(scope:Scope)(f:fh)(cd:fg)(A:Around)(outer:List Env)(s:fj)(H:Hp)(E:XK):Cx:=
 (EM (CX1 qx P w) P w K mg base N qual scope f cd A outer s H E).wish (XE qx (EM (CX1 qx P w) P w K mg base N qual scope f cd A outer s H E) λ_=>E)
theorem XE.leaves{N:List Str}{qual:Str}{scope:Scope}{f:fh}{cd:fg}{A:Around}{outer:List Env}{s₀:fj}{H₀:Hp}{E:XK}{e:fg}{s:fj}
 (h:XE qx (EM (CX1 qx P w) P w K mg base N qual scope f cd A outer s₀ H₀ E) (λ_=>E) e s):(EM (CX1 qx P w) P w K mg base N qual scope f cd A outer s₀ H₀ E).xe e s:=by
 clear 5 h ff σ H x C dx T fl rfl I o q;refine uo1 (JB I.ok.frames I rfl rfl o λh' a I' o'=>?_);refine GV none I' o' (.inl rfl) λh'' I'' o''=>?_;clear 5(o''.tb a rfl)ne hT nT oT tb;exact⟨x,C,dx,a,H,rfl,I''.os,I''.bare,I''.base,I''.hok,o''.hx,o''.nx,nT,ne,hT,o''.rc,tb,q⟩
theorem Fun.okX{x qual:Str}{st:Stmt}{f:fh}{fd:ft}{N ps:List Str}{k:Nat}{sp:Sp}(F:Fun K x qual st f fd)(S:FnScope N ps (AF st))(len:∀vs H Q E,sp vs H Q E->vs.length=ps.length)
 (hbody:∀(cdv:fg) (A:Around) (outer:List Env) (s:fj) (H:Hp) (vs:List V) (Q:VK) (E:XK),Room k (A.deeper (envOfC qual (AF st) s.heap.objs.size f cdv))->sp vs H Q E->
   ∃t,PSs (cxX qx P w K mg base N qual (AF st) f cdv A outer s H E) (CN st) t/\t {nx:=λ_ H'=>Q .non H',rt:=Q} (Eb N vs) H):FnOk P w K mg base (CX1 qx P w) (k+1) f fd ps sp:=by
 clear 5 F.ex oc od kV doc pm an cdv ct osl rfl lk hcd;refine UV lk hcd S len λA outer s H vs Q E hr hsp=>?_;clear 5(hbody cdv A outer s H vs Q E hr hsp)t h q;exact⟨t,λff s1 σ H1 D I hw=>uo3 (h ff s1 σ H1 D (I.wish _) hw) (λ_ _ q=>q.unwish) λ_ _ z=>z.leaves,q⟩
end
section
variable{X:Cx}{CX:CXT}{k:Nat}{f:fh}{fd:ft}{ps:List Str}{sp:Sp}{E:St->XK}{x:Str}{p pos:Pos}{e:Expr}{es:List Expr}{t:TA}
def Zy(sp:Sp)(E:St->XK)(t:TA):TE:=λσ H Q=>t σ H λvs H1=>sp vs H1 Q (E σ)
theorem Uc(F:FnOk X.prog X.w X.K X.mg X.base CX k f fd ps sp)(hr:Room k X.A)(hg:Gl X x)(hm:X.mg x=some (.ref f))(hk:PySem.W.keepIn X.K (.ref f)=true)(hb:Binds X.K fd ps [])(hx:FM CX X E)
 (ha:PA X (e::es) t) (hdb:(x==("__debug__":Str))=false:=by decide) (he:starEach (e::es) X.env=(false,eval e X.env)::starEach es X.env:=by rfl) (hpl:(backTo pos (starEach es X.env)).any (·.1)=false:=by rfl) :
 PE X (.Call (.Name x p) (e::es) [] pos) (Zy sp E t):=by
 intro ff s σ H Q I h;refine gw (ET I hg hm ?_ hdb);refine uf2 (h₀:=X.base) I.ok.mod.kin hk (thn (ha pos ff s σ H _ I h) λus s1 z9=>?_) he hpl;clear 5 z9 vs H1 I1 r q;refine⟨I1.kIn,?_⟩;have hl:(us++[]).length=ps.length:=by rw[uj0,<-r.length];exact F.len _ _ _ _ q
 refine gU (gO (F.run X.A X.stack s1 H1 ⟨us,[]⟩ us vs Q (E σ) hr I1.env0 (by have:=hb s1 us I1.kIn hl;rwa [uj0] at this) r q) λr s' hq=>?_)
 cases r with
 |error e=>exact hx ff σ H1 s1 e s' I1 hq
 |ok fl=>
   cases fl with
   |ret u=>exact I1.after hq
   |next=>exact False.elim hq
   |brk=>exact False.elim hq
   |cont=>exact False.elim hq
end
end
section
variable{qx:Bool}
def PM(qx:Bool)(X:Cx)(e:Expr)(C:fh)(t:St->Hp->(fh->Option fh->Hp->Prop)->Prop):Prop:=
 ∀(ff:List (fh×Obj)) (s:fj) (σ:St) (H:Hp) (Q:fh->Option fh->Hp->Prop),Inv X ff σ H s->t σ H Q->
  wpAny (model X.prog X.w) X.A (eval e X.env) (λv s1=>∃x dx H1,v=.ref x/\Inv X ff σ H1 s1/\H1 x=some (.ext (L2.XIs qx x C dx))/\X.s₀.heap.objs.size<=x/\XRec true s1.heap x C dx .none/\Q x dx H1) X.xe s
def JK(qx:Bool)(X:Cx)(E:St->XK):Prop:=∀(ff:List (fh×Obj)) (σ:St) (H:Hp) (s:fj) (x C:fh) (dx:Option fh),Inv X ff σ H s->XOn qx X ff H s x C dx none .none->E σ (.ref x) dx H->X.xe (.ref x) s
theorem XE.raises{X:Cx}{E:St->XK}:JK qx (X.wish (XE qx X E)) E:=λff σ H s x C dx I o q=>⟨ff,σ,H,x,C,dx,none,.none,rfl,I.unwish,⟨o.hx,o.nx,o.rc,o.tb,o.fo⟩,q⟩
theorem Uj{X:Cx}{e:Expr}{C:fh}{bm:List fg}{t:St->Hp->(fh->Option fh->Hp->Prop)->Prop}{E:St->XK}{pos:Pos}(hc:X.calm=true)(c:XCl X.K C bm)(hx:JK qx X E)(h:PM qx X e C t)
 (ho:evalOpt (some e) X.env=some (eval e X.env):=by rfl):PS X (.Raise (some e) none pos) (λ_ σ H=>t σ H λx dx H1=>E σ (.ref x) dx H1):=by
 intro ff s σ H D I q;rw[arm_exec_Raise,ho];refine uo1 (gI ?_);refine Up (qx:=true) c (I.ok.hd hc) ?_;refine uo1 (uo3 (h ff s σ H _ I q) (λv s1 z9=>?_) λ_ _ z=>z);clear 5 z9 x dx H1 e1 I1 hx1 nx r q1;subst e1;refine uo1 (gI (uo2 ⟨x,dx,rfl,I1.kIn,r,hx ff σ H1 s1 x C dx I1 ⟨hx1,nx,r.to,(λa e=>by cases e),.inl rfl⟩ q1⟩))
theorem Qe{K:fc}{h:Heap}{N:fh}{m:Str->Option fg}{n:Str}(X:K.In h)(G:h.Ns N m)(e:nsIn K N n=some none):m n=none:=by
 obtain⟨o,es,ep,ho,hd,_,hf⟩:=G;unfold nsIn at e
 split at e
 .next c d es' n' sl q=>
  have z:=X _ _ q;rw[ho] at z
  cases z
  cases hd
  split at e
  .cases e
  .next he=>rw[<-hf];unfold nsFind findBy;rw[<-Array.find?_toList,he];rfl
 .cases e
section
variable{prog:fk}{w:fq}{A:Around}{E:fg->fj->Prop}{h:Heap}{g:Array GenState}{d:Drawn}{t:Nat}{os:OsState}{Q:fg->fj->Prop}
variable{nm q:Str}{C N:fh}{bs bm bmB:List fg}{hdct:Bool}{sn:List Str}{sub:List fg}{ab:Bool}{col:Option Bool}{dd:Option fh}{k0 k1 k2 k3 k5:Option fg}{B newId initId:String}{mN:Str->Option fg}
theorem RB(F:ExcBaseFacts B newId initId bmB)(T:OwnTail h bmB bm){us:List fg}(hC:h.get? C=some (excClassObj nm q C N bs bm hdct sn sub ab col dd k0 k1 k2 k3 k5 newId))(hn:h.Ns N mN)(hni:mN "__init__" = none)(hus:us.length<=sizeLine)
 (hq:∀h' tp,(∀b o,h.get? b=some o->h'.get? b=some o)->h'.get? (h.objs.size+1)=some (QY C tp)->Q (.ref (h.objs.size+1)) ⟨h',g,d,t,os⟩) :
 wpAny (model prog w) A (call (.ref C) us) Q E ⟨h,g,d,t,os⟩:=by
 have c1:=tc_lookup;have c2:=tc_bind (.ref C);have ty:(⟨h,g,d,t,os⟩:fj).TypeIs (.ref C) "type":=⟨_,hC,rfl⟩;refine gU (codeAny_of_tree ?_);show wpAny _ _ (callAny (.ref C) _) _ _ _
 repeat (any_goals (first
  |assumption
  |with_reducible refine gD hC ?_
  |wp_step))
 refine⟨rfl,codeAny_call_builtin_at (Code.quiet_builtin _ (by decide +kernel)) entry_typeCall (wpAny_check_type_call_sub hC ?_)⟩
 repeat (first
  |with_reducible refine gD hC ?_
  |with_reducible refine wpAny_madeBy_exc hC ?_
  |wp_step)
 refine codeAny_call_builtin_code (Code.quiet_builtin _ F.quiet) (wpAny_check_new_subT F T hC (codeAny_exc_new_subT F T hC ?_ hus))
 change wpAny _ _ _ _ _ (Shared.mk (Kf h C us) g d t os)
 have kp:∀b o,h.get? b=some o->(Kf h C us).get? b=some o:=λb o e=>uc0 _ (uc0 _ e);have he:(Kf h C us).get? (h.objs.size+1)=some {cls:=.ref C,data:=.fields #[.ref h.objs.size,.none,.none,.none,.bool false,.none]}:=by heap_get
 have n1:(Kf h C us).Ns N mN:=hn.keeps kp;have cC:(Value.ref C::bm).contains (.ref C)=true:=by simp
 unfold isInstance
 repeat (first
  |with_reducible refine gD he ?_
  |(with_reducible refine gu (kp _ _ hC) ?_;rw[cC])
  |wp_step)
 show wpAny _ _ (typeLookup (.ref C) _) _ _ _;refine wpAny_typeLookup_tail (kp _ _ hC) n1 (T.keeps kp) F.mroIs F.init.lookup ?_;rw[hni];refine um2 (uo1 (wpAny_of_eq (F.init.bind _) (uo1 (gU (codeAny_call_builtin F.init.plain F.initEntry (wpAny_check_init_subT F (T.keeps kp) (kp _ _ hC) he rfl ?_))))))
 wp_walk
 refine hq _ ((Kf h C us).objs.size) (λb o hb=>?_) ?_
 .rw[uc1 _ _ (um6 (Nat.lt_succ_of_lt (um3 hb)))];exact uc0 _ (kp b o hb)
 .rw[uc8 _ (uc0 _ he) rfl];rfl
end
section
variable{X:Cx}{k:Nat}{f C P:fh}{fd:ft}{a:Str}{ps:List Str}{n:Str}{p pos:Pos}{e:Expr}{es:List Expr}
theorem WE{t:TA}{bm:List fg}{cd:ClassData}(c:XCl X.K C bm)(hk:keepIn X.K (.ref C)=true)(hcd:clsIn X.K C=some cd)(hni:nsIn X.K cd.ns "__init__" = some none)(hg:Gl X n)(hm:X.mg n=some (.ref C))(ha:PA X (e::es) t)
 (hdb:(n==("__debug__":Str))=false:=by decide) (h1:starEach (e::es) X.env=(false,eval e X.env)::starEach es X.env:=by rfl) (hpl:(backTo pos (starEach es X.env)).any (·.1)=false:=by rfl) :
 PM qx X (.Call (.Name n p) (e::es) [] pos) C (λσ H Q=>t σ H λvs H1=>vs.length<=1000/\∀x,H1 x=none->Q x none (upd H1 x (.ext (L2.XIs qx x C none)))):=by
 intro ff s σ H Q I h;refine gw (ET I hg hm ?_ hdb);refine uf2 (h₀:=X.base) I.ok.mod.kin hk (thn (ha pos ff s σ H _ I h) λus s1 z9=>?_) h1 hpl;clear 5 z9 vs H1 I1 r hl q;refine⟨I1.kIn,?_⟩;clear 5(c.obj I1.kIn)nm q' N bs sn sub ab col dd k0 k1 k2 k3 k5 hC hN;have hni':s1.heap.nsMap N "__init__" = none:=by
  unfold clsIn at hcd
  split at hcd
  .next l=>
   cases hcd
   have z:=I1.kIn _ _ l;rw[hC] at z
   cases z
   exact Qe I1.kIn hN hni
  .cases hcd
 clear 5 s1 hh g d tk os;refine RB PySem.F.excBase_ValueError (c.tail I1.kIn) hC hN hni' (by show us.length<=sizeLine;rw[<-r.length];exact um5 hl (by decide)) λh' tp kp ht=>?_;have xr:XRec true h' (hh.objs.size+1) C none .none:=⟨_,_,ht,rfl,rfl,rfl,rfl,λ_=>⟨rfl,by show 4<6;decide⟩⟩;exact⟨_,none,_,rfl,I1.laid (h':=h') (t':=tk) kp (un8 _) (QZ xr.to.is),AL,um5 I1.sz (un8 _),xr,q _ (I1.hok.fresh (un8 _))⟩
end
end
section
variable{qx:Bool}
abbrev Cx.mark(X:Cx)(x:fh):Cx:={X with A:=X.A.mark (some (.ref x)),calm:=false,xe:=λ_ _=>False}
section
variable{X:Cx}{ff:List (fh×Obj)}{σ:St}{H:Hp}{s:fj}{D:Ends}
theorem Inv.mark(I:Inv X ff σ H s)(x:fh):Inv (X.mark x) ff σ H s:=
 ⟨⟨I.ok.mod,I.ok.kind,I.ok.glob,I.ok.blt,I.ok.above,I.ok.inj,I.ok.has,I.ok.cab,(λz=>by cases z),I.ok.frames,I.ok.stk,I.ok.exf,I.ok.bs,I.ok.bsz,I.ok.noex,I.ok.exfs,I.ok.funs,I.ok.frf⟩,I.os,I.bare,I.base,I.loc,I.cell,I.free,I.freeC,I.pin,I.hok,I.len⟩
theorem Inv.unmark{x:fh}(J:X.Ok)(I:Inv (X.mark x) ff σ H s):Inv X ff σ H s:=⟨J,I.os,I.bare,I.base,I.loc,I.cell,I.free,I.freeC,I.pin,I.hok,I.len⟩
theorem Inv.repin{pn' pins':List (fh×Obj)}{xe:fg->fj->Prop}(I:Inv X ff σ H s)(h:∀p∈pn'++pins',p∈X.pn++ff):Inv {X with pn:=pn',xe:=xe} pins' σ H s:=
 ⟨⟨I.ok.mod,I.ok.kind,I.ok.glob,I.ok.blt,I.ok.above,I.ok.inj,I.ok.has,I.ok.cab,I.ok.hd,I.ok.frames,I.ok.stk,I.ok.exf,I.ok.bs,I.ok.bsz,I.ok.noex,I.ok.exfs,I.ok.funs,I.ok.frf⟩,I.os,I.bare,I.base,I.loc,I.cell,I.free,I.freeC,λp hp=>I.pin p (h p hp),I.hok,I.len⟩
theorem SP.unmark{x:fh}(J:X.Ok){f:Flow}(h:SP (X.mark x) ff D f s):SP X ff D f s:=by
 cases f with
 |next=>clear 5 h σ' H' I q;exact⟨σ',H',I.unmark J,q⟩
 |brk=>clear 5 h σ' H' I q;exact⟨σ',H',I.unmark J,q⟩
 |cont=>clear 5 h σ' H' I q;exact⟨σ',H',I.unmark J,q⟩
 |ret u=>clear 5 h v σ' H' I r q;exact⟨v,σ',H',I.unmark J,r,q⟩
theorem HB{M:Model}{A:Around}{E:fg->fj->Prop}{i:Nat}{n:Str}{pos:Pos}{Q:Unit->fj->Prop}(I:Inv X ff σ H s)(hN:X.N.Nodup)(hi:X.N[i]?=some n)(hk:X.env.scope.names.lookup n=some .local)
 (h:∀s',Inv X ff (σ.set i none) H s'->Q () s'):wpAny M A (do bindName X.env n .none;unbindBehindTheSuite X.env n pos) Q E s:=by
 refine uo1 (wpAny_bindName (HA (v:=.non) I hN hi (.inl hk) rfl (λs1 I1=>?_) (.inr hk)));unfold unbindBehindTheSuite;have hiσ:i < σ.length:=by rw[I.len];exact(ua7.mp hi).1
 clear 5(id I1.loc)m hn hl;have hcls:(X.env.scope.kind==.class||(X.env.scope.kind==.module&&X.env.locals != X.env.globals))=false:=by rw[I.ok.kind];rfl
 obtain⟨u0,_,lk⟩:=hl i n .non hi (by rw[ub9 hiσ]) (.inl hk);have hv:m n=some u0:=by
  rcases lk with⟨_,e⟩|⟨k,_⟩
  .exact e
  .have k:X.env.scope.names.lookup n=some .cell\/X.env.scope.names.lookup n=some .free:=k;rw[hk] at k;rcases k with k|k<;>cases k
 refine wpAny_onRaise (wpAny_unbindName_local hk hn hv hcls λh' u hn' hs=>?_);have cne:=I1.cne;have tracked:HOk X.prog X.w H h':=λb ob e=>by
  refine(I1.hok b ob e).stay (λc w' hc q=>(hs.2 c ?_).trans q) (λ_ q=>q) λ_ _ q=>q;rintro rfl;rcases hc with rfl|hc
  .rw[I1.free] at e;cases e
  .rw[I1.free] at hc;cases hc
 have far:∀b o,X.s₀.heap.get? b=some o->b≠X.env.locals:=λb o e=>um4 (ue9 (um3 e) I1.ok.above);refine h _ ⟨I1.ok,I1.os,I1.bare,⟨λb o e n hb hx=>?_,λb o e n hb hx=>?_,I1.base.free,λb o e hx=>?_,I1.base.tups,I1.base.frzs,I1.base.tbls⟩,⟨_,hn',λj y v' e1 e2 e3=>?_⟩,λy c e=>?_,I1.free,I1.freeC,λp hp=>?_,tracked,by simpa using I.len⟩
 .exact(hs.2 b (far b o e)).trans (I1.base.keep b o e n hb hx)
 .clear 5(I1.base.slot b o e n hb hx)sl e1;exact⟨sl,(hs.2 b (far b o e)).trans e1⟩
 .clear 5(I1.base.there b o e hx)o' e1;exact⟨o',(hs.2 b (far b o e)).trans e1⟩
 .by_cases hj:j=i
  .subst hj;rw[ub9 hiσ] at e2
   cases e2
  .rw[ud7 (Ne.symm hj)] at e2;clear 5(hl j y v' e1 (by rw[ud7 (Ne.symm hj)];exact e2) e3)u' r' q;refine⟨u',r',?_⟩;rcases q with⟨k,e⟩|⟨k,c,e,z⟩
   .refine .inl ⟨k,?_⟩;have:y≠n:=λe=>hj (JA hN e1 (e ▸ hi));simp[this,e]
   .exact .inr ⟨k,c,e,z.sameBut hs (cne y c e)⟩
 .clear 5(I1.cell y c e)w' z;exact⟨w',z.sameBut hs (cne y c e)⟩
 .clear 5(I1.pin p hp)e n ne nf d;exact⟨(hs.2 p.1 ne).trans e,n,ne,nf,d⟩
end
def PH(qx:Bool)(X:Cx)(hs:List ExceptHandler)(th:fh->fh->Option fh->TS):Prop:=∀(ff:List (fh×Obj)) (s:fj) (σ:St) (H:Hp) (x C:fh) (dx:Option fh) (T:fh) (D:Ends),Inv X ff σ H s->XOn qx X ff H s x C dx (some T) .none->th x C dx D σ H->
 wpAny (model X.prog X.w) X.A (handleBy (.ref x) X.env hs) (SP X ff D) X.xe s
noncomputable def Ends.unset(D:Ends)(i:Nat):Ends:={nx:=λσ H=>D.nx (σ.set i none) H,rt:=D.rt,bk:=λσ H=>D.bk (σ.set i none) H,ct:=λσ H=>D.ct (σ.set i none) H}
section
variable{X:Cx}{n v:Str}{C':fh}{bm':List fg}{p pos:Pos}{b₀:Stmt}{suite:List Stmt}{rest:List ExceptHandler}{ts:fh->TS}{tr:fh->fh->Option fh->TS}{i:Nat}
def cz(K:fc)(C':fh)(i:Nat)(ts:fh->TS)(tr:fh->fh->Option fh->TS):fh->fh->Option fh->TS:=λx C dx D σ H=>∃bm,XCl K C bm/\
 if (Value.ref C::bm).contains (.ref C')=true then ts x (D.unset i) (σ.set i (some (.ref x))) H else tr x C dx D σ H
theorem au(hg:Gl X n)(hm:X.mg n=some (.ref C'))(c':XCl X.K C' bm')(hN:X.N.Nodup)(hi:X.N[i]?=some v)(hl:X.env.scope.names.lookup v=some .local)(hb:∀x,PSs (X.mark x) (b₀::suite) (ts x))(hr:PH qx X rest tr)
 (hdb:(n==("__debug__":Str))=false:=by decide):PH qx X (.ExceptHandler (some (.Name n p)) (some v) (b₀::suite) pos::rest) (cz X.K C' i ts tr):=by
 intro ff s σ H x C dx T D I o ⟨bm,c,q⟩;have Im:=I.mark x;refine wpAny_handleBy_cons (codeAny_handlers_test (ET Im hg hm ?_ hdb)) (by intro z;cases z)
 refine Na c c' I.kIn o.rc ?_
 cases hc:(Value.ref C::bm).contains (.ref C') with
 |false=>
   rw[hc,ia (by decide)] at q;exact hr ff s σ H x C dx T D I o q
 |true=>
   rw[hc,hX rfl] at q;refine codeAny_handlers_suite_as ?_;refine GV none I o (.inl rfl) λh1 I1 o1=>?_;refine HA (v:=.ref x) I1 hN hi (.inl hl) rfl (λs2 I2=>?_) (.inr hl);refine uo3 (hb x ff s2 _ H _ (I2.mark x) q) (λf s3 z=>?_) λ_ _ z=>z.elim;show wpAny _ _ _ _ _ _;have J:=I.ok
   cases f with
   |next=>clear 5 z σ' H' I' q';exact HB (I'.unmark J) hN hi hl λs4 I4=>⟨_,H',I4,q'⟩
   |brk=>clear 5 z σ' H' I' q';exact HB (I'.unmark J) hN hi hl λs4 I4=>⟨_,H',I4,q'⟩
   |cont=>clear 5 z σ' H' I' q';exact HB (I'.unmark J) hN hi hl λs4 I4=>⟨_,H',I4,q'⟩
   |ret u=>clear 5 z w σ' H' I' r q';exact HB (I'.unmark J) hN hi hl λs4 I4=>⟨w,_,H',I4,r,q'⟩
def cA(K:fc)(C':fh)(ts:TS)(tr:fh->fh->Option fh->TS):fh->fh->Option fh->TS:=λx C dx D σ H=>∃bm,XCl K C bm/\
 if (Value.ref C::bm).contains (.ref C')=true then ts D σ H else tr x C dx D σ H
theorem aw{ts:TS}(hg:Gl X n)(hm:X.mg n=some (.ref C'))(c':XCl X.K C' bm')(hb:∀x,PSs (X.mark x) (b₀::suite) ts)(hr:PH qx X rest tr)
 (hdb:(n==("__debug__":Str))=false:=by decide):PH qx X (.ExceptHandler (some (.Name n p)) none (b₀::suite) pos::rest) (cA X.K C' ts tr):=by
 intro ff s σ H x C dx T D I o ⟨bm,c,q⟩;have Im:=I.mark x;refine wpAny_handleBy_cons (codeAny_handlers_test (ET Im hg hm ?_ hdb)) (by intro z;cases z)
 refine Na c c' I.kIn o.rc ?_
 cases hc:(Value.ref C::bm).contains (.ref C') with
 |false=>
   rw[hc,ia (by decide)] at q;exact hr ff s σ H x C dx T D I o q
 |true=>
   rw[hc,hX rfl] at q;refine codeAny_handlers_suite ?_;refine GV none I o (.inl rfl) λh1 I1 o1=>?_;exact uo3 (hb x ff _ _ H _ (I1.mark x) q) (λf s3 z=>z.unmark I.ok) λ_ _ z=>z.elim
theorem Y7{body:List Stmt}{h₀:ExceptHandler}{hs:List ExceptHandler}{tb:(St->XK)->TS}{th:fh->fh->Option fh->TS}(h1:X.stack=X.env::X.outer)(h2:X.env.frame=some X.env.locals)
 (hb:∀(pn:List (fh×Obj)) (E:St->XK),PSs {X with pn:=pn,xe:=XE qx {X with pn:=pn} E} body (tb E)) (hh:PH qx X (h₀::hs) th) :
 PS X (.Try body (h₀::hs) [] [] pos) (λD σ H=>tb (λσ' v dx H'=>∀x C,v=.ref x->H' x=some (.ext (L2.XIs qx x C dx))->(∃h,L2.XIs qx x C dx h)->th x C dx D σ' H') D σ H):=by
 intro ff s σ H D I q;refine wpAny_Try_except ?_;refine uo3 (hb (X.pn++ff) _ [] s σ H D (I.repin λp hp=>by simpa using hp) q) (λf s1 z=>?_) λe s1 z=>?_
 .have back:∀{σ':St}{H':Hp},Inv {X with pn:=X.pn++ff,xe:=XE qx {X with pn:=X.pn++ff} (λσ' v dx H'=>∀x C,v=.ref x->H' x=some (.ext (L2.XIs qx x C dx))->(∃h,L2.XIs qx x C dx h)->th x C dx D σ' H')} [] σ' H' s1->Inv X ff σ' H' s1:=λJ=>J.repin (X:={X with pn:=X.pn++ff,xe:=_}) (pn':=X.pn) (pins':=ff) (xe:=X.xe) λp hp=>by simpa using hp
  cases f with
  |next=>clear 5 z σ' H' J q';exact gE ⟨σ',H',back J,q'⟩
  |brk=>clear 5 z σ' H' J q';exact⟨σ',H',back J,q'⟩
  |cont=>clear 5 z σ' H' J q';exact⟨σ',H',back J,q'⟩
  |ret u=>clear 5 z w σ' H' J r q';exact⟨w,σ',H',back J,r,q'⟩
 .clear 5 z pins' σ' H' x C dx T fl rfl J o q';have J1:Inv X ff σ' H' s1:=J.repin (X:={X with pn:=X.pn++ff}) (pn':=X.pn) (pins':=ff) (xe:=X.xe) λp hp=>by
   simp only[ui6] at hp⊢;exact .inl hp
  have o1:XOn qx X ff H' s1 x C dx T fl:=⟨o.hx,o.nx,o.rc,λa e=>by
   obtain⟨z1,z2,z3,⟨y1,y2,y3⟩,z5⟩:=o.tb a e;exact⟨z1,z2,z3,⟨y1,y2,λp hp=>y3 p (by simp only[ui6] at hp⊢;exact .inl hp)⟩,z5⟩,o.fo⟩
  refine JB J1.ok.frames J1 h1 h2 o1 λh' a I' o'=>GV none I' o' (.inl rfl) λh'' I'' o''=>?_;exact hh ff _ σ' H' x C dx a D I'' o'' (q' x C rfl o.hx ⟨_,o.rc.is⟩)
end
end
section
variable{qx:Bool}
noncomputable def Ba:D->Bool
 |.exc _ _=>true
 |_=>false
def exE(E:XK)(v:V)(H:Hp):Prop:=∀x dx,v=.ref x->E (.ref x) dx H
section
variable(K:fc)
inductive RX(E:L2.St->XK)(f:M D)(σ:L2.St)(H:Hp)(Q:VK):Prop where
 |mk (Oo:fh->Prop) (c:Cf) (t:T) (fi:FInv K Oo c t σ H) (r:D) (t':T) (e:f t=some (r,t')) (k:∀v H' c',FInv K Oo c' t' σ H'->Stp Oo c H c' H'->Rep K c' H' v r->if Ba r=true then exE (E σ) v H' else Q v H'):RX E f σ H Q
def μX(E:XK):Cf->Hp->D->(V->Hp->Prop)->Prop:=λc H r rt=>∀v,Rep K c H v r->if Ba r=true then exE E v H else rt v H
inductive RSX(E:L2.St->XK)(f:M Out)(D:Ends)(σ:L2.St)(H:Hp):Prop where
 |mk (Oo:fh->Prop) (c:Cf) (t:T) (fi:FInv K Oo c t σ H) (o:Out) (t':T) (e:f t=some (o,t')) (k:∀σ' H' c',FInv K Oo c' t' σ' H'->Stp Oo c H c' H'->
 match (generalizing:=false) o with
 |.next=>D.nx σ' H'
 |.brk=>D.bk σ' H'
 |.cont=>D.ct σ' H'
 |.ret r=>∀v,Rep K c' H' v r->if Ba r=true then exE (E σ') v H' else D.rt v H'):RSX E f D σ H
inductive spX(f:Fn)(vs:List V)(H:Hp)(Q:VK)(E:XK):Prop where
 |mk (c:Cf) (ds:List D) (S:List Ob) (si:SInv K c S H) (rs:Reps K c H vs ds) (r:D) (S':List Ob) (e:f ds S=some (r,S')) (k:∀v H' c',SInv K c' S' H'->Stp c.O c H c' H'->(∀b,c'.O b↔c.O b)->Rep K c' H' v r->if Ba r=true then exE E v H' else Q v H'):spX f vs H Q E
end
def eI(g:Fn):Fn:=λds S=>match g ds S with
 |some (r,S')=>if Ba r=true then none else some (r,S')
 |none=>none
variable{x:Str}{fa:fh}{fd:ft}
section
variable{P:fk}{w:fq}{K:fc}{mg:Str->Option fg}{base:Heap}
theorem VD{qual:Str}{st:Stmt}{N ps:List Str}{k n m:Nat}{g:M Out}(e1:ps.length=n)(e2:N.length=m)(F:Fun K x qual st fa fd)(S:FnScope N ps (AF st))
 (hb:∀(cdv:fg) (A:Around) (outer:List Env) (s:fj) (H:Hp) (E:XK),Room k (A.deeper (PyProof.Rows.envOfC qual (AF st) s.heap.objs.size fa cdv))->
   FM (CX1 qx P w) (cxX qx P w K mg base N qual (AF st) fa cdv A outer s H E) (λ_=>E)->JK qx (cxX qx P w K mg base N qual (AF st) fa cdv A outer s H E) (λ_=>E)->
   PassesOwn (model P w) (cxX qx P w K mg base N qual (AF st) fa cdv A outer s H E).A (cxX qx P w K mg base N qual (AF st) fa cdv A outer s H E).env (cxX qx P w K mg base N qual (AF st) fa cdv A outer s H E).xe->
   PSs (cxX qx P w K mg base N qual (AF st) fa cdv A outer s H E) (CN st) (RSg K (μX K E) g)):FnOk P w K mg base (CX1 qx P w) (k+1) fa fd ps (spX K (fnOf n m g)):=by
 subst e1 e2;have hlen:∀{ds:List D}{S:List Ob}{z:D×List Ob},fnOf ps.length N.length g ds S=some z->ds.length=ps.length:=λ{ds S z} h=>by
  unfold fnOf at h
  split at h
  .next h1=>exact h1
  .cases h
 refine F.okX S (λvs H Q E h=>?_) (λcdv A outer s H vs Q E hr h=>?_)
 .obtain⟨c,ds,S,si,rs,r,S',e,_⟩:=h;rw[rs.length];exact hlen e
 clear 5 h c ds S0 si rs r S' e kk;refine⟨RSg K (μX K E) g,hb cdv A outer s H E hr XE.pass XE.raises (XE.own rfl rfl),?_⟩;have hl:=hlen e;unfold fnOf at e;rw[hX hl] at e
 cases eg:g ⟨env0 N.length ds,S0⟩ with
 |none=>rw[eg] at e;cases e
 |some p=>
   clear 5 p o t;rw[eg] at e;refine⟨c.O,c,_,Hi si rs,o,t,eg,λσ' H' c' f' s'=>?_⟩;clear 5 f'.leave si' ext';have st':Stp c.O c H ⟨c'.ι,c.O⟩ H':=⟨s'.ext.trans ext',s'.oo⟩
   cases o with
   |next=>cases e;exact kk .non H' _ si' st' (λ_=>hV) .non
   |ret d=>cases e;exact λv rv=>kk v H' _ si' st' (λ_=>hV) (rv.mono ext')
   |brk=>cases e
   |cont=>cases e
theorem WW{ps:List Str}{k:Nat}{f g:Fn}(e:f=g)(h:FnOk P w K mg base (CX1 qx P w) k fa fd ps (spX K g)):FnOk P w K mg base (CX1 qx P w) k fa fd ps (spX K f):=by rw[e];exact h
end
variable{f g:M D}{r:D}
section
variable{X:Cx}{e a b:Expr}{es:List Expr}{pos:Pos}{E:L2.St->XK}{st:Stmt}
theorem Mj{E:XK}{f:M Out}(h:PS X st (RSX X.K (λ_=>E) f)):PS X st (RSg X.K (μX X.K E) f):=AU h λD σ H z9=>by
 clear 5 z9 Oo c t fi o t' eq k;refine⟨Oo,c,t,fi,o,t',eq,λσ' H' c' f' s'=>?_⟩;have q:=k σ' H' c' f' s'
 cases o<;>exact q
theorem VQ{k:Nat}{ps:List Str}{g:Fn}{f:M (List D)}{p:Pos}(F:FnOk X.prog X.w X.K X.mg X.base (CX1 qx X.prog X.w) k fa fd ps (spX X.K g))(hr:Room k X.A)(hg:Gl X x)(hm:X.mg x=some (.ref fa))(hk:PySem.W.keepIn X.K (.ref fa)=true)(hb:Binds X.K fd ps [])
 (hx:FM (CX1 qx X.prog X.w) X E) (ha:PA X (e::es) (RA X.K f)) (hdb:(x==("__debug__":Str))=false:=by decide) (h1:AY e=false:=by rfl) (h2:A4 es=true:=by rfl) :
 PE X (.Call (.Name x p) (e::es) [] pos) (RX X.K E (Ah g f)):=
 AH (Uc F hr hg hm hk hb hx ha hdb (A5 h1) (AW h2).1) λσ H Q z9=>by
  clear 5 z9 Oo c t fi r t' eq kk;clear 5(Af eq)ds t1 e1 eq;clear 5(HN eq)S' e2 rfl;refine⟨Oo,c,t,fi,ds,t1,e1,λvs H1 c1 f1 s1 rvs=>?_⟩;refine⟨c1,ds,t1.S,f1.s,rvs,r,S',e2,λv H' c' si st ho rv=>?_⟩;clear 5(f1.after si st ho)f2 s2;exact kk v H' c' f2 (s1.trans s2) rv
def nxD(f:M D):M D:=bnd f λd=>if Ba d=true then fail else ret d
theorem Nl{t t':T}(h:nxD f t=some (r,t')):f t=some (r,t')/\Ba r=false:=by
 clear 5(Af h)d t1 e1 h
 by_cases hx:Ba d=true
 .rw[hX hx] at h;cases h
 .rw[ia hx] at h;cases h;exact⟨e1,by simpa using hx⟩
theorem Rn{A B:Prop}(h:Ba r=false)(q:if Ba r=true then A else B):B:=by rw[ia (by rw[h];decide)] at q;exact q
def KO(g:M D)(h:D->M D):M D:=bnd g λy=>if Ba y=true then ret y else nxD (h y)
theorem RX.bind{K:fc}{h:D->M D}{σ:L2.St}{H:Hp}{Q:VK}{Oo:fh->Prop}{c:Cf}{t t':T}(fi:FInv K Oo c t σ H)(eq:KO g h t=some (r,t'))
 (k:∀v H' c',FInv K Oo c' t' σ H'->Stp Oo c H c' H'->Rep K c' H' v r->if Ba r=true then exE (E σ) v H' else Q v H'){R:V->Hp->Prop}
 (s:∀y dy t1 H1 c1,FInv K Oo c1 t1 σ H1->Stp Oo c H c1 H1->Rep K c1 H1 y dy->h dy t1=some (r,t')->(∀v H' c',FInv K Oo c' t' σ H'->Stp Oo c1 H1 c' H'->Rep K c' H' v r->Q v H')->R y H1):RX K E g σ H R:=by
 clear 5(Af eq)dy t1 e1 eq;refine⟨Oo,c,t,fi,dy,t1,e1,λy H1 c1 f1 s1 ry=>?_⟩
 by_cases hx:Ba dy=true
 .rw[hX hx] at eq⊢
  cases eq
  have:=k y H1 c1 f1 s1 ry;rw[hX hx] at this;exact this
 .rw[ia hx] at eq⊢;clear 5(Nl eq)e2 e3;exact s y dy t1 H1 c1 f1 s1 ry e2 λv H' c' f' s' rv=>Rn e3 (k v H' c' f' (s1.trans s') rv)
def IN(f g:M D)(h:D->D->M D):M D:=bnd f λx=>KO g λy=>h x y
theorem RX.two{K:fc}{h:D->D->M D}{R:R2}(s:A6 K R h){σ:L2.St}{H:Hp}{Q:VK}(q:RX K E (IN f g h) σ H Q):tOp R (RE K f) (RX K E g) σ H Q:=by
 clear 5 q Oo c t fi r t' eq k;clear 5(Af eq)dx t1 e1 eq;refine⟨Oo,c,t,fi,dx,t1,e1,λx H1 c1 f1 s1 rx=>?_⟩;exact RX.bind f1 eq (λv H' c' f' s' rv=>k v H' c' f' (s1.trans s') rv) λy dy t2 H2 c2 f2 s2 ry e2 kk=>s f2 (rx.mono s2.ext) ry e2 kk
theorem ad{op:Operator}{R:R2}{h:D->D->M D}(ho:OpR X (binaryOp op) R)(s:A6 X.K R h)(ha:PE X a (RE X.K f))(hb:PE X b (RX X.K E g)):PE X (.BinOp a op b pos) (RX X.K E (IN f g h)):=
 AH (Qh ho ha hb) λ_ _ _ q=>RX.two s q
def d7(f g:M D)(h:D->D->M D):M D:=KO f λx=>bnd g λy=>h x y
def dR(g:Fn)(f:M D):M D:=KO f λd t=>match g [d] t.S with
 |some (r,S')=>some (r,{t with S:=S'})
 |none=>none
theorem OB(h:PE X e (RX X.K E f)):PS X (.Return (some e) pos) (RSX X.K E (Al f)):=
 AU (Iu h) λD σ H z9=>by
  clear 5 z9 Oo c t fi o t' eq k;clear 5(Af eq)d t1 e1 eq
  cases eq
  exact⟨Oo,c,t,fi,d,_,e1,λv H1 c1 f1 s1 rv=>k σ H1 c1 f1 s1 v rv⟩
def D2(i:Nat)(f:M D):M Out:=bnd f λd=>if Ba d=true then ret (.ret d) else bnd (Ao i d) λ_=>ret .next
theorem OC{i:Nat}{pos':Pos}(hN:X.N.Nodup)(hi:X.N[i]?=some x)(hx:Loc X.env.scope x)(he:PE X e (RX X.K E f))(hs:swapsWith e (some (.Name x pos')) pos.line X.env=pure false:=by rfl)(hf:X.fn x=true\/X.env.scope.names.lookup x=some .local:=by walk_at"h") :
 PS X (.Assign [.Name x pos'] e pos) (RSX X.K E (D2 i f)):=AU (Nu hN hi hx he hs hf) λD σ H z9=>by
 clear 5 z9 Oo c t fi o t' eq k;clear 5(Af eq)d t1 e1 eq;refine⟨Oo,c,t,fi,d,t1,e1,λv H1 c1 f1 s1 rv=>?_⟩
 by_cases hx:Ba d=true
 .rw[hX hx] at eq⊢
  cases eq
  have:=k σ H1 c1 f1 s1 v rv;rw[hX hx] at this;exact this
 .rw[ia hx] at eq⊢
  cases eq
  exact k _ H1 c1 (f1.set rv) s1
def d6(f:M D):M Out:=bnd f λd=>if Ba d=true then ret (.ret d) else ret .next
def eD(f:M D)(g:D->M Unit):M Out:=bnd f λd=>if Ba d=true then ret (.ret d) else bnd (g d) λ_=>ret .next
theorem TM{f:M Out}(h:PS X st (RSX X.K E f)):PSs X [st] (RSX X.K E f):=OV h
end
end
structure XGet(K:fc)(C:fh):Prop where
 ga:findIn K (.ref C) "__getattribute__" = some (some (.builtin "BaseException.__getattribute__"))
 gt:findIn K (.ref C) "__getattr__" = some none
 mb:mroIn K C (.type "BaseException")=some true
 mo:mroIn K C (.type "object")=some true
 hd:hasDictIn K C=true
section
variable{prog:fk}{w:fq}{A:Around}{E:fg->fj->Prop}{s:fj}{K:fc}{x C:fh}{ox:Obj}{od:Option Obj}{name:Str}{tk:Tok}{Q:fg->fj->Prop}{R:Result->fj->Prop}
end
section
variable{qx:Bool}
abbrev BB:List Str:=["Short", "Broken"]
structure XM(K:fc)(mg:Str->Option fg)(P:fh)(ca:Str->fh):Prop where
 pm:mg "ParleyError" = some (.ref P)
 pc:XCl K P VE
 ns:∀n∈BB,nsIn K mainGlobals n=some (some (.ref (ca n)))
 ms:∀n∈BB,mg n=some (.ref (ca n))
 cl:∀n∈BB,XCl K (ca n) (.ref P::VE)
 inj:∀n∈BB,∀m∈BB,ca n=ca m->n=m
 np:∀n∈BB,ca n≠P
 kp:∀n∈BB,keepIn K (.ref (ca n))=true
 gt:∀n∈BB,XGet K (ca n)
 gc:∀n∈BB,findIn K (.ref (ca n)) "__class__" = some (some (.builtin "object.__class__"))
 na:∀n∈BB,findIn K (.ref (ca n)) "at" = some none
 nd:∀n∈BB,findIn K (.ref (ca n)) "side" = some none
noncomputable def GA(n m:Str):Bool:=m == "ParleyError" || m == "ValueError" || n==m
theorem HR{a b:fh}{r:List fg}:(Value.ref a::r).contains (.ref b)=(a==b||r.contains (.ref b)):=by
 rw[List.contains_cons]
 congr 1
 by_cases h:a=b
 .subst h;simp
 .rw[gp.mpr h,gp.mpr (λz:Value.ref b=Value.ref a=>h (Value.ref.inj z).symm)]
theorem XF{b:fh}:VE.contains (.ref b)=false:=rfl
section
variable{K:fc}{mg:Str->Option fg}{P:fh}{ca:Str->fh}
theorem XM.subE(x:XM K mg P ca){n m:Str}(hn:n∈BB)(hm:m∈BB):(Value.ref (ca n)::.ref P::VE).contains (.ref (ca m))=GA n m:=by
 rw[HR,HR,XF,gp.mpr (Ne.symm (x.np m hm)),ul4,ul4];have h1:(m==("ParleyError":Str))=false/\(m==("ValueError":Str))=false:=by
  simp only[BB,ul2,ui0,hJ] at hm;rcases hm with rfl|rfl<;>exact⟨by decide,by decide⟩
 unfold GA;rw[h1.1,h1.2,gJ,gJ]
 by_cases h:n=m
 .subst h;rw[ui5,ui5]
 .rw[gp.mpr h,gp.mpr λz=>h (x.inj n hn m hm z)]
theorem XM.of(x:XM K mg P ca){n:Str}{C:fh}(hn:n∈BB)(h:nsIn K mainGlobals n=some (some (.ref C))):C=ca n:=by
 rw[x.ns n hn] at h;injection h with h;injection h with h;injection h with h
 exact h.symm
end
theorem Xw{q1 q2:Bool}{x C C':fh}{dx dx':Option fh}(h:XIs q1 x C dx=XIs q2 x C' dx')(e:∃h,XIs q1 x C dx h):C=C'/\dx=dx':=by
 clear 5 e hh o vs e1 e2 e3 e4;have q:XIs q2 x C' dx' hh:=by rw[<-h];exact⟨o,vs,e1,e2,e3,e4⟩
 clear 5 q o' vs' q1 q2 q3 q4;rw[e1] at q1;cases q1
 rw[e2] at q2;cases q2
 exact⟨rfl,e3.symm.trans q3⟩
section
variable{X:Cx}{e:Expr}{es:List Expr}{pos p pos2:Pos}{E:L2.St->XK}{P:fh}{ca:Str->fh}
def dX(n:Str)(f:M (List D)):M Out:=bnd f λds=>match ds with
 |[d]=>ret (.ret (.exc n [d]))
 |_=>fail
def XN0(K:fc)(C:fh):Prop:=∃cd,clsIn K C=some cd/\nsIn K cd.ns "__init__" = some none
def Iv(n:Str)(f:M (List D)):M Out:=bnd f λds=>if ds.length<=1000 then ret (.ret (.exc n [])) else fail
theorem Rc{n:Str}{f:M (List D)}(x:XM X.K X.mg P ca)(hn:n∈BB)(hf:TD n=[])(xn:XN0 X.K (ca n))(hc:X.calm=true)(hx:JK qx X E)(hg:Gl X n)(ha:PA X (e::es) (RA X.K f))
 (hdb:(n==("__debug__":Str))=false:=by decide) (h1:AY e=false:=by rfl) (h2:A4 es=true:=by rfl):PS X (.Raise (some (.Call (.Name n p) (e::es) [] pos)) none pos2) (RSX X.K E (Iv n f)):=by
 clear 5 xn cd hcd hni;refine AU (Uj hc (x.cl n hn) hx (WE (x.cl n hn) (x.kp n hn) hcd hni hg (x.ms _ hn) ha hdb (A5 h1) (AW h2).1)) λD σ H z9=>?_;clear 5 z9 Oo c t fi o t' eq k;clear 5(Af eq)ds t1 e1 eq;refine⟨Oo,c,t,fi,ds,t1,e1,λvs H1 c1 f1 s1 rvs=>?_⟩
 split at eq
 .next hl=>
  cases eq
  refine⟨by rw[rvs.length];exact hl,λy hy=>?_⟩;have f3:=f1.laid (o:=.ext (XIs qx y (ca n) none)) hy;exact k σ _ c1 f3 (s1.trans (f1.stp_laid hy)) (.ref y) (.exc (x.ns _ hn) AL (f1.s.free hy) (vs:=[]) rfl .nil) y none rfl
 .cases eq
end
section
variable{X:Cx}{pos p:Pos}{P:fh}{ca:Str->fh}{μ:Cf->Hp->D->(V->Hp->Prop)->Prop}
inductive RH(K:fc)(ca:Str->fh)(μ:Cf->Hp->D->(V->Hp->Prop)->Prop)(h:D->M Out)(x C:fh)(dx:Option fh)(E:Ends)(σ:L2.St)(H:Hp):Prop where
 | mk (Oo:fh->Prop) (c:Cf) (t:T) (n:Str) (ds:List D) (fi:FInv K Oo c t σ H) (hn:n∈BB) (hC:C=ca n) (rp:Rep K c H (.ref x) (.exc n ds)) (o:Out) (t':T) (e:h (.exc n ds) t=some (o,t')) (k:∀σ' H' c',FInv K Oo c' t' σ' H'->Stp Oo c H c' H'->
   match (generalizing:=false) o with
   |.next=>E.nx σ' H'
   |.brk=>E.bk σ' H'
   |.cont=>E.ct σ' H'
   |.ret r=>μ c' H' r E.rt):RH K ca μ h x C dx E σ H
noncomputable def unE(i:Nat)(t:T):T:={t with env:=t.env.set i none}
theorem FInv.unset{K:fc}{Oo:fh->Prop}{c:Cf}{t:T}{σ:L2.St}{H:Hp}(f:FInv K Oo c t σ H)(i:Nat):FInv K Oo c (unE i t) (σ.set i none) H:=by
 have neq:∀{j:Nat}{x:Sl},(t.env.set i none)[j]?=some (some x)->j≠i/\t.env[j]?=some (some x):=λ{j x} q=>by
  by_cases h:j=i
  .subst h;rw[ug5] at q
   split at q
   .split at q
    .injection q with q;cases q
    .cases q
   .next h1=>exact absurd rfl h1
  .rw[ud7 (Ne.symm h)] at q;exact⟨h,q⟩
 refine⟨f.s,by simp[unE,f.len],f.sub,λj e q=>?_,λj ds q=>?_,λj k ds es a q1 q2 q3 q4=>?_⟩
 .clear 5(neq q)h q;clear 5(f.val j e q)u h1 h2;exact⟨u,by rw[ud7 (Ne.symm h)];exact h1,h2⟩
 .clear 5(neq q)h q;clear 5(f.own j ds q)a vs h1 h2;exact⟨a,vs,by rw[ud7 (Ne.symm h)];exact h1,h2⟩
 .clear 5(neq q1)h q1;clear 5(neq q2)h' q2;rw[ud7 (Ne.symm h)] at q3;rw[ud7 (Ne.symm h')] at q4;exact f.inj j k ds es a q1 q2 q3 q4
def hAs(n':Str)(i:Nat)(s:M Out)(r:D->M Out):D->M Out:=λe t=>match e with
 | .exc n ds=>if GA n n'=true then (match s { t with env:=t.env.set i (some (.val (.exc n ds))) } with
   |some (o,t2)=>some (o,unE i t2)
   |none=>none) else r (.exc n ds) t
 |_=>none
def hNo(n':Str)(s:M Out)(r:D->M Out):D->M Out:=λe t=>match e with
 |.exc n ds=>if GA n n'=true then s t else r (.exc n ds) t
 |_=>none
noncomputable def Yp:D->M Out:=λ_ _=>none
theorem Yd:PH qx X [] (RH X.K ca μ Yp):=by
 rintro _ _ _ _ _ _ _ _ _ _ _ ⟨_,_,_,_,_,_,_,_,_,_,_,e,_⟩
 cases e
theorem Z6{n' v:Str}{C':fh}{bm':List fg}{i:Nat}{b₀:Stmt}{suite:List Stmt}{rest:List ExceptHandler}{s:M Out}{r:D->M Out}(x:XM X.K X.mg P ca)(hg:Gl X n')(hm:X.mg n'=some (.ref C'))(c':XCl X.K C' bm')(hs:∀n∈BB,(Value.ref (ca n)::.ref P::VE).contains (.ref C')=GA n n')
 (hN:X.N.Nodup) (hi:X.N[i]?=some v) (hl:X.env.scope.names.lookup v=some .local) (hb:∀x,PSs (X.mark x) (b₀::suite) (RSg X.K μ s)) (hr:PH qx X rest (RH X.K ca μ r)) (hdb:(n'==("__debug__":Str))=false:=by decide) :
 PH qx X (.ExceptHandler (some (.Name n' p)) (some v) (b₀::suite) pos::rest) (RH X.K ca μ (hAs n' i s r)):=by
 intro ff s0 σ H y C dx T D I o q;refine au hg hm c' hN hi hl hb hr hdb ff s0 σ H y C dx T D I o ?_;clear 5 q Oo c t n ds fi hn rfl rv o1 t' eq k;refine⟨_,x.cl n hn,?_⟩;rw[hs n hn];unfold hAs at eq;dsimp only at eq
 by_cases hb':GA n n'=true
 .rw[hX hb'] at eq⊢
  cases e1:s {t with env:=t.env.set i (some (.val (.exc n ds)))} with
  |none=>rw[e1] at eq;cases eq
  |some z=>
    clear 5 z o2 t2;rw[e1] at eq
    cases eq
    refine⟨Oo,c,_,fi.set rv,o1,t2,e1,λσ' H' c2 f2 s2=>?_⟩;have:=k _ H' c2 (f2.unset i) s2
    cases o1<;>exact this
 .rw[ia hb'] at eq⊢;exact⟨Oo,c,t,n,ds,fi,hn,rfl,rv,o1,t',eq,k⟩
theorem Z7{n':Str}{C':fh}{bm':List fg}{b₀:Stmt}{suite:List Stmt}{rest:List ExceptHandler}{s:M Out}{r:D->M Out}(x:XM X.K X.mg P ca)(hg:Gl X n')(hm:X.mg n'=some (.ref C'))(c':XCl X.K C' bm')(hs:∀n∈BB,(Value.ref (ca n)::.ref P::VE).contains (.ref C')=GA n n')
 (hb:∀x,PSs (X.mark x) (b₀::suite) (RSg X.K μ s)) (hr:PH qx X rest (RH X.K ca μ r)) (hdb:(n'==("__debug__":Str))=false:=by decide) :
 PH qx X (.ExceptHandler (some (.Name n' p)) none (b₀::suite) pos::rest) (RH X.K ca μ (hNo n' s r)):=by
 intro ff s0 σ H y C dx T D I o q;refine aw hg hm c' hb hr hdb ff s0 σ H y C dx T D I o ?_;clear 5 q Oo c t n ds fi hn rfl rv o1 t' eq k;refine⟨_,x.cl n hn,?_⟩;rw[hs n hn];unfold hNo at eq;dsimp only at eq
 by_cases hb':GA n n'=true
 .rw [hX hb'] at eq ⊢;exact ⟨Oo,c,t,fi,o1,t',eq,λσ' H' c2 f2 s2=>by
   have:=k _ H' c2 f2 s2
   cases o1<;>exact this⟩
 .rw[ia hb'] at eq⊢;exact⟨Oo,c,t,n,ds,fi,hn,rfl,rv,o1,t',eq,k⟩
noncomputable def Ge(b:M Out)(h:D->M Out):M Out:=λt=>match b t with
 |some (.ret (.exc n ds),t1)=>if n∈BB then h (.exc n ds) t1 else none
 |z=>z
theorem Yj{body:List Stmt}{h₀:ExceptHandler}{hs:List ExceptHandler}{b:M Out}{h:D->M Out}(x:XM X.K X.mg P ca)(hμ:∀c H r rt,Ba r=false->(∀v,Rep X.K c H v r->rt v H)=μ c H r rt)(h1:X.stack=X.env::X.outer)(h2:X.env.frame=some X.env.locals)
 (hb:∀(pn:List (fh×Obj)) (E:L2.St->XK),FM (CX1 qx X.prog X.w) {X with pn:=pn,xe:=XE qx {X with pn:=pn} E} E->PSs {X with pn:=pn,xe:=XE qx {X with pn:=pn} E} body (RSX X.K E b)) (hh:PH qx X (h₀::hs) (RH X.K ca μ h)):PS X (.Try body (h₀::hs) [] [] pos) (RSg X.K μ (Ge b h)):=
 AU (Y7 h1 h2 (λpn E=>hb pn E (XE.pass (X:={X with pn:=pn}))) hh) λD σ H z9=>by
  clear 5 z9 Oo c t fi o t' eq k;unfold Ge at eq
  cases e1:b t with
  |none=>rw[e1] at eq;cases eq
  |some z=>
    clear 5 z o1 t1;rw[e1] at eq;refine⟨Oo,c,t,fi,o1,t1,e1,λσ1 H1 c1 f1 s1=>?_⟩
    cases o1 with
    |next=>cases eq;exact k σ1 H1 c1 f1 s1
    |brk=>cases eq;exact k σ1 H1 c1 f1 s1
    |cont=>cases eq;exact k σ1 H1 c1 f1 s1
    |ret r=>
      intro v rv
      cases hx:Ba r with
      |false=>
        rw[ia (by decide)];have eq':some (Out.ret r,t1)=some (o,t'):=by cases r<;>first|exact eq|cases hx
        cases eq'
        have q:=k σ1 H1 c1 f1 s1;have q:μ c1 H1 r D.rt:=q;rw[<-hμ _ _ _ _ hx] at q;exact q v rv
      |true=>
        rw[hX rfl];intro y dx hv y' C hy' hC hex
        cases rv with
        |@exc q0 x0 C0 dx0 n vs ds g hx0 hA fl rs=>
          cases hv
          cases hy'
          dsimp only at eq
          split at eq
          .next hn=>
           rw[hx0] at hC;injection hC with hC;injection hC with hC
           clear 5(Xw hC.symm hex)e2 e3;have:=x.of hn g;exact⟨Oo,c1,t1,n,ds,f1,hn,e2.trans this,.exc g hx0 hA fl rs,o,t',eq,λσ' H' c' f' s'=>k σ' H' c' f' (s1.trans s')⟩
          .cases eq
        |_=>cases hx
end
end
section
variable{qx:Bool}
def eH(n:Str):D->M D
 |.exc m _=>if m∈BB then ret (.bl (GA m n)) else fail
 |.non=>ret (.bl false)
 |.bl _=>ret (.bl false)
 |.int _=>ret (.bl false)
 |.str _=>ret (.bl false)
 |.lst _=>ret (.bl false)
 |.tup _=>ret (.bl false)
 |.dic=>ret (.bl false)
 |_=>fail
section
variable{X:Cx}{P:fh}{ca:Str->fh}{a:Expr}{f:M D}{p pos q:Pos}
def eE(nm:Str):D->M D
 | .exc n ds=>if n∈BB then (match ((TD n).zip ds).lookup nm with
   |some d=>ret d
   |none=>fail) else fail
 |_=>fail
end
end
section
variable{qx:Bool}
def QF(K:fc)(P c:fh):Bool:=Mq K c (.ref P::VE)&&keepIn K (.ref c)&&findIn K (.ref c) "__getattribute__" == some (some (.builtin "BaseException.__getattribute__"))&&findIn K (.ref c) "__getattr__" == some none&&mroIn K c (.type "BaseException")==some true
 && mroIn K c (.type "object")==some true&&hasDictIn K c&&findIn K (.ref c) "__class__" == some (some (.builtin "object.__class__"))&&findIn K (.ref c) "at" == some none&&findIn K (.ref c) "side" == some none
structure XOne(K:fc)(P c:fh):Prop where
 cl:XCl K c (.ref P::VE)
 kp:keepIn K (.ref c)=true
 gt:XGet K c
 gc:findIn K (.ref c) "__class__" = some (some (.builtin "object.__class__"))
 na:findIn K (.ref c) "at" = some none
 nd:findIn K (.ref c) "side" = some none
variable{K:fc}
theorem Po{P c:fh}(h:QF K P c=true):XOne K P c:=by
 unfold QF at h;simp only[uh5,gS] at h;obtain⟨⟨⟨⟨⟨⟨⟨⟨⟨h1,h2⟩,h3⟩,h4⟩,h5⟩,h6⟩,h7⟩,h8⟩,h9⟩,h10⟩:=h;exact⟨.of_in h1,h2,⟨h3,h4,h5,h6,h7⟩,h8,h9,h10⟩
noncomputable def ML(c1 c2:fh):Str->fh:=λn=>if n = "Short" then c1 else c2
theorem CL{Q:Str->Prop}(h1:Q "Short")(h2:Q "Broken"):∀n∈BB,Q n:=by
 intro n hn;simp only[BB,ul2,ui0,hJ] at hn;rcases hn with rfl|rfl<;>assumption
def QE(K:fc)(P:fh)(cs:List fh):Bool:=Mq K P VE&&cs.all (QF K P)
theorem bE{h:Heap}{mg:Str->Option fg}{P c1 c2:fh}(X:K.In h)(G:h.Ns mainGlobals mg)(p:nsIn K mainGlobals "ParleyError" = some (some (.ref P)))(a1:nsIn K mainGlobals "Short" = some (some (.ref c1)))(a2:nsIn K mainGlobals "Broken" = some (some (.ref c2)))(q:QE K P [c1,c2]=true)(nd:[P,c1,c2].Nodup):XM K mg P (ML c1 c2):=by
 unfold QE at q;simp only[ul6,List.all_nil,gK,uh5] at q;clear 5 q q0 q1 q2;have o1:=Po q1;have o2:=Po q2;have inj:∀n∈BB,∀m∈BB,ML c1 c2 n=ML c1 c2 m->n=m:=by
  simp only[uj1,ul2,ui0,hJ,not_or,List.nodup_nil,and_true] at nd;obtain⟨⟨n1,n2⟩,m12,_⟩:=nd;have h1:ML c1 c2 "Short" = c1:=rfl;have h2:ML c1 c2 "Broken" = c2:=rfl;refine CL ?_ ?_<;>refine CL ?_ ?_<;>intro e<;>first|rfl|(exfalso;rw[h1] at e)|(exfalso;rw[h2] at e)
  all_goals (first|rw[h1] at e|rw[h2] at e)
  all_goals (first|contradiction|(have e:=e.symm;contradiction))
 refine⟨mg_of X G p,.of_in q0,CL a1 a2,CL (mg_of X G a1) (mg_of X G a2),CL o1.cl o2.cl,inj,?_,
  CL o1.kp o2.kp,CL o1.gt o2.gt,CL o1.gc o2.gc,CL o1.na o2.na,CL o1.nd o2.nd⟩
 simp only[uj1,ul2,ui0,hJ,not_or] at nd;obtain⟨⟨n1,n2⟩,_⟩:=nd;exact CL (Ne.symm n1) (Ne.symm n2)
noncomputable def J3(s:Stmt)(k:Nat):Stmt:=match s with
 |.ClassDef _ _ _ body _ _ _ _ _ _ _=>body.getD k (.Pass ⟨0,0,0,0⟩)
 |_=>.Pass ⟨0,0,0,0⟩
noncomputable def Nf(K:fc)(C:fh):Bool:=match clsIn K C with
 |some cd=>nsIn K cd.ns "__init__" == some none
 |none=>false
theorem ZV{C:fh}(h:Nf K C=true):XN0 K C:=by
 unfold Nf at h
 split at h
 .next cd e=>exact⟨cd,e,gS.mp h⟩
 .cases h
end
inductive Kd where
 |pl|fr|ex|er
abbrev okK(k:Kd)(P:fk)(w:fq)(K:fc)(mg:Str->Option fg)(base:Heap)(n:Nat)(fa:fh)(fd:ft)(ps:List Str)(f:Fn):Prop:=match k with
 |.pl=>FnOk P w K mg base CX0 n fa fd ps (spF K f)
 |.fr=>FnOk P w K mg base CX0 n fa fd ps (spFF K f)
 |.ex=>FnOk P w K mg base (CX1 true P w) n fa fd ps (spX K f)
 |.er=>FnOk P w K mg base (CX1 false P w) n fa fd ps (spX K f)
section
variable{X:Cx}{e a b:Expr}{pos:Pos}{f g:M D}
theorem OA{E:XK}(h:PE X e (RE X.K f)):PS X (.Return (some e) pos) (RSg X.K (μX X.K E) (Al (nxD f))):=
 AU (Iu h) λD σ H z9=>by
  clear 5 z9 Oo c t fi o t' eq k;clear 5(Af eq)d t1 e1 eq
  cases eq
  clear 5(Nl e1)e2 e3;exact⟨Oo,c,t,fi,d,_,e2,λv H1 c1 f1 s1 rv=>Rn e3 (k σ H1 c1 f1 s1 v rv)⟩
end
theorem YI{K:fc}:∀(c:Cf) (H:Hp) (r:D) (rt:V->Hp->Prop),Ba r=false->(∀v,Rep K c H v r->rt v H)=μR K c H r rt:=λ_ _ _ _ _=>rfl
section
variable{qx:Bool}
section
variable{X:Cx}{P:fh}{ca:Str->fh}{a:Expr}{es:List Expr}{f:M D}{p pos q:Pos}{i:Nat}{ns:List Str}
end
end
section
variable{qx:Bool}
section
variable{prog:fk}{w:fq}{A:Around}{s:fj}{K:fc}{x C P dx:fh}{ox:Obj}{od:Option Obj}{R:Result->fj->Prop}{name:Str}{v:fg}{tk:Tok}{cd:ClassData}
end
section
variable{X:Cx}{k:Nat}{f C P:fh}{fd:ft}{ff:List (fh×Obj)}{σ:St}{H:Hp}{s:fj}{Q:fg->fj->Prop}{us:List fg}{vs:List V}{a b:Str}{ps:List Str}{v v2:V}{u u2:fg}
end
section
variable{X:Cx}{k:Nat}{f C P:fh}{fd:ft}{a b:Str}{ps:List Str}{n:Str}{p pos:Pos}{e e':Expr}
end
end
section
variable{qx:Bool}
section
variable{X:Cx}{e e':Expr}{pos p pos2:Pos}{E:L2.St->XK}{P:fh}{ca:Str->fh}
def dY(n:Str)(f:M (List D)):M Out:=bnd f λds=>match ds with
 |[d,d']=>ret (.ret (.exc n [d,d']))
 |_=>fail
end
end
section
variable{X:Cx}{a b:Expr}{pos:Pos}
end
section
variable{prog:fk}{w:fq}{A:Around}{E:fg->fj->Prop}{env:Env}{K:fc}{C:fh}{bm:List fg}{s:fj}
end
section
variable{X:Cx}{ff:List (fh×Obj)}{σ:St}{H:Hp}{s s':fj}{qx:Bool}{x C:fh}{dx T:Option fh}{fl:fg}
end
section
variable{X:Cx}{n v:Str}{C' C2:fh}{bm' bm2:List fg}{p pos p2:Pos}{e cN:Expr}{rest:List ExceptHandler}{t:St->Hp->(fh->Option fh->Hp->Prop)->Prop}{tr:fh->fh->Option fh->TS}{i:Nat}{E:St->XK}
end
structure FnOkH(P:fk)(w:fq)(K:fc)(mg:Str->Option fg)(base:Heap)(CX:CXT)(k:Nat)(f:fh)(fd:ft)(ps:List Str)(sp:Sp):Prop where
 len:∀vs H Q E,sp vs H Q E->vs.length=ps.length
 run:∀(z:fh) (A:Around) (outer:List Env) (s:fj) (H:Hp) (args:Args) (us:List fg) (vs:List V) (Q:VK) (E:XK),Room k A->Env0 P w K mg base A outer s H->BindsTo s fd args (ps.zip us)->Vals vs us->sp vs H Q E->
  codeAny (model P w) (A.mark (some (.ref z))) (.call (.ref f) args) (CR CX outer P w H s Q E) s
section
variable{qx:Bool}{X:Cx}{k:Nat}{f C P:fh}{fd:ft}{ff:List (fh×Obj)}{σ:St}{H:Hp}{s:fj}{Q:fg->fj->Prop}{us:List fg}{vs:List V}{a b:Str}{ps:List Str}{v v2:V}{u u2:fg}{n:Str}{p pos:Pos}{e e':Expr}
end
section
variable{X:Cx}{pos p p2 p3 p4:Pos}{P:fh}{ca:Str->fh}{E:XK}{e e' cN:Expr}
end
section
variable{prog:fk}{w:fq}{A:Around}{E:fg->fj->Prop}{s:fj}
variable{I:fh}{fp wr:List fh}{G:Array GenState->Array GenState->Prop}{n:Nat}{P:Nat->fg->Prop}{St:Nat->fj->Prop}
def dM(prog:fk)(w:fq)(h:Heap)(no:List fh)(k:Key)(x v:fg):Prop:=∃(p:fh) (o:Obj) (kv:fg) (q:Nat),v=.ref p/\p∉no/\h.get? p=some o/\o.cls=.type "tuple"/\o.data=.seq #[kv,x] q/\(CQ prog w).is k kv=true
end
section
variable{X:Cx}
end
section
variable{X:Cx}{pos:Pos}{e:Expr}
end
section
variable{X:Cx}
end
section
variable{K:fc}
end
section
variable{X:Cx}{pos:Pos}{e:Expr}
end
section
variable{X:Cx}
end
def CM(K:fc):Prop:=∀n∈KW,∀C,nsIn K mainGlobals n=some (some (.ref C))->Cls K C/\∀f∈atN,NoAttr K C f
noncomputable def F8(f:Str)(v:D):List (Str×D)->List (Str×D)
 |[]=>[(f,v)]
 |(g,x)::r=>if g=f then(g,v)::r else(g,x)::F8 f v r
section
variable{K:fc}{c:Cf}{H:Hp}
theorem FldR.len:∀{us:List (Str×V)}{fs:List (Str×D)},FldR K c H us fs->us.length=fs.length
 |_,_,.nil=>rfl
 |_,_,.cons _ t=>by rw[uh1,uh1,FldR.len t]
theorem FldR.look{f:Str}{d:D}:∀{us:List (Str×V)}{fs:List (Str×D)},FldR K c H us fs->fs.lookup f=some d->∃v,us.lookup f=some v/\Rep K c H v d
 |_,_,.nil,e=>by cases e
 |(g,x)::us,(g',y)::fs,.cons ⟨h1,h2⟩ t,e=>by
   have h1:g=g':=h1;subst h1
   by_cases q:(f==g)=true
   .simp only[List.lookup,q] at e⊢
    cases e
    exact⟨_,rfl,h2⟩
   .have q:(f==g)=false:=by simpa using q
    simp only[List.lookup,q] at e⊢;exact FldR.look t e
theorem FldR.none{f:Str}:∀{us:List (Str×V)}{fs:List (Str×D)},FldR K c H us fs->(∀p∈fs,p.1≠f)->us.lookup f=none
 |_,_,.nil,_=>rfl
 |(g,x)::us,(g',y)::fs,.cons ⟨h1,h2⟩ t,e=>by
   have h1:g=g':=h1;subst h1;have q:(f==g)=false:=by
    have:=e (g,y) (.head _);simpa using λz:f=g=>this z.symm
   simp only[List.lookup,q];exact FldR.none t λp hp=>e p (.tail _ hp)
theorem FldR.put{f:Str}{v:V}{d:D}(r:Rep K c H v d):∀{us:List (Str×V)}{fs:List (Str×D)},FldR K c H us fs->FldR K c H (Da f v us) (F8 f d fs)
 |_,_,.nil=>.cons ⟨rfl,r⟩ .nil
 |(g,x)::us,(g',y)::fs,.cons ⟨h1,h2⟩ t=>by
   have h1:g=g':=h1;subst h1;show FldR K c H (if g=f then(g,v)::us else(g,x)::Da f v us) (if g=f then(g,d)::fs else(g,y)::F8 f d fs)
   by_cases q:g=f
   .rw[hX q,hX q];exact .cons ⟨rfl,r⟩ t
   .rw[ia q,ia q];exact .cons ⟨rfl,h2⟩ (FldR.put r t)
theorem FldR.mono{c':Cf}{H':Hp}(e:Ext c H c' H'){us:List (Str×V)}{fs:List (Str×D)}(h:FldR K c H us fs):FldR K c' H' us fs:=Paired.mapP h λ_ _ z=>⟨z.1,z.2.mono e⟩
theorem OX{f:Str}{v:D}(hf:f∈atN):∀{fs:List (Str×D)},(∀p∈fs,p.1∈atN)->∀p∈F8 f v fs,p.1∈atN
 |[],_=>λp hp=>by rw[show F8 f v []=[(f,v)] from rfl,uf5] at hp;subst hp;exact hf
 |(g,x)::r,h=>λp hp=>by
   rw[show F8 f v ((g,x)::r)=(if g=f then(g,v)::r else(g,x)::F8 f v r) from rfl] at hp
   split at hp
   .rcases ul2.mp hp with e|e
    .subst e;exact h (g,x) (.head _)
    .exact h p (.tail _ e)
   .rcases ul2.mp hp with e|e
    .subst e;exact h (g,x) (.head _)
    .exact OX hf (λp hp=>h p (.tail _ hp)) p e
end
noncomputable def FX{α:Type}(d:D)(h:Nat->Str->List (Str×D)->M α):M α:=λt=>match d with
 |.obj k=>match t.S[k]? with
   |some (.ins n fs)=>h k n fs t
   |_=>none
 |_=>none
theorem Ib{α:Type}{d:D}{h:Nat->Str->List (Str×D)->M α}{t:T}{z:α×T}(e:FX d h t=some z):∃k n fs,d=.obj k/\t.S[k]?=some (.ins n fs)/\h k n fs t=some z:=by
 cases d with
 |obj k=>
   rw[show FX (.obj k) h t=(match t.S[k]? with|some (.ins n fs)=>h k n fs t|_=>none) from rfl] at e
   cases es:t.S[k]? with
   |none=>rw[es] at e;cases e
   |some o=>
     rw[es] at e
     cases o with
     |ins n fs=>exact⟨k,n,fs,rfl,es,e⟩
     |_=>cases e
 |_=>cases e
def Dz(f:Str)(a:M D):M D:=bnd a λd=>FX d λ_ _ fs t=>(fs.lookup f).map λv=>(v,t)
def Fl(f:Str)(gv ga:M D):M Out:=bnd gv λv=>bnd ga λd=>FX d λk n fs t=>if fs.length<1000 then some (.next,{t with S:=t.S.set k (.ins n (F8 f v fs))}) else none
def Me(n:Str)(g:Fn)(f:M (List D)):M D:=bnd f λds t=>match g (.obj t.S.length::ds) (t.S++[.ins n []]) with
 |some (.non,S')=>some (.obj t.S.length,{t with S:=S'})
 |_=>none
def Ea(n:Str)(g:Fn)(o:M D)(f:M (List D)):M D:=bnd o λd=>FX d λ_ n' _=>if n'=n then bnd f λds t=>match g (d::ds) t.S with
 |some (r,S')=>some (r,{t with S:=S'})
 |none=>none else fail
theorem Lh{K:fc}{c:Cf}{H:Hp}{v:V}{k:Nat}(h:Rep K c H v (.obj k)):∃a,v=.ref a/\c.ι[k]?=some a:=by
 cases h with
 |obj e=>exact⟨_,rfl,e⟩
section
variable{X:Cx}{CX:CXT}{k:Nat}{f C:fh}{fd:ft}{ps:List Str}{sp:Sp}{E:St->XK}{x m:Str}{p pos apos:Pos}{e o:Expr}{es:List Expr}{ta:TE}{t:TA}
abbrev SU(X:Cx)(o:Expr)(m:Str)(es:List Expr)(apos pos:Pos)(pl:Sem Bool):Prop:=eval (.Call (.Attribute o m apos) es [] pos) X.env=(do
 let ov <-eval o X.env
 standAt apos.atName
 let (f,first) <-holding [ov] (getMethod ov m pl)
 callWith pos f first (backTo pos (starEach es X.env)) (backToKw pos (keywordEach [] X.env)))
structure ByCls(K:fc)(C:fh)(m:Str)(f:fh):Prop where
 ga:specialIn K (.ref C) "__getattribute__" = some (some (.builtin "type.__getattribute__"))
 rd:readsIn K C (.type "type")=true
 at_:(match findCls K (.ref C) (.type "type") m with|some (.val (.ref g))=>g==f|_=>false)=true
 kp:keepIn K (.ref f)=true
end
section
variable{n:Str}{h:Fn}
section
variable{X:Cx}{e o a value:Expr}{es:List Expr}{pos pos' apos p:Pos}{f:Str}{g gv ga:M D}{fl:M (List D)}{C:fh}
theorem X3(cm:CM X.K)(hf:f∈atN)(he:PE X e (RE X.K g))(hb:attributeBase e f X.env (eval e X.env)=eval e X.env):PE X (.Attribute e f pos) (RE X.K (Dz f g)):=
 AH (YY he hb) λσ H Q z9=>by
  clear 5 z9 Oo c t fi r t' eq kk;clear 5(Af eq)d t1 e1 eq;clear 5(Ib eq)k n fs rfl es eq;clear 5(uc2.mp eq)y e2 e3
  cases e3
  refine⟨Oo,c,t,fi,.obj k,_,e1,λv H1 c1 f1 s1 rv=>?_⟩;clear 5(Lh rv)b rfl hk;obtain⟨⟨hn,hat⟩,C,dx,us,g1,g2,g3⟩:=f1.s.obs k b _ hk es;clear 5(g3.look e2)w l1 l2;exact⟨b,C,dx,us,w,rfl,g2,(cm n hn C g1).1,(cm n hn C g1).2 f hf,l1,kk w H1 c1 f1 s1 l2⟩
theorem Yh{μ:Cf->Hp->D->(V->Hp->Prop)->Prop}(cm:CM X.K)(hf:f∈atN)(ha:PE X o (RE X.K ga))(hv:PE X value (RE X.K gv))(hs:swapsWith value (some (.Attribute o f pos')) pos.line X.env=pure false:=by rfl) :
 PS X (.Assign [.Attribute o f pos'] value pos) (RSg X.K μ (Fl f gv ga)):=
 AU (Y6 ha hv hs) λD σ H z9=>by
  clear 5 z9 Oo c t fi r t' eq kk;clear 5(Af eq)d t1 e1 eq;clear 5(Af eq)d2 t2 e2 eq;clear 5(Ib eq)k n fs rfl es eq
  split at eq
  .next hl=>
   cases eq
   refine⟨Oo,c,t,fi,d,t1,e1,λv H1 c1 f1 s1 rv=>⟨Oo,c1,t1,f1,.obj k,t2,e2,λx H2 c2 f2 s2 rx=>?_⟩⟩;clear 5(Lh rx)b rfl hk;obtain⟨⟨hn,hat⟩,C,dx,us,g1,g2,g3⟩:=f2.s.obs k b _ hk es;refine⟨b,C,dx,us,rfl,g2,(cm n hn C g1).1,(cm n hn C g1).2 f hf,by rw[g3.len];exact hl,?_⟩;obtain⟨f3,s3⟩:=f2.wrObj (o:=.ins n (F8 f d fs)) (u:=.ins C dx (Da f v us)) hk λc' H' ext hu=>⟨⟨hn,OX hf hat⟩,C,dx,_,g1,hu,(FldR.put (rv.mono s2.ext) g3).mono ext⟩;exact kk σ _ c2 f3 ((s1.trans s2).trans s3)
  .cases eq
theorem RC{ds:List D}{t:T}{r:D}{t':T}(e:(match h (.obj t.S.length::ds) (t.S++[.ins n []]) with|some (.non,S')=>some (.obj t.S.length,{t with S:=S'})|_=>none:Option (D×T))=some (r,t')) :
 ∃S',h (.obj t.S.length::ds) (t.S++[.ins n []])=some (.non,S')/\r=.obj t.S.length/\t' = {t with S:=S'}:=by
 split at e
 .next S' q=>cases e;exact⟨S',q,rfl,rfl⟩
 .cases e
theorem Vt{k:Nat}{fa:fh}{fd:ft}{ps:List Str}(hn:n∈KW)(hC:nsIn X.K mainGlobals n=some (some (.ref C)))(M:Mk X.K C fa)(F:FnOk X.prog X.w X.K X.mg X.base CX0 k fa fd ps (spF X.K h))(hr:Room (k+1) X.A)(hg:Gl X n)(hm:X.mg n=some (.ref C))(hb:Binds X.K fd ps [])
 (ha:PA X (e::es) (RA X.K fl)) (hdb:(n==("__debug__":Str))=false:=by decide) (h1:AY e=false:=by rfl) (h2:A4 es=true:=by rfl):PE X (.Call (.Name n p) (e::es) [] pos) (RE X.K (Me n h fl)):=
 AH (Wy M F hr hg hm hb .nil Mh ha hdb (A5 h1) (AW h2).1) λσ H Q z9=>by
  clear 5 z9 Oo c t fi r t' eq kk;clear 5(Af eq)ds t1 e1 eq;clear 5(RC eq)S' e2 rfl rfl;refine⟨Oo,c,t,fi,ds,t1,e1,λvs H1 c1 f1 s1 rvs x dx hx hdx ne=>?_⟩;rw[uj0];have f2:=f1.laid (p:=dx) (o:=.own x) hdx;have s2:=f1.stp_laid (p:=dx) (o:=.own x) hdx;have hx2:upd H1 dx (.own x) x=none:=by rw[Av (Ne.symm ne)];exact hx
  obtain⟨c3,f3,s3,e3⟩:=f2.newObj (o:=.ins n []) (u:=.ins C dx []) hx2 λc' H' ext hu=>⟨⟨hn,λp hp=>by cases hp⟩,C,dx,[],hC,hu,.nil⟩;refine⟨c3,.obj t1.S.length::ds,_,f3.s,.cons (.obj e3) ((rvs.mono s2.ext).mono s3.ext),.non,S',e2,λv H' c' si st ho rv=>?_⟩;clear 5(f3.after si st ho)f4 s4
  cases rv
  exact⟨rfl,kk _ H' c' f4 ((s1.trans s2).trans (s3.trans s4)) (.obj (st.ext.io _ _ e3))⟩
structure MAt(K:fc)(n m:Str)(C fa:fh):Prop where
 cl:n∈KW
 at_:nsIn K mainGlobals n=some (some (.ref C))
 me:Meth K C m fa
 na:m∉atN
theorem RD{d:D}{t:T}{r:D}{t':T}(e:FX d (λ_ n' _=>if n'=n then bnd fl λds t=>match h (d::ds) t.S with|some (r,S')=>some (r,{t with S:=S'})|none=>none else fail) t=some (r,t')) :
 ∃k fs ds t1 S',d=.obj k/\t.S[k]?=some (.ins n fs)/\fl t=some (ds,t1)/\h (d::ds) t1.S=some (r,S')/\t' = {t1 with S:=S'}:=by
 clear 5(Ib e)k n' fs rfl es q
 by_cases hn:n'=n
 .subst hn;rw[hX rfl] at q;clear 5(Af q)ds t1 e1 q;clear 5(HN q)S' e2 rfl;exact⟨k,fs,ds,t1,S',rfl,es,e1,e2,rfl⟩
 .rw[ia hn] at q;cases q
section
variable{k:Nat}{fa:fh}{fd:ft}{ps:List Str}{h:Fn}{n m:Str}{qx:Bool}{E:L2.St->XK}
theorem KZ{pl:Sem Bool}(cm:CM X.K)(ma:MAt X.K n m C fa)(F:FnOk X.prog X.w X.K X.mg X.base CX0 k fa fd ps (spF X.K h))(hr:Room k X.A)(hb:Binds X.K fd ps [])(he:PE X o (RE X.K g))(ha:PA X (e::es) (RA X.K fl))
 (h1:AY e=false:=by rfl) (h2:A4 es=true:=by rfl) (ht:SU X o m (e::es) apos pos pl:=by rfl):PE X (.Call (.Attribute o m apos) (e::es) [] pos) (RE X.K (Ea n h g fl)):=
 AH (Wz (pl:=pl) he (cm n ma.cl C ma.at_).1 ma.me F hr hb .nil Mh ha (A5 h1) (AW h2).1 ht) λσ H Q z9=>by
  clear 5 z9 Oo c t fi r t' eq kk;clear 5(Af eq)d t1 e1 eq;clear 5(RD eq)j fs ds t2 S' rfl es e2 e3 rfl;refine⟨Oo,c,t,fi,.obj j,t1,e1,λv H1 c1 f1 s1 rv=>?_⟩;clear 5(Lh rv)b rfl hk;obtain⟨⟨_,hat⟩,C',dx,us,g1,g2,g3⟩:=f1.s.obs j b _ hk es;rw[ma.at_] at g1
  cases g1
  refine⟨b,dx,us,rfl,g2,g3.none λp hp z=>ma.na (z ▸ hat p hp),Oo,c1,t1,f1,ds,t2,e2,λvs H2 c2 f2 s2 rvs=>?_⟩;show spF X.K h (V.ref b::(vs++[])) H2 Q E0;rw[uj0];refine⟨c2,.obj j::ds,t2.S,f2.s,.cons (.obj (s2.ext.io _ _ hk)) rvs,r,S',e3,λv H' c' si st ho rv=>?_⟩;clear 5(f2.after si st ho)f3 s3;exact kk v H' c' f3 ((s1.trans s2).trans s3) rv
end
end
variable{K:fc}
theorem YM{k:Kd}{P:fk}{w:fq}{mg:Str->Option fg}{base:Heap}{n:Nat}{fa:fh}{fd:ft}{ps:List Str}{f:Fn}(h:okK k P w K mg base n fa fd ps f):okK k P w K mg base (n+1) fa fd ps f:=by
 cases k<;>exact FnOk.mono h (un8 _)
def PF(K:fc)(C:fh):Bool:=plainGet K C Str.empty&&hasDictIn K C&&plainOver K C&&findIn K (.ref C) "__setattr__" == some (some (.builtin "object.__setattr__"))&&atN.all λf=>findIn K (.ref C) f==some none
theorem Vl{C:fh}(h:PF K C=true):Cls K C/\∀f∈atN,NoAttr K C f:=by
 unfold PF at h;simp only[uh5,gS,uh9] at h;obtain⟨⟨⟨⟨a,b⟩,c⟩,d⟩,e⟩:=h;exact⟨⟨a,b,c,d⟩,λf hf=>e f hf⟩
theorem ZZ(h:∀n∈KW,nsIn K mainGlobals n=some none\/∃C,nsIn K mainGlobals n=some (some (.ref C))/\PF K C=true):CM K:=λn hn C e=>by
 rcases h n hn with q|⟨C',q,b⟩
 .rw[e] at q;cases q
 .rw[e] at q;cases q;exact Vl b
noncomputable def P9(K:fc)(C:fh):Bool:=makesIn K C&&keepIn K (.ref C)
theorem al{C f:fh}(h:P9 K C=true)(i:findIn K (.ref C) "__init__" = some (some (.ref f)))(hf:isFn K (.ref f)=true):Mk K C f:=by
 unfold P9 at h;simp only[uh5] at h;exact⟨h.1,i,hf,h.2⟩
end
section
variable{K:fc}
def Hy:D->Option Int->Option Int->M D
 |.obj k,lo,hi=>λt=>match t.S[k]? with
   |some (.lst ds)=>some (.lst (AV ds lo hi),t)
   |_=>none
 |x,lo,hi=>Ci x lo hi
theorem Uw:Pw K (Uo K) Hy:=λ{Oo c t σ H x dx r lo hi t' Q} f rx eq k=>by
 unfold Hy at eq
 split at eq
 .next kk=>
  cases rx with
  |@obj a kk h1=>
    split at eq
    .next ds es=>
     cases eq
     clear 5(f.s.obs kk a _ h1 es)vs g1 g2;exact .inl (.inl ⟨a,vs,rfl,SqL.of g1,λq hq=>k _ _ c (f.laid hq) (f.stp_laid hq) (.lst AL (f.s.free hq) ((Ht g2 lo hi).mono (Ext.laid f.s hq)))⟩)
    .cases eq
 .exact Pa f rx eq k
end
abbrev Gd:=Option (Nat×List D)
def Gon(g:Gd)(S:List Ob):Prop:=∀k xs,g=some (k,xs)->S[k]?=some (.lst xs)
def chk(g:Gd):M Unit:=λt=>@ite _ (Gon g t.S) (Classical.propDecidable _) (some ((),t)) none
theorem EL{g:Gd}{t t':T}{u:Unit}(h:chk g t=some (u,t')):Gon g t.S/\t'=t:=by
 unfold chk at h
 split at h
 .next q=>cases h;exact⟨q,rfl⟩
 .cases h
theorem J0{g:Gd}{t:T}(h:Gon g t.S):chk g t=some ((),t):=by unfold chk;rw[hX h]
def compG(g:Gd)(st:D->M Unit)(tst:M Bool)(elt:M D):List D->M (List D)
 |[]=>bnd (chk g) λ_=>ret []
 |d::r=>bnd (chk g) λ_=>bnd (st d) λ_=>bnd tst λk=>if k=true then bnd elt λx=>bnd (compG g st tst elt r) λxs=>ret (x::xs) else compG g st tst elt r
def Ey(n:Nat)(fr:List Nat)(f:M (Gd×List D))(st:D->M Unit)(tst:M Bool)(elt:M D):M (List D):=bnd f λp t=>match compG p.1 st tst elt p.2 ⟨cenv n fr t.env,t.S⟩ with
 |some (xs,t')=>if xs.length<=LIM then some (xs,{t with S:=t'.S}) else none
 |none=>none
structure ItOk3(K:fc)(J:It)(g:Gd)(c:Cf)(H:Hp)(ds:List D):Prop where
 go:∀c' H' S' (i:Nat),Ext c H c' H'->SInv K c' S' H'->Gon g S'->i<ds.length->J.go i H'
 yld:∀c' H' S' (i:Nat) x H'' d,Ext c H c' H'->SInv K c' S' H'->Gon g S'->ds[i]?=some d->J.yld i H' x H''->∃p vs es,x=.ref p/\H' p=none/\H''=upd H' p (.tup vs)/\d=.tup es/\Reps K c' H' vs es
 stop:∀c' H' S',Ext c H c' H'->SInv K c' S' H'->Gon g S'->J.stop ds.length H'
inductive RI3(K:fc)(f:M (Gd×List D))(σ:L2.St)(H:Hp)(R:It->Hp->Prop):Prop where
 |mk (Oo:fh->Prop) (c:Cf) (t:T) (fi:FInv K Oo c t σ H) (p:Gd×List D) (t':T) (e:f t=some (p,t')) (k:∀J H' c',FInv K Oo c' t' σ H'->Stp Oo c H c' H'->ItOk3 K J p.1 c' H' p.2->R J H'):RI3 K f σ H R
section
variable{X:Cx}{e a b tg iter elt:Expr}{ifs:List Expr}{pos:Pos}{scope:Scope}{N':List Str}{n:Nat}{fr:List Nat}{st:D->M Unit}{tst:M Bool}{el:M D}
end
structure ItOkG(K:fc)(J:It)(g:Gd)(c:Cf)(H:Hp)(ds:List D):Prop where
 go:∀c' H' S' (i:Nat),Ext c H c' H'->SInv K c' S' H'->Gon g S'->i<ds.length->J.go i H'
 yld:∀c' H' S' (i:Nat) x H'' d,Ext c H c' H'->SInv K c' S' H'->Gon g S'->ds[i]?=some d->J.yld i H' x H''->H''=H'/\Rep K c' H' x d
 stop:∀c' H' S',Ext c H c' H'->SInv K c' S' H'->Gon g S'->J.stop ds.length H'
theorem ItOk.toG{K:fc}{J:It}{g:Gd}{c:Cf}{H:Hp}{ds:List D}(h:ItOk K J c H ds):ItOkG K J g c H ds:=
 ⟨λc' H' _ i e _ _=>h.go c' H' i e,λc' H' _ i x H'' d e _ _=>h.yld c' H' i x H'' d e,λc' H' _ e _ _=>h.stop c' H' e⟩
def RIG(K:fc)(f:M (Gd×List D)):TI:=λσ H R=>∃Oo c t,FInv K Oo c t σ H/\∃p t',f t=some (p,t')/\∀J H' c',FInv K Oo c' t' σ H'->Stp Oo c H c' H'->ItOkG K J p.1 c' H' p.2->R J H'
def forG(g:Gd)(st:D->M Unit)(b:M Out):List D->M Out
 |[]=>bnd (chk g) λ_=>ret .next
 |d::r=>bnd (chk g) λ_=>bnd (st d) λ_=>bnd b λo=>match o with
   |.next=>forG g st b r
   |.cont=>forG g st b r
   |.brk=>ret .next
   |.ret x=>ret (.ret x)
def E9(f:M (Gd×List D))(st:D->M Unit)(b:M Out):M Out:=bnd f λp=>forG p.1 st b p.2
theorem RS.forG{μ:Cf->Hp->D->(V->Hp->Prop)->Prop}{K:fc}{f:M (Gd×List D)}{st:D->M Unit}{b:M Out}{E:Ends}{σ:L2.St}{H:Hp}(q:RSg K μ (E9 f st b) E σ H):Qu (RIG K f) (RG K st) (RSg K μ b) E σ H:=by
 clear 5 q Oo c t fi o t' eq k;clear 5(Af eq)pg t1 e1 eq;refine⟨Oo,c,t,fi,pg,t1,e1,λJ H1 c1 f1 s1 it=>?_⟩;clear 5 pg g ds;dsimp only at eq it;refine⟨λi m σ' H'=>m=ds.length-i/\i<=ds.length/\∃c' t2,FInv K Oo c' t2 σ' H'/\Stp Oo c1 H1 c' H'/\L2.forG g st b (ds.drop i) t2=some (o,t'),⟨_,rfl,un7 _,c1,t1,f1,.refl,by rw[uk8];exact eq⟩,?_⟩;rintro i m σ' H' ⟨rfl,hi,c',t2,f2,s2,e2⟩
 by_cases hlt:i<ds.length
 .rw[ua9 hlt] at e2;unfold L2.forG at e2;clear 5(Af e2)u0 t0 e0 e2;clear 5(EL e0)hon ht0;rw[ht0] at e2;clear e0 ht0;refine .inr ⟨it.go c' H' _ i s2.ext f2.s hon hlt,λσ3 H3=>∃c3 t3,FInv K Oo c3 t3 σ3 H3/\Stp Oo c1 H1 c3 H3/\L2.forG g st b (ds.drop (i+1)) t3=some (o,t'),λσ3 H3 h=>⟨ds.length-(i+1),by lia,rfl,hlt,h⟩,λx H'' hy=>?_⟩;clear 5(it.yld c' H' _ i x H'' _ s2.ext f2.s hon (ub2 hlt) hy)rfl rx;clear 5(Af e2)u t3 e3 e2;clear 5(Af e2)o4 t4 e4 e2;refine⟨Oo,c',t2,_,f2,rx,t3,e3,λσ3 H3 c3 f3 s3=>?_⟩;refine⟨Oo,c3,t3,f3,o4,t4,e4,λσ5 H5 c5 f5 s5=>?_⟩;have s':=(s2.trans s3).trans s5
  cases o4 with
  |next=>exact⟨c5,t4,f5,s',e2⟩
  |cont=>exact⟨c5,t4,f5,s',e2⟩
  |brk=>cases e2;exact k σ5 H5 c5 f5 (s1.trans s')
  |ret r=>cases e2;exact k σ5 H5 c5 f5 (s1.trans s')
 .have hi':i=ds.length:=by lia
  subst hi';rw[uh7] at e2;unfold L2.forG at e2;clear 5(Af e2)u0 t0 e0 e2;clear 5(EL e0)hon ht0;rw[ht0] at e2;clear e0 ht0
  cases e2
  exact .inl ⟨it.stop c' H' _ s2.ext f2.s hon,k σ' H' c' f2 (s1.trans s2)⟩
theorem RF.compG{K:fc}{n:Nat}{fr:List Nat}{f:M (Gd×List D)}{st:D->M Unit}{tst:M Bool}{elt:M D}{σ:L2.St}{H:Hp}{Q:VK}(q:RF K (Ey n fr f st tst elt) σ H Q):Kv (RIG K f) (RG K st) (RT K tst) (RE K elt) (Dw n fr) σ H Q:=by
 clear 5 q Oo c t fi xs t' eq k;clear 5(Af eq)pg t1 e1 eq;refine⟨Oo,c,t,fi,pg,t1,e1,λJ H1 c1 f1 s1 it=>?_⟩;clear 5 pg g ds;dsimp only at eq it
 cases e3:L2.compG g st tst elt ds ⟨cenv n fr t1.env,t1.S⟩ with
 |none=>rw[e3] at eq;cases eq
 |some p=>
   clear 5 p ys t3;rw[e3] at eq;dsimp only at eq
   split at eq
   case isFalse=>cases eq
   next hl=>
   cases eq
   refine⟨λi m acc σ' H'=>m=ds.length-i/\i<=ds.length/\∃c' t2 zs rest,FInv K c1.O c' t2 σ' H'/\Stp c1.O c1 H1 c' H'/\Reps K c' H' acc zs/\L2.compG g st tst elt (ds.drop i) t2=some (rest,t3)/\xs=zs++rest,
    ⟨_,rfl,un7 _,c1,_,[],xs,Hh f1,.refl,.nil,by rw[uk8];exact e3,rfl⟩,?_⟩
   rintro i m acc σ' H' ⟨rfl,hi,c',t2,zs,rest,f2,s2,ra,e2,ez⟩;have hacc:acc.length<=sizeLine:=by
    have:zs.length<=xs.length:=by rw[ez,uf3];exact uh8 _ _
    rw[ra.length];exact um5 this (um5 hl B6)
   refine⟨hacc,?_⟩
   by_cases hlt:i<ds.length
   .rw[ua9 hlt] at e2;unfold L2.compG at e2;clear 5(Af e2)u0 t0 e0 e2;clear 5(EL e0)hon ht0;rw[ht0] at e2;clear e0 ht0;refine .inr ⟨it.go c' H' _ i s2.ext f2.s hon hlt,λx H'' hy=>?_⟩;clear 5(it.yld c' H' _ i x H'' _ s2.ext f2.s hon (ub2 hlt) hy)rfl rx;clear 5(Af e2)u t4 e4 e2;clear 5(Af e2)kb t5 e5 e2;refine⟨c1.O,c',t2,_,f2,rx,t4,e4,λσ3 H3 c3 f3 s3=>⟨c1.O,c3,t4,f3,kb,t5,e5,λH4 c4 f4 s4=>?_⟩⟩
    cases kb with
    |false=>
      rw[ia uf1] at e2⊢;exact⟨ds.length-(i+1),by lia,rfl,hlt,c4,t5,zs,rest,f4,(s2.trans s3).trans s4,ra.mono (s3.trans s4).ext,e2,ez⟩
    |true=>
      rw[hX rfl] at e2⊢;clear 5(Af e2)x6 t6 e6 e2;clear 5(Af e2)r7 t7 e7 e2
      cases e2
      refine⟨c1.O,c4,t5,f4,x6,t6,e6,λv H5 c5 f5 s5 rv=>?_⟩;exact⟨ds.length-(i+1),by lia,rfl,hlt,c5,t6,zs++[x6],r7,f5,((s2.trans s3).trans s4).trans s5,(ra.mono ((s3.trans s4).trans s5).ext).append (.cons rv .nil),e7,by rw[ez,ug3];rfl⟩
   .have hi':i=ds.length:=by lia
    subst hi';rw[uh7] at e2;unfold L2.compG at e2;clear 5(Af e2)u0 t0 e0 e2;clear 5(EL e0)hon ht0;rw[ht0] at e2;clear e0 ht0
    cases e2
    refine .inl ⟨it.stop c' H' _ s2.ext f2.s hon,λp hp _=>?_⟩;clear 5 f2.leave si ext;clear 5(f1.after si ⟨s2.ext.trans ext,s2.oo⟩ (λ_=>hV))f6 s6;rw[uj0] at ez;subst ez;exact k p acc H' _ f6 (s1.trans s6) (ra.mono ext) hp
def Ke:D->M (Gd×List D)
 |.obj k=>λt=>match t.S[k]? with
   |some (.lst ds)=>some ((some (k,ds),ds),t)
   |_=>none
 |d=>bnd (D7 d) λds=>ret (none,ds)
def Js(f:M D):M (Gd×List D):=bnd f Ke
theorem ItOkG.lst{K:fc}{g:Gd}{c:Cf}{H:Hp}{p:fh}{ds:List D}(r:∀c' H' S',Ext c H c' H'->SInv K c' S' H'->Gon g S'->∃vs,SqL K H' p vs/\Reps K c' H' vs ds):ItOkG K (Itl K p) g c H ds:=by
 refine⟨λc' H' S' i ex si on hi=>?_,λc' H' S' i x H'' d ex si on hd hy=>?_,λc' H' S' ex si on=>?_⟩
 .clear 5(r c' H' S' ex si on)vs h1 h2;obtain⟨v,e,_⟩:=h2.at (ub2 hi);exact⟨vs,v,h1,e⟩
 .clear 5(r c' H' S' ex si on)vs h1 h2;clear 5 hy rfl hx;exact⟨rfl,h2.get (hx vs h1) hd⟩
 .clear 5(r c' H' S' ex si on)vs h1 h2;exact⟨vs,h1,by rw[h2.length];exact un6 _⟩
section
variable{X:Cx}{e a b tg iter elt:Expr}{ifs:List Expr}{pos:Pos}{scope:Scope}{N':List Str}{n:Nat}{fr:List Nat}{st:D->M Unit}{tst:M Bool}{el:M D}
theorem VI{μ:Cf->Hp->D->(V->Hp->Prop)->Prop}{body:List Stmt}{f:M (Gd×List D)}{b:M Out}(hp:PassesOwn (model X.prog X.w) X.A X.env X.xe)(hc:X.calm=true)(hi:PI X tg iter (RIG X.K f))(hg:PG X tg (RG X.K st))(hb:PSs X body (RSg X.K μ b))
 (hs:∀x,foldedSetIterable iter X.env x=pure x:=by intro _;rfl):PS X (.For tg iter body [] pos) (RSg X.K μ (E9 f st b)):=
 AU (Nt hp hc hi hg hb hs) λ_ _ _ q=>RS.forG q
theorem MU{f:M (Gd×List D)}(O:CmpOk X scope N' (Dw n fr))(hc:X.calm=true)(hi:PI X tg iter (RIG X.K f))
 (hg:∀cl C s2 H2 fp,PG (A0 X N' scope cl C s2 H2 fp) tg (RG X.K st)) (ht:∀cl C s2 H2 fp,PIf (A0 X N' scope cl C s2 H2 fp) ifs (RT X.K tst)) (he:∀cl C s2 H2 fp,PE (A0 X N' scope cl C s2 H2 fp) elt (RE X.K el))
 (hs:∀x,foldedSetIterable iter X.env x=pure x:=by intro _;rfl):PE X (.ListComp elt [⟨tg,iter,ifs,0⟩] scope pos) (RF X.K (Ey n fr f st tst el)):=
 AH (Lb O hc hi hg ht he hs) λ_ _ _ q=>RF.compG q
theorem Vw{f:M D}(h:PE X e (RE X.K f)):PI X tg e (RIG X.K (Js f)):=
 GD (Sb h) λσ H R z=>by
  clear 5 z Oo c t fi ds t' eq k;clear 5(Af eq)d t1 e1 eq;refine⟨Oo,c,t,fi,d,t1,e1,λv H1 c1 f1 s1 rv=>?_⟩
  cases rv with
  |@obj a kk hk=>
    unfold Ke at eq;dsimp only at eq
    split at eq
    .next es hS=>
     cases eq
     clear 5(f1.s.obs kk a _ hk hS)ws g1 g3;refine .inl ⟨a,rfl,⟨ws,SqL.of g1⟩,k _ H1 c1 f1 s1 (ItOkG.lst λc' H' S' ex si on=>?_)⟩;clear 5(si.obs kk a _ (ex.io _ _ hk) (on kk es rfl))us q1 q2;exact⟨us,SqL.of q1,q2⟩
    .cases eq
  |@lst p vs ds' h1 h2 h3=>
    cases eq
    exact .inl ⟨p,rfl,⟨vs,SqL.of h1⟩,k _ H1 c1 f1 s1 (ItOk.toG (ItOk.lst λc' H' ex=>⟨vs,SqL.of (ex.keep _ _ h1 h2),h3.mono ex⟩))⟩
  |@scr p ns h1=>
    cases eq
    exact .inl ⟨p,rfl,⟨_,h1.sq⟩,k _ H1 c1 f1 s1 (ItOk.toG (ItOk.lst λc' H' ex=>⟨_,(h1.mono ex).sq,Reps.ints ns⟩))⟩
  |@tup p vs ds' h1 h2 h3=>
    cases eq
    exact .inr (.inl ⟨p,rfl,⟨vs,SqT.of h1⟩,k _ H1 c1 f1 s1 (ItOk.toG (ItOk.tup λc' H' ex=>⟨vs,SqT.of (ex.keep _ _ h1 h2),h3.mono ex⟩))⟩)
  |str x=>
    cases eq
    exact .inr (.inr ⟨x,rfl,k _ H1 c1 f1 s1 (ItOk.toG ItOk.str)⟩)
  |_=>cases eq
end
noncomputable def AT(S:List Ob):Nat->D->D
 |0,d=>d
 |n+1,.obj k=>match S[k]? with
   |some (.lst ds)=>.lst (ds.map (AT S n))
   |_=>.obj k
 |n+1,.tup ds=>.tup (ds.map (AT S n))
 |n+1,.lst ds=>.lst (ds.map (AT S n))
 |_+1,d=>d
def eqO(g:Bool->Bool)(x y:D):M D:=λt=>if (Be (AT t.S 16 x)&&Be (AT t.S 16 y))=true then(eqN EQD (AT t.S 16 x) (AT t.S 16 y)).map λb=>(.bl (g b),t) else none
theorem JF{K:fc}{c:Cf}{S:List Ob}{H:Hp}(s:SInv K c S H):∀(n:Nat){v:V}{d:D},Rep K c H v d->Be (AT S n d)=true->Rep K c0 H v (AT S n d)
 |0,v,d,r,p=>D8 r (by simpa only[AT] using p)
 |n+1,v,d,r,p=>by
   have row:∀{vs:List V}{ds:List D},Reps K c H vs ds->E1 (ds.map (AT S n))=true->Reps K c0 H vs (ds.map (AT S n)):=by
    intro vs ds q
    induction ds generalizing vs with
    |nil=>intro _;cases q;exact .nil
    |cons d ds ih=>
      intro p
      cases q with
      |cons a b=>
        rw[ul3,E1,uh5] at p;exact .cons (JF s n a p.1) (ih b p.2)
   cases r with
   |@obj a k hk=>
     unfold AT at p⊢
     split
     .next ds e=>
      rw[e] at p;clear 5(s.obs k a _ hk e)vs h1 h2;exact .lst h1 (HL _) (row h2 (by simpa[Be] using p))
     .next h=>
      split at p
      .next ds e=>exact absurd e (h ds)
      .simp[Be] at p
   |tup h m q=>rw[AT] at p⊢;exact .tup h (HL _) (row q (by simpa only[Be] using p))
   |lst h m q=>rw[AT] at p⊢;exact .lst h (HL _) (row q (by simpa only[Be] using p))
   |non=>exact .non
   |bl b=>exact .bl b
   |int b=>exact .int b
   |str b=>exact .str b
   |ty b=>exact .ty b
   |scr h=>exact D8 (c:=c) (.scr h) p
   |dic h n=>exact D8 (.dic h n) p
   |exc a b n f q=>exact D8 (.exc a b n f q) p
theorem WY{K:fc}{g:Bool->Bool}:A6 K (Qn K g) (eqO g):=λ{Oo c t σ H x y dx dy r t' Q} f rx ry eq k=>by
 unfold eqO at eq
 split at eq
 .next hp=>
  rw[uh5] at hp;clear 5(uc2.mp eq)b e1 e2
  cases e2
  exact⟨c0,_,_,b,JF f.s 16 rx hp.1,JF f.s 16 ry hp.2,e1,k _ H c f .refl (.bl (g b))⟩
 .cases eq
def eF:List D->M D
 |[d,.tup [.ty m1,.ty m2]]=>λt=>match d with
   |.obj k=>match t.S[k]? with
     |some (.lst _)=>match FY "list" m1,FY "list" m2 with
       |some b1,some b2=>some (.bl (b1||b2),t)
       |_,_=>none
     |_=>none
   |d=>match tyD d with
     |some n=>match FY n m1,FY n m2 with
       |some b1,some b2=>some (.bl (b1||b2),t)
       |_,_=>none
     |none=>none
 |_=>fail
section
variable{X:Cx}{k:Nat}{f l I S:fh}{fd:ft}{ps:List Str}{sp:Sp}{ff:List (fh×Obj)}{σ:St}{H:Hp}{s:fj}{Q:VK}{oS oI oS' oI':Obj}{h':Heap}{t':Nat}
end
section
variable{K:fc}{g:Fn}
end
section
variable{K:fc}
section
variable{X:Cx}{e:Expr}{pos:Pos}
theorem NA{Oo:fh->Prop}{c:Cf}{t:T}{σ:L2.St}{H:Hp}{x:V}{dx:D}{xs:List D}(f:FInv K Oo c t σ H)(rx:Rep K c H x dx)(e:D1 t.S dx=.lst xs):∃a vs,x=.ref a/\H a=some (.lst vs)/\Reps K c H vs xs:=by
 cases rx with
 |@lst a vs ds h1 h2 h3=>
   cases e
   exact⟨a,vs,rfl,h1,h3⟩
 |@obj a kk hk=>
   unfold D1 at e;dsimp only at e
   split at e
   .next es=>
    cases e
    clear 5(f.s.obs _ a _ hk es)vs q1 q2;exact⟨a,vs,rfl,q1,q2⟩
   .cases e
 |_=>cases e
def JZ(x y:D):M (List D):=λt=>match D1 t.S x,D1 t.S y with
 |.lst xs,.lst ys=>lim (xs.length+ys.length) (xs++ys) t
 |_,_=>none
theorem Sv:L9 K Qm JZ:=λ{Oo c t σ H x y dx dy r t' Q} f rx ry eq k=>by
 unfold JZ at eq
 split at eq
 .next xs ys e1 e2=>
  clear 5(DE eq)h z
  cases z
  clear 5(NA f rx e1)a vs rfl h1 h3;clear 5(NA f ry e2)b ws rfl g1 g3;refine⟨a,b,vs,ws,rfl,rfl,h1,g1,?_,λp hp=>k p _ H c f .refl (h3.append g3) hp⟩;rw[h3.length,g3.length];exact um5 h B6
 .cases eq
end
section
variable{X:Cx}{e elt tg iter:Expr}{pos:Pos}{scope:Scope}{N':List Str}{ifs:List Expr}{n:Nat}{fr:List Nat}{f:M (List D)}{st:D->M Unit}{tst:M Bool}{el:M D}
theorem RF.ofObj{f:M (List D)}{σ:L2.St}{H:Hp}{Q:VK}(q:RE K (CA f) σ H Q):RF K f σ H Q:=by
 clear 5 q Oo c t fi r t' eq k;clear 5(Af eq)ds t1 e1 eq
 cases eq
 refine⟨Oo,c,t,fi,ds,_,e1,λp xs H1 c1 f1 s1 rxs hp=>?_⟩;obtain⟨c2,f2,s2,e2⟩:=f1.newObj (o:=.lst ds) (u:=.lst xs) hp λc' H' ex hu=>⟨xs,hu,rxs.mono ex⟩;exact k _ _ c2 f2 (s1.trans s2) (.obj e2)
end
section
variable{X:Cx}{e:Expr}
end
end
section
variable{X:Cx}{e el eu ek:Expr}{p2 pos:Pos}{te:TE}{tl tu tk:TO}
end
section
variable{X:Cx}{elt tg iter:Expr}{pos:Pos}{scope:Scope}{N':List Str}{ifs:List Expr}{n:Nat}{fr:List Nat}{st:D->M Unit}{tst:M Bool}{el:M D}
end
section
variable{X:Cx}{pos:Pos}
end
abbrev EnO(h:Heap)(e it:fh)(i:Int)(x:fg)(a:fh)(q:Bool):Prop:=h.get? e=some {cls:=.type "enumerate",dict:=none,data:=.fields #[rawInt a,.bool q,.ref it,rawInt i,.none,x],slots:=#[]}
section
variable{prog:fk}{w:fq}{A:Around}{E:fg->fj->Prop}{s:fj}
end
inductive EnS(h:Heap)(e it:fh)(i:Nat):Prop where
 |new (old:fg) (z:i=0) (h1:IsEnum h e it i old)
 |out (old:fg) (a0:fh) (q:Bool) (h1:EnO h e it i old a0 q)
section
variable{A:Around}{s:fj}
end
theorem VJ{X:Cx}{elt tg iter:Expr}{pos:Pos}{scope:Scope}{N':List Str}{ifs:List Expr}{n:Nat}{fr:List Nat}{st:D->M Unit}{tst:M Bool}{el:M D}{f:M (List D)}{μ:Cf->Hp->D->(V->Hp->Prop)->Prop}{i:Nat}{y:Str}{py spos:Pos}(O:CmpOk X scope N' (Dw n fr))(hc:X.calm=true)(hN:X.N.Nodup)(hiN:X.N[i]?=some y)(hx:X.env.scope.names.lookup y=some .local)(hi:PI X tg iter (RI X.K f))
 (hg:∀cl C s2 H2 fp,PG (A0 X N' scope cl C s2 H2 fp) tg (RG X.K st)) (ht:∀cl C s2 H2 fp,PIf (A0 X N' scope cl C s2 H2 fp) ifs (RT X.K tst)) (he:∀cl C s2 H2 fp,PE (A0 X N' scope cl C s2 H2 fp) elt (RE X.K el))
 (hsw:swapsWith (.ListComp elt [⟨tg,iter,ifs,0⟩] scope pos) (some (.Name y py)) spos.line X.env=pure true:=by rfl)
 (hs:∀x,foldedSetIterable iter X.env x=pure x:=by intro _;rfl):PS X (.Assign [.Name y py] (.ListComp elt [⟨tg,iter,ifs,0⟩] scope pos) spos) (RSg X.K μ (An i (CA (AS n fr f st tst el)))):=
 AU (Le O hc hN hiN hx hi hg ht he hsw hs) λE σ H q=>RF.comp (RF.ofObj (RS.set q))
def U1:V->List V->Hp->VK->Prop:=λx vs H Q=>∃l xs y i,x=.ref l/\vs=[.int i,y]/\H l=some (.lst xs)/\0<=i/\i.toNat<=xs.length/\xs.length<sizeLine/\Q .non (upd H l (.lst (xs.take i.toNat++y::xs.drop i.toNat)))
theorem VU{its:List fg}{i:Int}{u:fg}(h0:0<=i)(hi:i.toNat<=its.length):(λxs:Array fg=>have k:=if i<0 then(i+((xs.size:Nat):Int)).toNat else min i.toNat xs.size;(xs.extract 0 k).push u++xs.extract k) its.toArray=(its.take i.toNat++u::its.drop i.toNat).toArray:=by
 have h1:¬(i<0):=by lia
 have h2:min i.toNat its.length=i.toNat:=by lia
 simp[h1,h2,List.extract_eq_take_drop];exact uc3 (by rw[uh4];exact un6 _)
theorem V9{X:Cx}:MtM X "list.insert" U1:=by
 intro ff s σ H x vs v us Q I rx rv h;clear 5 h l xs y i rfl rfl hH h0 hi hz q
 cases rx
 cases rv with
 |cons r0 rv=>
 cases rv with
 |cons ru rv=>
 rename_i u _
 cases rv
 clear 5 r0 t rfl;clear 5(I.lstM hH)z its n r hl e;have hs:sizeLine=16777216:=rfl;have hfit:Builtin.List.listFitsIndex i=true:=by
  unfold Builtin.List.listFitsIndex;rw[uh5,ug8,ug8];constructor<;>lia
 refine gX ge ⟨_,e,rfl⟩ PySem.F.entry_list_insert (PySem.F.args_list_insert_3 _ _ _) (PySem.AutoListH.list_insert_list_int_val_1 l its.toArray n i t u (by simp[hfit]) (by rw[ug0,<-hl];exact z)) ⟨e,?_⟩;refine⟨.non,_,I.lset (its':=its.take i.toNat++u::its.drop i.toNat) hH e (VU h0 (by lia)) ((r.take i.toNat).append (.cons ru (r.drop i.toNat))) ?_,rfl,q⟩;rw[uf3,uh1,uh3,uh4];lia
def K4(xs:List D):List D->Option (List D)
 |[.int i,d]=>if 0<=i/\i.toNat<=xs.length/\xs.length<LIM then some (xs.take i.toNat++d::xs.drop i.toNat) else none
 |_=>none
section
variable{K:fc}
theorem Uu:Mu K U1 K4:=λ{c S H a vs us xs ds ys Q} s h r rs e k=>by
 unfold K4 at e
 split at e
 .next i d=>
  split at e
  .next hl=>
   clear 5 hl h0 h1 hl
   cases e
   cases rs with
   |cons r1 rs=>
   cases r1
   clear 5(FH rs)v rfl rv;exact⟨a,vs,v,i,rfl,rfl,h,h0,by rw[r.length];exact h1,by rw[r.length];exact ue9 hl B6,k _ ((r.take _).append (.cons rv (r.drop _)))⟩
  .cases e
 .cases e
structure ItOkG2(K:fc)(J:It)(g:Gd)(c:Cf)(H:Hp)(ds:List D):Prop where
 go:∀c' H' S' (i:Nat),Ext c H c' H'->SInv K c' S' H'->Gon g S'->i<ds.length->J.go i H'
 yld:∀c' H' S' (i:Nat) x H'' d,Ext c H c' H'->SInv K c' S' H'->Gon g S'->ds[i]?=some d->J.yld i H' x H''->∃p vs es,x=.ref p/\H' p=none/\H''=upd H' p (.tup vs)/\d=.tup es/\Reps K c' H' vs es
 stop:∀c' H' S',Ext c H c' H'->SInv K c' S' H'->Gon g S'->J.stop ds.length H'
def Pv(K:fc)(f:M (Gd×List D)):TI:=λσ H R=>∃Oo c t,FInv K Oo c t σ H/\∃p t',f t=some (p,t')/\∀J H' c',FInv K Oo c' t' σ H'->Stp Oo c H c' H'->ItOkG2 K J p.1 c' H' p.2->R J H'
theorem RS.forG2{μ:Cf->Hp->D->(V->Hp->Prop)->Prop}{f:M (Gd×List D)}{st:D->M Unit}{b:M Out}{E:Ends}{σ:L2.St}{H:Hp}(q:RSg K μ (E9 f st b) E σ H):Qu (Pv K f) (RG K st) (RSg K μ b) E σ H:=by
 clear 5 q Oo c t fi o t' eq k;clear 5(Af eq)pg t1 e1 eq;refine⟨Oo,c,t,fi,pg,t1,e1,λJ H1 c1 f1 s1 it=>?_⟩;clear 5 pg g ds;dsimp only at eq it;refine⟨λi m σ' H'=>m=ds.length-i/\i<=ds.length/\∃c' t2,FInv K Oo c' t2 σ' H'/\Stp Oo c1 H1 c' H'/\L2.forG g st b (ds.drop i) t2=some (o,t'),⟨_,rfl,un7 _,c1,t1,f1,.refl,by rw[uk8];exact eq⟩,?_⟩;rintro i m σ' H' ⟨rfl,hi,c',t2,f2,s2,e2⟩
 by_cases hlt:i<ds.length
 .rw[ua9 hlt] at e2;unfold L2.forG at e2;clear 5(Af e2)u0 t0 e0 e2;clear 5(EL e0)hon ht0;rw[ht0] at e2;clear e0 ht0;refine .inr ⟨it.go c' H' _ i s2.ext f2.s hon hlt,λσ3 H3=>∃c3 t3,FInv K Oo c3 t3 σ3 H3/\Stp Oo c1 H1 c3 H3/\L2.forG g st b (ds.drop (i+1)) t3=some (o,t'),λσ3 H3 h=>⟨ds.length-(i+1),by lia,rfl,hlt,h⟩,λx H'' hy=>?_⟩;clear 5(it.yld c' H' _ i x H'' _ s2.ext f2.s hon (ub2 hlt) hy)p vs es rfl hp rfl ed rx;rw[ed] at e2;clear 5(Af e2)u t3 e3 e2;clear 5(Af e2)o4 t4 e4 e2;have s2':Stp Oo c1 H1 c' (upd H' p (.tup vs)):=s2.trans (f2.stp_laid hp);refine⟨Oo,c',t2,_,f2.laid hp,.tup AL (f2.s.free hp) (rx.mono (Ext.laid f2.s hp)),t3,e3,λσ3 H3 c3 f3 s3=>?_⟩;refine⟨Oo,c3,t3,f3,o4,t4,e4,λσ5 H5 c5 f5 s5=>?_⟩;have s':=(s2'.trans s3).trans s5
  cases o4 with
  |next=>exact⟨c5,t4,f5,s',e2⟩
  |cont=>exact⟨c5,t4,f5,s',e2⟩
  |brk=>cases e2;exact k σ5 H5 c5 f5 (s1.trans s')
  |ret r=>cases e2;exact k σ5 H5 c5 f5 (s1.trans s')
 .have hi':i=ds.length:=by lia
  subst hi';rw[uh7] at e2;unfold L2.forG at e2;clear 5(Af e2)u0 t0 e0 e2;clear 5(EL e0)hon ht0;rw[ht0] at e2;clear e0 ht0
  cases e2
  exact .inl ⟨it.stop c' H' _ s2.ext f2.s hon,k σ' H' c' f2 (s1.trans s2)⟩
def Mc:List D->M (Gd×List D)
 |[.obj k]=>λt=>match t.S[k]? with
   |some (.lst ds)=>some ((some (k,ds),BG 0 ds),t)
   |_=>none
 |_=>fail
def HY(f:M (List D)):M (Gd×List D):=bnd f Mc
theorem ItOkG2.enum{g:Gd}{c:Cf}{H:Hp}{p:fh}{ds:List D}(r:∀c' H' S',Ext c H c' H'->SInv K c' S' H'->Gon g S'->∃vs,SqL K H' p vs/\Reps K c' H' vs ds):ItOkG2 K (Ite K p) g c H (BG 0 ds):=by
 refine⟨λc' H' S' i ex si on hi=>?_,λc' H' S' i x H'' d ex si on hd hy=>?_,λc' H' S' ex si on=>?_⟩
 .clear 5(r c' H' S' ex si on)vs h1 h2;rw[Fe] at hi;obtain⟨v,e,_⟩:=h2.at (ub2 hi);exact⟨vs,v,h1,e⟩
 .clear 5(r c' H' S' ex si on)vs h1 h2;clear 5 hy q v rfl hq hs rfl;have hv:=hs vs h1;rw[HS] at hd;clear 5(uc2.mp hd)d' e1 rfl;clear 5(h2.at e1)v' e2 rv;rw[hv] at e2
  cases e2
  rw[um9];exact⟨q,_,_,rfl,hq,rfl,rfl,.cons (.int _) (.cons rv .nil)⟩
 .clear 5(r c' H' S' ex si on)vs h1 h2;exact⟨vs,h1,by rw[Fe,h2.length];exact un6 _⟩
section
variable{X:Cx}{pos:Pos}{e:Expr}
theorem TH{μ:Cf->Hp->D->(V->Hp->Prop)->Prop}{tg iter:Expr}{body:List Stmt}{f:M (Gd×List D)}{st:D->M Unit}{b:M Out}(hp:PassesOwn (model X.prog X.w) X.A X.env X.xe)(hc:X.calm=true)(hi:PI X tg iter (Pv X.K f))(hg:PG X tg (RG X.K st))(hb:PSs X body (RSg X.K μ b))
 (hs:∀x,foldedSetIterable iter X.env x=pure x:=by intro _;rfl):PS X (.For tg iter body [] pos) (RSg X.K μ (E9 f st b)):=
 AU (Nt hp hc hi hg hb hs) λ_ _ _ q=>RS.forG2 q
theorem TB{f:M (List D)}{elts:List Expr}{n:Nat}{tpos p:Pos}(hg:Gl X "enumerate")(hm:X.mg "enumerate" = none)(ha:PA X [e] (RA X.K f))(h1:AY e=false:=by rfl):PI X (.Tuple elts n tpos) (.Call (.Name "enumerate" p) [e] [] pos) (Pv X.K (HY f)):=
 GD (OS hg hm ha (A5 h1)) λσ H R z9=>by
  clear 5 z9 Oo c t fi pg t' eq k;clear 5(Af eq)xs t1 e1 eq;refine⟨Oo,c,t,fi,xs,t1,e1,λvs H1 c1 f1 s1 rv=>?_⟩;unfold Mc at eq
  split at eq
  .next kk=>
   split at eq
   .next es hS=>
    cases eq
    cases rv with
    |cons r rs=>
      cases rs
      cases r with
      |@obj a _ hk=>
        clear 5(f1.s.obs kk a _ hk hS)ws g1 g3;refine⟨a,ws,rfl,SqL.of g1,k _ H1 c1 f1 s1 (ItOkG2.enum λc' H' S' ex si on=>?_)⟩;clear 5(si.obs kk a _ (ex.io _ _ hk) (on kk es rfl))us q1 q2;exact⟨us,SqL.of q1,q2⟩
   .cases eq
  .cases eq
theorem Q3{o:Expr}{es:List Expr}{f:M D}{g:M (List D)}{apos cpos:Pos}(ho:PE X o (RE X.K f))(ha:PA X (e::es) (RA X.K g))
 (hbase:attributeBase o "insert" X.env (eval o X.env)=eval o X.env:=by rfl)
 (hfew:((backTo cpos (starEach (e::es) X.env)).all (λx=>!x.1)&&(backToKw cpos (keywordEach [] X.env)).all (λx=>x.1.isSome)&&decide ((e::es).length+([]:List Keyword).length+(if ([]:List Keyword).isEmpty then 0 else 1)<30))=true:=by rfl)
 (hline:(apos.endLine==cpos.line)=true:=by rfl) (hs:starEach (e::es) X.env=(false,eval e X.env)::starEach es X.env:=by rfl) (hplain:(backTo cpos (starEach es X.env)).any (·.1)=false:=by rfl) :
 PE X (.Call (.Attribute o "insert" apos) (e::es) [] cpos) (RE X.K (objM K4 f g)):=
 AH (IV ub4 ge PySem.F.type_list_insert V9 ho ha hbase hfew hline hs hplain) λ_ _ _ q=>RE.objM Uu q
end
end
theorem WJ{X:Cx}{body:List Stmt}{h₀:ExceptHandler}{hs:List ExceptHandler}{t:TS}{pos:Pos}(hb:PSs X body t)(hx:∀e s,¬X.xe e s:=by intro _ _ h;exact h):PS X (.Try body (h₀::hs) [] [] pos) t:=by
 intro ff s σ H D I q;refine wpAny_Try_except ?_;refine uo3 (hb ff s σ H D I q) (λf s1 z=>?_) λe s1 z=>absurd z (hx e s1)
 cases f with
 |next=>exact gE z
 |brk=>exact z
 |cont=>exact z
 |ret u=>exact z
theorem VN{X:Cx}{body:List Stmt}{h₀:ExceptHandler}{hs:List ExceptHandler}{b:M Out}{μ:Cf->Hp->D->(V->Hp->Prop)->Prop}{pos:Pos}(hb:PSs X body (RSg X.K μ b))(hx:∀e s,¬X.xe e s:=by intro _ _ h;exact h):PS X (.Try body (h₀::hs) [] [] pos) (RSg X.K μ b):=WJ hb hx
abbrev vw(d:L2.D):Option L2.Sl:=some (.val d)
abbrev fb(i:Int):L2.M L2.D:=L2.fC (.int i)
end L2
namespace LW
open PySem L2
def Gz:M Out:=
 (Al (FD (fB (Ab (Aa 0) (Ab (fC (.ty "int")) Ad)) CO) (IQ (fB (Ab (Aa 0) (Ab (fC (.ty "bool")) Ad)) CO))))
def DH(MH:Fn):M Out:=
 (Al (FD (Ah MH (Ab (Aa 0) Ad)) (Fg (Aa 1) (Aa 0) (Aa 2) leA leA)))
def M8(KQ MF ME MG BD:Fn):M Out:=
 (Ae (An 2 (Ac (Aa 0) (fb 0) ixD))
 (Ae (ifS (Aj (Ac (Aa 2) (fC (.str "nothing")) (eqS id)))
   (Al (Ac (Aa 1) (fC .non) isC))
   Aq)
 (Ae (ifS (Aj (Ac (Aa 2) (fC (.str "number")) (eqS id)))
   (Al (Ah BD (Ab (Aa 1) (Ab (Ac (Aa 0) (fb 1) ixD) (Ab (Ac (Aa 0) (fb 2) ixD) Ad)))))
   Aq)
 (Ae (ifS (Aj (Ac (Aa 2) (fC (.str "text")) (eqS id)))
   (Al (Ah MG (Ab (Aa 0) (Ab (Aa 1) Ad))))
   Aq)
 (Ae (ifS (Aj (Ac (Aa 2) (fC (.str "list")) (eqS id)))
   (Al (Ah ME (Ab (Aa 0) (Ab (Aa 1) Ad))))
   Aq)
 (Ae (ifS (Aj (Ac (Aa 2) (fC (.str "pair")) (eqS id)))
   (Al (Ah MF (Ab (Aa 0) (Ab (Aa 1) Ad))))
   Aq)
 (Al (Ah KQ (Ab (Aa 0) (Ab (Aa 1) Ad))))))))))
def Gy(Hb:Fn):M Out:=
 (Ae (ifS (fOr (CY (Aj (fB (Ab (Aa 1) (Ab (fC (.ty "str")) Ad)) CO))) (Aj (Ac (fB (Ab (Aa 1) Ad) AC) (Ac (Aa 0) (fb 1) ixD) gtA)))
   (Al (fC (.bl false)))
   Aq)
 (Ae (Bq (Ck (Aa 1)) (Ao 2)
   (ifS (CY (Aj (Ah Hb (Ab (fB (Ab (Aa 2) Ad) JD) Ad))))
   (Al (fC (.bl false)))
   Aq))
 (Al (fC (.bl true)))))
def Ii:M Out:=
 (Al (FD (Fg (fb 32) (Aa 0) (fb 126) leA leA) (Ac (Aa 0) (fb 37) (eqS λb=>!b))))
def Gv(En:Fn):M Out:=
 (Ae (ifS (fOr (CY (Aj (fB (Ab (Aa 1) (Ab (fC (.ty "list")) Ad)) CO))) (Aj (Ac (fB (Ab (Aa 1) Ad) AC) (Ac (Aa 0) (fb 2) ixD) gtA)))
   (Al (fC (.bl false)))
   Aq)
 (Ae (Bq (Ck (Aa 1)) (Ao 2)
   (ifS (CY (Aj (Ah En (Ab (Ac (Aa 0) (fb 1) ixD) (Ab (Aa 2) Ad)))))
   (Al (fC (.bl false)))
   Aq))
 (Al (fC (.bl true)))))
def Gx(En:Fn):M Out:=
 (Ae (ifS (fOr (CY (Aj (fB (Ab (Aa 1) (Ab (fC (.ty "tuple")) Ad)) CO))) (Aj (Ac (fB (Ab (Aa 1) Ad) AC) (fb 2) (eqS λb=>!b))))
   (Al (fC (.bl false)))
   Aq)
 (Al (FD (Ah En (Ab (Ac (Aa 0) (fb 1) ixD) (Ab (Ac (Aa 1) (fb 0) ixD) Ad))) (Ah En (Ab (Ac (Aa 0) (fb 2) ixD) (Ab (Ac (Aa 1) (fb 1) ixD) Ad))))))
def Fr(En BD:Fn):M Out:=
 (Ae (ifS (fOr (CY (Aj (fB (Ab (Aa 1) (Ab (fC (.ty "tuple")) Ad)) CO))) (Aj (Ac (fB (Ab (Aa 1) Ad) AC) (fb 3) (eqS λb=>!b))))
   (Al (fC (.bl false)))
   Aq)
 (Ae (ifS (fOr (CY (Aj (fB (Ab (Ac (Aa 1) (fb 0) ixD) (Ab (fC (.ty "str")) Ad)) CO))) (Aj (Ac (Ac (Aa 1) (fb 0) ixD) (fC (.str "of")) (eqS λb=>!b))))
   (Al (fC (.bl false)))
   Aq)
 (Ae (ifS (CY (Aj (Ah BD (Ab (Ac (Aa 1) (fb 1) ixD) (Ab (fb 0) (Ab (Ac (fB (Ab (Ac (Aa 0) (fb 1) ixD) Ad) AC) (fb 1) CI) Ad))))))
   (Al (fC (.bl false)))
   Aq)
 (Al (Ah En (Ab (Ac (Ac (Aa 0) (fb 1) ixD) (Ac (Aa 1) (fb 1) ixD) ixD) (Ab (Ac (Aa 1) (fb 2) ixD) Ad)))))))
def EX(BT Gs:Fn):M Out:=
 (Ae (An 2 (Ah Gs (Ab (Aa 0) (Ab (Aa 1) Ad))))
 (Ae (ifS (Aj (Ac (fB (Ab (Aa 2) Ad) AC) (fb 0) (eqS id)))
   (Al (fb 0))
   Aq)
 (Al (Ah BT (Ab (Aa 0) (Ab (Ac (Aa 2) (fUn (fb 1) Nd) ixD) Ad))))))
def Hm(BT Fp:Fn):M Out:=
 (Ae (An 2 (fb 0))
 (Ae (C9 3 (AK Ad))
 (Ae (Bq (BZ (Ab (fB (Ab (Aa 1) Ad) AC) Ad)) (Ao 4)
   (Ae (An 5 (Ah Fp (Ab (Ac (Aa 0) (Aa 2) ixD) (Ab (Ac (Aa 1) (Aa 4) ixD) Ad))))
 (Ae (ifS (Aj (Ac (Aa 5) (fC .non) isC))
   fail
   Aq)
 (Ae (An 6 (AI (Ab (Aa 2) (Ab (Aa 5) Ad))))
 (Ae (ownM 3 BR (Ab (Aa 6) Ad))
 (An 2 (Ah BT (Ab (Aa 0) (Ab (Aa 6) Ad)))))))))
 (Al (Aa 3)))))
def F5:M Out:=
 (Al (Ac (Ac (Ac (Ac (Aa 0) (Ac (Aa 1) (fb 0) ixD) ixD) (fb 1) ixD) (Ac (Aa 1) (fb 1) ixD) ixD) (fb 2) ixD))
def F3(En KR:Fn):M Out:=
 (Ae (ifS (fOr (CY (Aj (fB (Ab (Aa 1) (Ab (fC (.ty "tuple")) Ad)) CO))) (Aj (Ac (fB (Ab (Aa 1) Ad) AC) (fb 3) (eqS λb=>!b))))
   (Al (fC .non))
   Aq)
 (Ae (ifS (fOr (CY (Aj (fB (Ab (Ac (Aa 1) (fb 0) ixD) (Ab (fC (.ty "str")) Ad)) CO))) (Aj (Ac (Ac (Aa 1) (fb 0) ixD) (Ac (Aa 0) (fb 0) ixD) (eqS λb=>!b))))
   (Al (fC .non))
   Aq)
 (Ae (An 2 (Ah KR (Ab (Aa 0) (Ab (Ac (Aa 1) (fb 1) ixD) Ad))))
 (Ae (ifS (fOr (Aj (Ac (Aa 2) (fC .non) isC)) (CY (Aj (Ah En (Ab (Ac (Ac (Ac (Aa 0) (fb 1) ixD) (Aa 2) ixD) (fb 1) ixD) (Ab (Ac (Aa 1) (fb 2) ixD) Ad))))))
   (Al (fC .non))
   Aq)
 (Al (Aa 2))))))
def Fs(N6:Fn):M Out:=
 (Ae (ifS (CY (Aj (fB (Ab (Aa 1) (Ab (fC (.ty "str")) Ad)) CO)))
   (Al (fC .non))
   Aq)
 (Ae (An 2 (Ah N6 (Ab (Aa 0) Ad)))
 (Ae (Bq (BZ (Ab (fB (Ab (Aa 2) Ad) AC) Ad)) (Ao 3)
   (ifS (Aj (Ac (Ac (Ac (Aa 2) (Aa 3) ixD) (fb 0) ixD) (Aa 1) (eqS id)))
   (Al (Aa 3))
   Aq))
 (Al (fC .non)))))
def Ho(HM:Fn):M Out:=
 (Al (fIf (Aj (Ah HM (Ab (Aa 0) Ad))) (AI Ad) (Ac (Aa 0) (fb 1) ixD)))
def Jy:M Out:=
 (Al (Ac (Ac (Aa 0) (fb 0) ixD) (fC (.str "end")) (eqS id)))
def ED(BE EK JW:Fn):M Out:=
 (Ae (An 2 (Ac (Aa 0) (fb 0) ixD))
 (Ae (ifS (Aj (Ac (Aa 2) (fC (.str "nothing")) (eqS id)))
   (Hu (AK Ad))
   Aq)
 (Ae (ifS (Aj (Ac (Aa 2) (fC (.str "number")) (eqS id)))
   (Hu (D3 JW (Ab (Ac (Aa 1) (Ac (Aa 0) (fb 1) ixD) CI) (Ab (Ah EK (Ab (Ac (Ac (Aa 0) (fb 2) ixD) (Ac (Aa 0) (fb 1) ixD) CI) Ad)) Ad))))
   Aq)
 (Ae (ifS (Aj (Ac (Aa 2) (fC (.str "text")) (eqS id)))
   (Hu (bnd (Ax (AK (Ab (fB (Ab (Aa 1) Ad) AC) Ad))) λx=>bnd (Ax (AS 1 [] (Ck (Aa 1)) (Ao 0) CT (fB (Ab (Aa 0) Ad) JD))) λy=>Jp x y))
   Aq)
 (Ae (ifS (Aj (Ac (Aa 2) (fC (.str "list")) (eqS id)))
   (Ae (C9 3 (AK (Ab (fB (Ab (Aa 1) Ad) AC) Ad)))
 (Ae (Bq (Ck (Aa 1)) (Ao 4)
   (ownM 3 Fq (Ab (Ax (D3 BE (Ab (Ac (Aa 0) (fb 1) ixD) (Ab (Aa 4) Ad)))) Ad)))
 (GR 3)))
   Aq)
 (Ae (ifS (Aj (Ac (Aa 2) (fC (.str "pair")) (eqS id)))
   (Hu (bnd (Ax (D3 BE (Ab (Ac (Aa 0) (fb 1) ixD) (Ab (Ac (Aa 1) (fb 0) ixD) Ad)))) λx=>bnd (Ax (D3 BE (Ab (Ac (Aa 0) (fb 2) ixD) (Ab (Ac (Aa 1) (fb 1) ixD) Ad)))) λy=>Jp x y))
   Aq)
 (Hu (bnd (Ax (AK (Ab (Ac (Aa 1) (fb 1) ixD) Ad))) λx=>bnd (Ax (D3 BE (Ab (Ac (Ac (Aa 0) (fb 1) ixD) (Ac (Aa 1) (fb 1) ixD) ixD) (Ab (Ac (Aa 1) (fb 2) ixD) Ad)))) λy=>Jp x y))))))))
def Ft:M Out:=
 (Al (Ac (Ac (fUn (Aa 0) JS) (fb 7) AD) (fb 8) AQ))
def EV(Hc:Fn):M Out:=
 (Hu (AS 1 [0,1] (Gi (Ab (fb 1) (Ab (Ac (Aa 1) (fb 1) AD) Ad))) (Ao 0) CT (Ac (Ah Hc (Ab (Aa 1) (Ab (Ac (Aa 2) (Aa 0) CI) Ad))) (fb 256) AX)))
def Ij:M Out:=
 (Al (Ac (Aa 0) (Ac (fb 8) (Aa 1) DI) NJ))
def Dt(KS MJ MI MK KU:Fn):M Out:=
 (Ae (An 3 (Ac (Aa 0) (fb 0) ixD))
 (Ae (ifS (Aj (Ac (Aa 3) (fC (.str "nothing")) (eqS id)))
   (Al (nxD (AI (Ab (fC .non) (Ab (Aa 2) Ad)))))
   Aq)
 (Ae (ifS (Aj (Ac (Aa 3) (fC (.str "number")) (eqS id)))
   (Al (Ah KU (Ab (Aa 0) (Ab (Aa 1) (Ab (Aa 2) Ad)))))
   Aq)
 (Ae (ifS (Aj (Ac (Aa 3) (fC (.str "text")) (eqS id)))
   (Al (Ah MK (Ab (Aa 0) (Ab (Aa 1) (Ab (Aa 2) Ad)))))
   Aq)
 (Ae (ifS (Aj (Ac (Aa 3) (fC (.str "list")) (eqS id)))
   (Al (Ah MI (Ab (Aa 0) (Ab (Aa 1) (Ab (Aa 2) Ad)))))
   Aq)
 (Ae (ifS (Aj (Ac (Aa 3) (fC (.str "pair")) (eqS id)))
   (Al (Ah MJ (Ab (Aa 0) (Ab (Aa 1) (Ab (Aa 2) Ad)))))
   Aq)
 (Al (Ah KS (Ab (Aa 0) (Ab (Aa 1) (Ab (Aa 2) Ad)))))))))))
def F0:M Out:=
 (Ae (ifS (Aj (Ac (Aa 1) (fB (Ab (Aa 0) Ad) AC) geA))
   (Iv "Short" (Ab (fC (.str "the bytes end within a value")) Ad))
   Aq)
 (Al (nxD (Ac (Aa 0) (Aa 1) ixD))))
def DP(PC Dg:Fn):M Out:=
 (Ae (D2 3 (Ah Dg (Ab (Ac (Aa 0) (fb 1) ixD) (Ab (Aa 1) (Ab (Aa 2) Ad)))))
 (Ae (An 4 (Ac (Aa 2) (fb 1) AD))
 (Ae (An 5 (fC (.str "")))
 (Ae (Bq (BZ (Ab (Aa 3) Ad)) (Ao 6)
   (D2 5 (IN (Aa 5) (Ah PC (Ab (Aa 1) (Ab (Ac (Aa 4) (Aa 6) AD) Ad))) AD)))
 (Al (nxD (AI (Ab (Aa 5) (Ab (Ac (Aa 4) (Aa 3) AD) Ad)))))))))
def DN(Bu Dg:Fn):M Out:=
 (Ae (D2 3 (Ah Dg (Ab (Ac (Aa 0) (fb 2) ixD) (Ab (Aa 1) (Ab (Aa 2) Ad)))))
 (Ae (An 4 (Ac (Aa 2) (fb 1) AD))
 (Ae (C9 5 (AK Ad))
 (Ae (Bq (BZ (Ab (Aa 3) Ad)) (Ao 6)
   (Ae (D2 7 (Ah Bu (Ab (Ac (Aa 0) (fb 1) ixD) (Ab (Aa 1) (Ab (Aa 4) Ad)))))
 (Ae (ownM 5 BR (Ab (Ac (Aa 7) (fb 0) ixD) Ad))
 (An 4 (Ac (Aa 7) (fb 1) ixD)))))
 (Al (nxD (AI (Ab (Aa 5) (Ab (Aa 4) Ad)))))))))
def DO(Bu:Fn):M Out:=
 (Ae (D2 3 (Ah Bu (Ab (Ac (Aa 0) (fb 1) ixD) (Ab (Aa 1) (Ab (Aa 2) Ad)))))
 (Ae (D2 4 (Ah Bu (Ab (Ac (Aa 0) (fb 2) ixD) (Ab (Aa 1) (Ab (Ac (Aa 3) (fb 1) ixD) Ad)))))
 (Al (nxD (AI (Ab (AI (Ab (Ac (Aa 3) (fb 0) ixD) (Ab (Ac (Aa 4) (fb 0) ixD) Ad))) (Ab (Ac (Aa 4) (fb 1) ixD) Ad)))))))
def C7(Bu Dg:Fn):M Out:=
 (Ae (D2 3 (Ah Dg (Ab (Ac (fB (Ab (Ac (Aa 0) (fb 1) ixD) Ad) AC) (fb 1) CI) (Ab (Aa 1) (Ab (Aa 2) Ad)))))
 (Ae (D2 4 (Ah Bu (Ab (Ac (Ac (Aa 0) (fb 1) ixD) (Aa 3) ixD) (Ab (Aa 1) (Ab (Ac (Aa 2) (fb 1) AD) Ad)))))
 (Al (nxD (AI (Ab (AI (Ab (fC (.str "of")) (Ab (Aa 3) (Ab (Ac (Aa 4) (fb 0) ixD) Ad)))) (Ab (Ac (Aa 4) (fb 1) ixD) Ad)))))))
def Hn(B8 Gs:Fn):M Out:=
 (Ae (An 2 (Gh [("left",(CA (AK Ad))),("right",(CA (AK Ad)))]))
 (Ae (An 3 (Ah Gs (Ab (Aa 0) (Ab (Aa 1) Ad))))
 (Ae (Bq (BZ (Ab (fB (Ab (Aa 3) Ad) AC) Ad)) (Ao 4)
   (Ae (An 5 (Ac (Aa 0) (Ac (Ac (Aa 3) (Aa 4) ixD) (fb 0) ixD) ixD))
 (Dq (objM Fq (Ac (Aa 2) (Ac (Aa 5) (fb 0) ixD) BY) (Ab (Ah B8 (Ab (Aa 5) (Ab (Ac (Ac (Aa 3) (Aa 4) ixD) (fb 1) ixD) (Ab (Ac (Ac (Aa 1) (Aa 4) ixD) (fb 2) ixD) Ad)))) Ad)))))
 (Al (AI (Ab (Ac (Aa 2) (fC (.str "left")) BY) (Ab (Ac (Aa 2) (fC (.str "right")) BY) Ad)))))))
def EE(BE:Fn):M Out:=
 (Al (Ac (Ax (AK (Ab (Aa 1) Ad))) (Ax (D3 BE (Ab (Ac (Ac (Ac (Aa 0) (fb 1) ixD) (Aa 1) ixD) (fb 1) ixD) (Ab (Aa 2) Ad)))) AD))
def Ds:M Out:=
 (Ae (ifS (Aj (Ac (Aa 1) (fB (Ab (Aa 0) Ad) AC) ltA))
   (Al (Ac (Aa 0) (Aa 1) ixD))
   Aq)
 (Al (fb 0)))
def DV:M Out:=
 (Ae (Fl "grammars" (Aa 1) (Aa 0))
 (Ae (Fl "wires" (Gh [("left",(Aa 2)),("right",(Aa 3))]) (Aa 0))
 (Ae (Fl "places" (Gh [("left",(fb 0)),("right",(fb 0))]) (Aa 0))
 (Ae (Fl "standings" (CA (AS 1 [] (Ck (Aa 1)) (Ao 0) CT (fb 0))) (Aa 0))
 (Fl "heard" (CA (AS 1 [] (Ck (Aa 1)) (Ao 0) CT (CA (AK Ad)))) (Aa 0))))))
def C6(Dp:Fn):M Out:=
 (Ae (An 2 (Ac (Dz "places" (Aa 0)) (Aa 1) BY))
 (Ae (An 3 (Ea "Listener" Dp (Aa 0) (Ab (Aa 1) Ad)))
 (Ae (KH (Aj (Ac (Aa 3) (fC .non) GK))
   (Ae (An 4 (Ac (Ac (Dz "wires" (Aa 0)) (Aa 1) BY) (Ac (Dz "places" (Aa 0)) (Aa 1) BY) ixD))
 (Ae (Dq (objM BR (Ac (Dz "heard" (Aa 0)) (Aa 4) ixD) (Ab (Ac (Aa 3) (fb 0) ixD) Ad)))
 (Ae (Cy (Ac (Aa 3) (fb 1) ixD) (stD (Dz "standings" (Aa 0)) (Aa 4)))
 (Ae (Cy (Ac (Aa 3) (fb 2) ixD) (Mm (Dz "places" (Aa 0)) (Aa 1)))
 (An 3 (Ea "Listener" Dp (Aa 0) (Ab (Aa 1) Ad))))))))
 (Al (Ac (Ac (Dz "places" (Aa 0)) (Aa 1) BY) (Aa 2) gtA)))))
def EW(Fp BD:Fn):M Out:=
 (Ae (ifS (fOr (CY (Aj (fB (Ab (Aa 2) (Ab (fC (.ty "tuple")) Ad)) CO))) (Aj (Ac (fB (Ab (Aa 2) Ad) AC) (fb 4) (eqS λb=>!b))))
   (Al (fC .non))
   Aq)
 (Ae (An 3 (Ac (Aa 2) (fb 0) ixD))
 (Ae (ifS (CY (Aj (Ah BD (Ab (Aa 3) (Ab (fb 0) (Ab (Ac (fB (Ab (Aa 0) Ad) AC) (fb 1) CI) Ad))))))
   (Al (fC .non))
   Aq)
 (Al (Ah Fp (Ab (Ac (Ac (Aa 0) (Aa 3) ixD) (Ac (Aa 1) (Aa 3) ixD) ixD) (Ab (fSl (Aa 2) (BO (fb 1)) fNo Ci) Ad)))))))
def N3(BT B8 Ev:Fn):M Out:=
 (Ae (An 5 (Ah Ev (Ab (Aa 0) (Ab (Aa 3) (Ab (Ac (Aa 1) (Aa 4) ixD) Ad)))))
 (Ae (ifS (Aj (Ac (Aa 5) (fC .non) isC))
   fail
   Aq)
 (Ae (An 6 (Ac (Ac (Aa 1) (Aa 4) ixD) (fb 0) ixD))
 (Ae (An 7 (Ac (Ac (Aa 0) (Aa 6) ixD) (Ac (Aa 3) (Aa 6) ixD) ixD))
 (Ae (Dq (objM Fq (Ac (Aa 2) (Ac (Aa 7) (fb 0) ixD) BY) (Ab (Ac (Ax (AK (Ab (Aa 6) Ad))) (Ah B8 (Ab (Aa 7) (Ab (Aa 5) (Ab (Ac (Ac (Aa 1) (Aa 4) ixD) (fb 3) ixD) Ad)))) AD) Ad)))
 (Cy (Ah BT (Ab (Ac (Aa 0) (Aa 6) ixD) (Ab (AI (Ab (Ac (Aa 3) (Aa 6) ixD) (Ab (Aa 5) Ad))) Ad))) (stD (Aa 3) (Aa 6))))))))
def DZ(BT B8 Ev:Fn):M Out:=
 (Ae (An 2 (Gh [("left",(CA (AK Ad))),("right",(CA (AK Ad)))]))
 (Ae (An 3 (CA (AS 1 [] (Ck (Aa 0)) (Ao 0) CT (fb 0))))
 (Ae (Bq (BZ (Ab (fB (Ab (Aa 1) Ad) AC) Ad)) (Ao 4)
   (N3 BT B8 Ev))
 (Al (AI (Ab (Ac (Aa 2) (fC (.str "left")) BY) (Ab (Ac (Aa 2) (fC (.str "right")) BY) Ad)))))))
def Ee:M Out:=
 (Ae (ifS (Aj (Ac (Aa 0) (Ac (fb 10) (fb 18) Nr) geA))
   (Al (Aa 0))
   Aq)
 (Ae (An 2 (Ac (Ac (Ac (Ac (Ac (Aa 0) (fb 48271) DI) (Ac (Ac (fb 7919) (Aa 1) DI) (Aa 1) DI) AD) (Ac (fb 104729) (Aa 1) DI) AD) (fb 13) AD) (fb 2147483647) AX))
 (Ae (An 2 (Ac (Ac (Aa 2) (Aa 2) DI) (fb 2147483629) AX))
 (Al (Ac (Ac (Ac (Ac (Aa 2) (Aa 2) DI) (Aa 2) DI) (Ac (fb 1000003) (Aa 2) DI) AD) (Aa 0) AD)))))
def Cd(Cn:Fn):M Out:=
 (Ae (An 2 (Ac (Aa 0) (fb 7) AX))
 (Ae (An 3 (Ac (Aa 0) (fb 7) AQ))
 (Ae (ifS (Aj (Ac (Aa 2) (fb 0) (eqS id)))
   (Al (AI (Ab (AI (Ab (fC (.str "nothing")) Ad)) (Ab (Aa 3) Ad))))
   Aq)
 (Ae (ifS (fOr (Aj (Ac (Aa 2) (fb 3) ltA)) (Jr (Aj (Ac (Aa 2) (fb 3) gtA)) (Aj (Ac (Aa 1) (fb 0) (eqS id)))))
   (Ae (An 4 (Ac (Ac (Aa 3) (fb 9) AX) (fb 4) CI))
 (Al (AI (Ab (AI (Ab (fC (.str "number")) (Ab (Aa 4) (Ab (Ac (Aa 4) (Ac (Ax (AK (Ab (fb 0) (Ab (fb 3) (Ab (fb 255) (Ab (fb 256) (Ab (fb 70000) Ad))))))) (Ac (Ac (Aa 3) (fb 9) AQ) (fb 5) AX) ixD) AD) Ad)))) (Ab (Ac (Aa 3) (fb 45) AQ) Ad)))))
   Aq)
 (Ae (ifS (Aj (Ac (Aa 2) (fb 3) (eqS id)))
   (Al (AI (Ab (AI (Ab (fC (.str "text")) (Ab (Ac (Aa 3) (fb 4) AX) Ad))) (Ab (Ac (Aa 3) (fb 4) AQ) Ad))))
   Aq)
 (Ae (Cy (Ah Cn (Ab (Aa 3) (Ab (Ac (Aa 1) (fb 1) CI) Ad))) (unS 2 (Ay (Ao 5) (Ay (Ao 3) Bc))))
 (Ae (ifS (Aj (Ac (Aa 2) (fb 4) (eqS id)))
   (Al (AI (Ab (AI (Ab (fC (.str "list")) (Ab (Aa 5) (Ab (Ac (Aa 3) (fb 4) AX) Ad)))) (Ab (Ac (Aa 3) (fb 4) AQ) Ad))))
   Aq)
 (Ae (Cy (Ah Cn (Ab (Aa 3) (Ab (Ac (Aa 1) (fb 1) CI) Ad))) (unS 2 (Ay (Ao 6) (Ay (Ao 3) Bc))))
 (Al (AI (Ab (Ac (Ax (AK (Ab (AI (Ab (fC (.str "pair")) (Ab (Aa 5) (Ab (Aa 6) Ad)))) (Ab (AI (Ab (fC (.str "choice")) (Ab (AI (Ab (Aa 5) (Ab (Aa 6) Ad))) Ad))) Ad)))) (Ac (Aa 2) (fb 2) AX) ixD) (Ab (Aa 3) Ad))))))))))))
def Ej(Bt:Fn):M Out:=
 (Ae (An 2 (Ac (Aa 0) (fb 0) ixD))
 (Ae (ifS (Aj (Ac (Aa 2) (fC (.str "nothing")) (eqS id)))
   (Al (AI (Ab (fC .non) (Ab (Aa 1) Ad))))
   Aq)
 (Ae (ifS (Aj (Ac (Aa 2) (fC (.str "number")) (eqS id)))
   (Al (AI (Ab (Ac (Ac (Aa 0) (fb 1) ixD) (Ac (Aa 1) (Ac (Ac (Ac (Aa 0) (fb 2) ixD) (Ac (Aa 0) (fb 1) ixD) CI) (fb 1) AD) AX) AD) (Ab (Ac (Aa 1) (Ac (Ac (Ac (Aa 0) (fb 2) ixD) (Ac (Aa 0) (fb 1) ixD) CI) (fb 1) AD) AQ) Ad))))
   Aq)
 (Ae (ifS (Aj (Ac (Aa 2) (fC (.str "text")) (eqS id)))
   (Ae (An 3 (Ac (Aa 1) (Ac (Ac (Aa 0) (fb 1) ixD) (fb 1) AD) AX))
 (Ae (An 4 (Ac (Aa 1) (Ac (Ac (Aa 0) (fb 1) ixD) (fb 1) AD) AQ))
 (Al (AI (Ab (joinM (fC (.str "")) (Ab (Ax (AS 1 [4] (BZ (Ab (Aa 3) Ad)) (Ao 0) CT (Ac (fC (.str " a~z")) (Ac (Ac (Aa 1) (Ac (Ax (AK (Ab (fb 1) (Ab (fb 4) (Ab (fb 16) Ad))))) (Aa 0) ixD) AQ) (fb 4) AX) ixD))) Ad)) (Ab (Ac (Aa 4) (fb 64) AQ) Ad))))))
   Aq)
 (Ae (ifS (Aj (Ac (Aa 2) (fC (.str "list")) (eqS id)))
   (Ae (An 3 (Ac (Aa 1) (Ac (Ac (Aa 0) (fb 2) ixD) (fb 1) AD) AX))
 (Ae (An 4 (Ac (Aa 1) (Ac (Ac (Aa 0) (fb 2) ixD) (fb 1) AD) AQ))
 (Ae (C9 5 (AK Ad))
 (Ae (Bq (BZ (Ab (Aa 3) Ad)) (Ao 6)
   (Ae (Cy (Ah Bt (Ab (Ac (Aa 0) (fb 1) ixD) (Ab (Aa 4) Ad))) (unS 2 (Ay (Ao 7) (Ay (Ao 4) Bc))))
 (ownM 5 BR (Ab (Aa 7) Ad))))
 (Al (AI (Ab (Aa 5) (Ab (Aa 4) Ad))))))))
   Aq)
 (Ae (ifS (Aj (Ac (Aa 2) (fC (.str "pair")) (eqS id)))
   (Ae (Cy (Ah Bt (Ab (Ac (Aa 0) (fb 1) ixD) (Ab (Aa 1) Ad))) (unS 2 (Ay (Ao 7) (Ay (Ao 4) Bc))))
 (Ae (Cy (Ah Bt (Ab (Ac (Aa 0) (fb 2) ixD) (Ab (Aa 4) Ad))) (unS 2 (Ay (Ao 8) (Ay (Ao 4) Bc))))
 (Al (AI (Ab (AI (Ab (Aa 7) (Ab (Aa 8) Ad))) (Ab (Aa 4) Ad))))))
   Aq)
 (Ae (An 9 (Ac (Aa 1) (fB (Ab (Ac (Aa 0) (fb 1) ixD) Ad) AC) AX))
 (Ae (Cy (Ah Bt (Ab (Ac (Ac (Aa 0) (fb 1) ixD) (Aa 9) ixD) (Ab (Ac (Aa 1) (fB (Ab (Ac (Aa 0) (fb 1) ixD) Ad) AC) AQ) Ad))) (unS 2 (Ay (Ao 7) (Ay (Ao 4) Bc))))
 (Al (AI (Ab (AI (Ab (fC (.str "of")) (Ab (Aa 9) (Ab (Aa 7) Ad)))) (Ab (Aa 4) Ad))))))))))))
def Eg(Cn L1:Fn):M Out:=
 (Ae (An 3 (Ah L1 (Ab (Aa 0) (Ab (Aa 1) Ad))))
 (Ae (ifS (Jr (Aj (Ac (Ac (Aa 3) (fb 5) AX) (fb 0) (eqS id))) (fOr (Aj (Ac (Aa 1) (fb 0) gtA)) (Aj (Ac (Ac (Ac (Aa 3) (fb 5) AQ) (fb 4) AX) (fb 0) (eqS id)))))
   (Al (AI (Ab (fC (.str "end")) Ad)))
   Aq)
 (Ae (C9 4 (AK Ad))
 (Ae (An 5 (Ac (Ax (AK (Ab (fC (.str "left")) (Ab (fC (.str "right")) Ad)))) (Ac (Ac (Aa 3) (fb 5) AQ) (fb 2) AX) ixD))
 (Ae (An 6 (Ac (fb 1) (Ac (Ac (Aa 3) (fb 10) AQ) (fb 3) AX) AD))
 (Ae (An 3 (Ac (Aa 3) (fb 30) AQ))
 (Ae (Bq (Ck (fSl (Ax (AK (Ab (fC (.str "go")) (Ab (fC (.str "no")) (Ab (fC (.str "ask")) Ad))))) fNo (BO (Aa 6)) Ci)) (Ao 7)
   (Ae (Cy (Ah Cn (Ab (Aa 3) (Ab (fb 2) Ad))) (unS 2 (Ay (Ao 8) (Ay (Ao 3) Bc))))
 (Ae (ownM 4 BR (Ab (AI (Ab (Aa 7) (Ab (Aa 8) (Ab (Ac (Aa 3) (Aa 2) AX) Ad)))) Ad))
 (An 3 (Ac (Aa 3) (Aa 2) AQ)))))
 (Al (AI (Ab (Aa 5) (Ab (Aa 4) Ad)))))))))))
def DF(L4:Fn):M Out:=
 (Al (Ax (AS 2 [0] (IP (Ab (Aa 0) Ad)) (unS 2 (Ay (Ao 0) (Ay (Ao 1) Bc))) CT (Ah L4 (Ab (Aa 1) (Ab (Aa 0) (Ab (fB (Ab (Aa 2) Ad) AC) Ad)))))))
def PL(BS:Fn):M Out:=
 (Ae (An 5 (Ah BS (Ab (Aa 0) (Ab (Ac (Aa 2) (Ac (Aa 4) (fb 0) ixD) ixD) (Ab (Ac (Aa 4) (fb 0) ixD) (Ab (fSl (Aa 4) (BO (fb 1)) fNo Ci) Ad))))))
 (Ae (Cy (Ac (D4 3 (fB (Ab (Ac (Ac (Aa 4) (fb 1) ixD) (fC (.str "right")) (eqS id)) Ad) Gu)) (Aa 5) AD) (Gm 3 (fB (Ab (Ac (Ac (Aa 4) (fb 1) ixD) (fC (.str "right")) (eqS id)) Ad) Gu)))
 (Dq (objM BR (Ac (Aa 2) (Ac (Aa 4) (fb 0) ixD) ixD) (Ab (fSl (Aa 4) (BO (fb 1)) fNo Ci) Ad)))))
def EU(BS:Fn):M Out:=
 (Ae (An 2 (Ax (AS 1 [] (Ck (Aa 0)) (Ao 0) CT (CA (AK Ad)))))
 (Ae (C9 3 (AK (Ab (Ax (AK Ad)) (Ab (Ax (AK Ad)) Ad))))
 (Ae (Bq (Ck (Aa 1)) (Ao 4)
   (PL BS))
 (Al (AI (Ab (D4 3 (fb 0)) (Ab (D4 3 (fb 1)) Ad)))))))
def Dm(JV Bp:Fn):M Out:=
 (Ae (C9 1 (AK Ad))
 (Ae (An 2 (fb 1))
 (Ae (An 3 (Ah Bp (Ab (Aa 0) (Ab (fb 0) Ad))))
 (Ae (An 4 (Ac (Ax (AK (Ab (Ac (fb 1) (Ac (Aa 3) (fb 4) AX) AD) (Ab (Ac (fb 1) (Ac (Aa 3) (fb 9) AX) AD) Ad)))) (Ac (Ac (Aa 3) (fb 36) AQ) (fb 2) AX) ixD))
 (Ae (Bq (BZ (Ab (Aa 4) Ad)) (Ao 5)
   (Ae (An 6 (Ac (fb 1) (Ac (Ac (Ac (Aa 3) (fb 72) AQ) (Ac (Ac (fb 4) (Aa 5) DI) (fb 1) AD) AQ) (fB (Ab (fb 30) (Ab (Ac (fb 36) (Aa 4) AQ) Ad)) K8) AX) AD))
 (Ae (C9 7 (AK Ad))
 (Ae (Bq (Gi (Ab (Aa 2) (Ab (Ac (Aa 2) (Aa 6) AD) Ad))) (Ao 8)
   (ownM 7 BR (Ab (Ac (Ah Bp (Ab (Aa 0) (Ab (Ac (fb 1) (Ac (Aa 8) (fb 17) AX) AD) Ad))) (Ac (fb 1) (Ac (Aa 8) (fb 17) AQ) AD) AQ) Ad)))
 (Ae (ownM 1 BR (Ab (Ah JV (Ab (Aa 7) Ad)) Ad))
 (An 2 (Ac (Aa 2) (Aa 6) AD)))))))
 (Al (Aa 1)))))))
def P7(Dk:Fn):M Out:=
 (Ae (Cy (Ah Dk (Ab (Ac (Aa 0) (Aa 4) ixD) (Ab (Aa 5) Ad))) (unS 2 (Ay (Ao 6) (Ay (Ao 7) Bc))))
 (Ae (An 2 (Ac (Ac (Aa 2) (fB (Ab (Aa 6) Ad) AC) AD) (fB (Ab (Ax (Ey 1 [] (Js (Aa 5)) (Ao 0) (Aj (Ac (Ac (Aa 0) (fb 0) ixD) (fC (.str "left")) (eqS id))) (fb 1))) Ad) AC) AD))
 (An 3 (Ac (Ac (Aa 3) (fB (Ab (Aa 7) Ad) AC) AD) (fB (Ab (Ax (Ey 1 [] (Js (Aa 5)) (Ao 0) (Aj (Ac (Ac (Aa 0) (fb 0) ixD) (fC (.str "right")) (eqS id))) (fb 1))) Ad) AC) AD))))
def DG(Dk:Fn):M Out:=
 (Ae (An 2 (fb 0))
 (Ae (An 3 (fb 0))
 (Ae (E9 (HY (Ab (Aa 1) Ad)) (unS 2 (Ay (Ao 4) (Ay (Ao 5) Bc)))
   (P7 Dk))
 (Al (AI (Ab (Aa 2) (Ab (Aa 3) Ad)))))))
def Ef(Dk:Fn):M Out:=
 (Ae (An 4 (fB (Ab (Ac (Ac (Aa 3) (fb 0) ixD) (fC (.str "right")) (eqS id)) Ad) Gu))
 (Ae (An 5 (Ac (Ah Dk (Ab (Ac (Aa 0) (Aa 2) ixD) (Ab (Aa 1) Ad))) (Aa 4) ixD))
 (Al (Ac (Ax (AK (Ab (Aa 2) Ad))) (fSl (Ac (Ah Dk (Ab (Ac (Aa 0) (Aa 2) ixD) (Ab (Ax (bnd (Aa 1) λx=>bnd (Ax (AK (Ab (Aa 3) Ad))) λy=>JZ x y)) Ad))) (Aa 4) ixD) (BO (fB (Ab (Aa 5) Ad) AC)) fNo Hy) AD))))
def ND(Bt:Fn):M Out:=
 (Ae (An 5 (Ac (Aa 4) (fB (Ab (Aa 0) Ad) AC) AX))
 (Ae (An 6 (Ac (Ac (Aa 0) (Aa 5) ixD) (D4 2 (Aa 5)) ixD))
 (ifS (Aj (Ac (fB (Ab (Aa 6) Ad) AC) (fb 1) gtA))
   (Ae (Cy (Ac (Ac (Aa 6) (fb 1) ixD) (Ac (Ac (Aa 4) (fb 4) AQ) (fB (Ab (Ac (Aa 6) (fb 1) ixD) Ad) AC) AX) ixD) (unS 3 (Ay (Ao 7) (Ay (Ao 8) (Ay (Ao 9) Bc)))))
 (Ae (ownM 3 BR (Ab (AI (Ab (Aa 5) (Ab (Ac (Aa 6) (fb 0) ixD) (Ab (Aa 7) (Ab (Ac (Ah Bt (Ab (Aa 8) (Ab (Ac (Aa 4) (fb 12) AQ) Ad))) (fb 0) ixD) Ad))))) Ad))
 (Cy (Aa 9) (Gm 2 (Aa 5)))))
   Aq)))
def EC(Bt:Fn):M Out:=
 (Ae (C9 2 (AS 1 [] (Ck (Aa 0)) (Ao 0) CT (fb 0)))
 (Ae (C9 3 (AK Ad))
 (Ae (Bq (Ck (Aa 1)) (Ao 4)
   (ND Bt))
 (Al (Aa 3)))))
def Kt(BS Ew:Fn):M Out:=
 (Ae (An 8 (fb 0))
 (Ae (E9 (Js (Aa 1)) (Ao 9)
   (An 8 (Ac (Aa 8) (fB (Ab (Ax (Ey 1 [7] (Js (Aa 9)) (Ao 0) (Aj (Ac (Ac (Aa 0) (fb 0) ixD) (Ac (Ax (AK (Ab (fC (.str "left")) (Ab (fC (.str "right")) Ad)))) (Aa 1) ixD) (eqS id))) (fb 1))) Ad) AC) AD)))
 (Ae (An 10 (fSl (Ac (Aa 5) (Aa 7) ixD) (BO (Aa 8)) fNo Hy))
 (ifS (Aj (Ac (Aa 10) (Ax (AK Ad)) (eqS λb=>!b)))
   (Ae (An 11 (Ac (Ac (Aa 10) (fb 0) ixD) (fb 0) ixD))
 (Ae (An 12 (Ac (Ac (Aa 0) (Aa 11) ixD) (Ah Ew (Ab (Ac (Aa 0) (Aa 11) ixD) (Ab (Ac (Aa 1) (Aa 11) ixD) Ad))) ixD))
 (Ae (An 13 (Ax (AK Ad)))
 (ifS (Aj (Ac (Ac (Aa 12) (fb 0) ixD) (Ac (Ac (Aa 10) (fb 0) ixD) (fb 1) ixD) (eqS id)))
   (Ae (An 13 (Ah BS (Ab (Aa 0) (Ab (Ac (Aa 1) (Aa 11) ixD) (Ab (Aa 11) (Ab (fSl (Ac (Aa 10) (fb 0) ixD) (BO (fb 1)) fNo Ci) Ad))))))
 (ifS (Aj (Ac (Ac (fB (Ab (Ac (Aa 3) (Aa 7) ixD) Ad) AC) (Ac (Aa 2) (Aa 7) ixD) CI) (fB (Ab (Aa 13) Ad) AC) geA))
   (Al (fC (.bl false)))
   Aq))
   Aq))))
   Aq))))
def Eh(BS Ew:Fn):M Out:=
 (Ae (An 5 (Ax (AK (Ab (CA (AK Ad)) (Ab (CA (AK Ad)) Ad)))))
 (Ae (Bq (Ck (Aa 4)) (Ao 6)
   (Dq (objM BR (Ac (Aa 5) (fB (Ab (Ac (Ac (Aa 6) (fb 1) ixD) (fC (.str "right")) (eqS id)) Ad) Gu) ixD) (Ab (Aa 6) Ad))))
 (Ae (Bq (BZ (Ab (fb 2) Ad)) (Ao 7)
   (Kt BS Ew))
 (Al (fC (.bl true))))))
def Ei:M Out:=
 (Al (Ax (AS 1 [1] (BZ (Ab (fB (Ab (Aa 0) Ad) AC) Ad)) (Ao 0) CT (Ax (AS 1 [0] (Ck (Aa 1)) (Ao 0) (Aj (Ac (Ac (Aa 0) (fb 0) ixD) (Aa 1) (eqS id))) (fSl (Aa 0) (BO (fb 1)) fNo Ci))))))
def Qw:M Out:=
 (Ae (An 5 (fb 0))
 (Ae (E9 (HY (Ab (Aa 2) Ad)) (unS 2 (Ay (Ao 6) (Ay (Ao 7) Bc)))
   (ifS (Aj (Ac (Ac (Aa 7) (fb 0) ixD) (Ac (Aa 4) (fb 0) ixD) (eqS id)))
   (An 5 (Ac (Aa 6) (fb 1) AD))
   Aq))
 (Ae (Dq (objM K4 (Aa 2) (Ab (Ac (Aa 5) (Ac (Aa 3) (Ac (Ac (fB (Ab (Aa 2) Ad) AC) (Aa 5) CI) (fb 1) AD) AX) AD) (Ab (Aa 4) Ad))))
 (An 3 (Ac (Aa 3) (fb 5) AQ)))))
def DW:M Out:=
 (Ae (An 2 (CA (AK Ad)))
 (Ae (An 3 (Aa 1))
 (Ae (Bq (Ck (Aa 0)) (Ao 4)
   (Qw))
 (Al (Aa 2)))))
def EB(Et:Fn):M Out:=
 (Ae (D2 3 (Ah Et (Ab (Aa 1) (Ab (Aa 2) Ad))))
 (Ae (ifS (Aj (Ac (Aa 3) (Aa 0) gtA))
   fail
   Aq)
 (Al (nxD (Aa 3)))))
def C8(Hc Et EK:Fn):M Out:=
 (Ae (An 3 (Ac (Ac (Aa 0) (fb 2) ixD) (Ac (Aa 0) (fb 1) ixD) CI))
 (Ae (An 4 (Ah EK (Ab (Aa 3) Ad)))
 (Ae (An 5 (fb 0))
 (Ae (Bq (BZ (Ab (Aa 4) Ad)) (Ao 6)
   (Ae (D2 5 (IN (Ac (Aa 5) (fb 256) DI) (Ah Et (Ab (Aa 1) (Ab (Ac (Aa 2) (Aa 6) AD) Ad))) AD))
 (ifS (Aj (Ac (Aa 5) (Ah Hc (Ab (Aa 3) (Ab (Ac (Ac (Aa 4) (fb 1) CI) (Aa 6) CI) Ad))) gtA))
   fail
   Aq)))
 (Al (nxD (AI (Ab (Ac (Ac (Aa 0) (fb 1) ixD) (Aa 5) AD) (Ab (Ac (Aa 2) (Aa 4) AD) Ad)))))))))
def F4(Hb Et:Fn):M Out:=
 (Ae (D2 2 (Ah Et (Ab (Aa 0) (Ab (Aa 1) Ad))))
 (Ae (ifS (CY (Aj (Ah Hb (Ab (Aa 2) Ad))))
   fail
   Aq)
 (Al (nxD (Ac (fC (.str " !\"#$ &'()*+,-./0123456789:;<=>?@ABCDEFGHIJKLMNOPQRSTUVWXYZ[\\]^_`abcdefghijklmnopqrstuvwxyz{|}~")) (Ac (Aa 2) (fb 32) CI) ixD)))))
def DX(Bu:Fn):M Out:=
 (Ae (ifS (Aj (Ac (Aa 2) (fB (Ab (Aa 1) Ad) AC) geA))
   (Al (fC .non))
   Aq)
 (Ae (ifS (Aj (Ac (Ac (Aa 1) (Aa 2) ixD) (fB (Ab (Ac (Aa 0) (fb 1) ixD) Ad) AC) geA))
   fail
   Aq)
 (Ae (An 3 (Ac (Ac (Aa 0) (fb 1) ixD) (Ac (Aa 1) (Aa 2) ixD) ixD))
 (Ae (Ge (D2 4 (Ah Bu (Ab (Ac (Aa 3) (fb 1) ixD) (Ab (Aa 1) (Ab (Ac (Aa 2) (fb 1) AD) Ad))))) (hNo "Short" (Al (fC .non)) (hAs "Broken" 5 fail Yp)))
 (Al (AI (Ab (AI (Ab (Ac (Aa 0) (fb 0) ixD) (Ab (Ac (Aa 3) (fb 0) ixD) (Ab (Ac (Aa 4) (fb 0) ixD) Ad)))) (Ab (Ac (Aa 3) (fb 2) ixD) (Ab (Ac (Aa 4) (fb 1) ixD) Ad)))))))))
def DY(Cj Em Ha:Fn):M Out:=
 (Ae (An 3 (Me "Listener" Ha (Ab (Aa 0) (Ab (Aa 1) (Ab (Aa 2) Ad)))))
 (Ae (KH (fOr (Aj (Ea "Listener" Em (Aa 3) (Ab (fC (.str "left")) Ad))) (Aj (Ea "Listener" Em (Aa 3) (Ab (fC (.str "right")) Ad))))
   Aq)
 (Ae (Dq (Ea "Listener" Cj (Aa 3) (Ab (fC (.str "left")) Ad)))
 (Ae (Dq (Ea "Listener" Cj (Aa 3) (Ab (fC (.str "right")) Ad)))
 (Al (AI (Ab (Dz "heard" (Aa 3)) (Ab (AI (Ab (Ac (Dz "places" (Aa 3)) (fC (.str "left")) BY) (Ab (Ac (Dz "places" (Aa 3)) (fC (.str "right")) BY) Ad))) Ad))))))))
def BM(Cj:Fn):M Out:=
 (Al (Ea "Listener" Cj (Aa 0) (Ab (Aa 1) Ad)))
def CP(JX HM:Fn):M Out:=
 (Ae (An 2 (Ac (Dz "wires" (Aa 0)) (Aa 1) BY))
 (Ae (An 3 (Ac (Dz "places" (Aa 0)) (Aa 1) BY))
 (Ae (ifS (Aj (Ac (Aa 3) (fB (Ab (Aa 2) Ad) AC) geA))
   (Al (fC .non))
   Aq)
 (Ae (ifS (Aj (Ac (Ac (Aa 2) (Aa 3) ixD) (fB (Ab (Dz "grammars" (Aa 0)) Ad) AC) geA))
   fail
   Aq)
 (Ae (An 4 (Ac (Ac (Dz "grammars" (Aa 0)) (Ac (Aa 2) (Aa 3) ixD) ixD) (Ac (Dz "standings" (Aa 0)) (Ac (Aa 2) (Aa 3) ixD) ixD) ixD))
 (Ae (ifS (Aj (Ah HM (Ab (Aa 4) Ad)))
   fail
   Aq)
 (Ae (ifS (Aj (Ac (Ac (Aa 4) (fb 0) ixD) (Aa 1) (eqS λb=>!b)))
   (Al (fC .non))
   Aq)
 (Al (Ah JX (Ab (Aa 4) (Ab (Aa 2) (Ab (Ac (Aa 3) (fb 1) AD) Ad))))))))))))
def P6(Fo Eu Cq Bp:Fn):M Out:=
 (Ae (An 9 (Ah Bp (Ab (Aa 0) (Ab (fb 19) Ad))))
 (Ae (An 10 (fSl (Ac (Aa 5) (fb 0) ixD) fNo (BO (Ac (Aa 9) (Ac (fB (Ab (Ac (Aa 5) (fb 0) ixD) Ad) AC) (fb 1) AD) AX)) Hy))
 (Ae (An 11 (fSl (Ac (Aa 5) (fb 1) ixD) fNo (BO (Ac (Ac (Aa 9) (fb 401) AQ) (Ac (fB (Ab (Ac (Aa 5) (fb 1) ixD) Ad) AC) (fb 1) AD) AX)) Hy))
 (Ae (Cy (Ah Cq (Ab (Ac (Aa 4) (fb 0) ixD) (Ab (Ax (fBF (Ab (Aa 10) Ad) DU)) (Ab (Ax (fBF (Ab (Aa 11) Ad) DU)) Ad)))) (unS 2 (Ay (Ao 12) (Ay (Ao 13) Bc))))
 (Ae (ifS (Aj (Ac (Aa 4) (Ax (AK (Ab (Aa 1) (Ab (Aa 3) Ad)))) (eqS λb=>!b)))
   (Al (fC (.bl false)))
   Aq)
 (Ae (ifS (Aj (Ac (Ax (AS 2 [12] (IP (Ab (Aa 6) Ad)) (unS 2 (Ay (Ao 0) (Ay (Ao 1) Bc))) CT (fSl (Aa 1) fNo (BO (fB (Ab (Ac (Aa 2) (Aa 0) ixD) Ad) AC)) Ci))) (Aa 12) (eqO λb=>!b)))
   (Al (fC (.bl false)))
   Aq)
 (Ae (ifS (fOr (Aj (Ac (Aa 13) (Ah Eu (Ab (Aa 1) (Ab (Aa 12) Ad))) (eqS λb=>!b))) (fOr (Aj (Ac (Ac (Aa 13) (fb 0) ixD) (fB (Ab (Aa 10) Ad) AC) gtA)) (Aj (Ac (Ac (Aa 13) (fb 1) ixD) (fB (Ab (Aa 11) Ad) AC) gtA))))
   (Al (fC (.bl false)))
   Aq)
 (Al (Ah Fo (Ab (Aa 1) (Ab (Aa 12) (Ab (Aa 13) (Ab (AI (Ab (Aa 10) (Ab (Aa 11) Ad))) (Ab (Aa 3) Ad))))))))))))))
def F1(Fo Eu Cq Bp KP Gg L5 N5 MD Jo:Fn):M Out:=
 (Ae (An 1 (Ah Jo (Ab (Aa 0) Ad)))
 (Ae (An 2 (fSl (Aa 0) (BO (fb 20)) (BO (fb 60)) Ci))
 (Ae (An 3 (Ah MD (Ab (Aa 1) (Ab (Aa 2) Ad))))
 (Ae (An 4 (Ax (AK (Ab (Ax (AS 1 [] (Ck (Aa 1)) (Ao 0) CT (Ax (fBF (Ab (Aa 0) Ad) DU)))) (Ab (Ax (fBF (Ab (Aa 3) Ad) DU)) Ad)))))
 (Ae (An 5 (Ah Gg (Ab (Ac (Aa 4) (fb 0) ixD) (Ab (Ac (Aa 4) (fb 1) ixD) Ad))))
 (Ae (ifS (fOr (Aj (Ac (Aa 5) (Ah N5 (Ab (Aa 1) (Ab (Aa 3) Ad))) (eqO λb=>!b))) (Aj (Ac (Aa 4) (Ax (AK (Ab (Aa 1) (Ab (Aa 3) Ad)))) (eqS λb=>!b))))
   (Al (fC (.bl false)))
   Aq)
 (Ae (An 6 (Ah L5 (Ab (Aa 1) (Ab (Aa 3) Ad))))
 (Ae (An 7 (AI (Ab (Aa 6) (Ab (AI (Ab (fB (Ab (Ac (Aa 5) (fb 0) ixD) Ad) AC) (Ab (fB (Ab (Ac (Aa 5) (fb 1) ixD) Ad) AC) Ad))) Ad))))
 (Ae (ifS (fOr (Aj (Ac (Ah Cq (Ab (Ac (Aa 4) (fb 0) ixD) (Ab (Ax (fBF (Ab (Ac (Aa 5) (fb 0) ixD) Ad) DU)) (Ab (Ax (fBF (Ab (Ac (Aa 5) (fb 1) ixD) Ad) DU)) Ad)))) (Aa 7) (eqO λb=>!b))) (Aj (Ac (Aa 4) (Ax (AK (Ab (Aa 1) (Ab (Aa 3) Ad)))) (eqS λb=>!b))))
   (Al (fC (.bl false)))
   Aq)
 (Ae (An 8 (Ah Gg (Ab (Ac (Aa 4) (fb 0) ixD) (Ab (Ah KP (Ab (Aa 3) (Ab (Ah Bp (Ab (Aa 0) (Ab (fb 18) Ad))) Ad))) Ad))))
 (Ae (ifS (Aj (Ac (Ah Cq (Ab (Ac (Aa 4) (fb 0) ixD) (Ab (Ax (fBF (Ab (Ac (Aa 8) (fb 0) ixD) Ad) DU)) (Ab (Ax (fBF (Ab (Ac (Aa 8) (fb 1) ixD) Ad) DU)) Ad)))) (Aa 7) (eqO λb=>!b)))
   (Al (fC (.bl false)))
   Aq)
 (P6 Fo Eu Cq Bp))))))))))))
end LW
namespace L2
open PySem
def W{α:Type}(m:M α)(t:T)(P:α->T->Prop):Prop:=∃a t',m t=some (a,t')/\P a t'
def Wf(g:Fn)(ds:List D)(S:List Ob)(P:D->List Ob->Prop):Prop:=∃r S',g ds S=some (r,S')/\P r S'
theorem W.mono{α:Type}{m:M α}{t:T}{P Q:α->T->Prop}(h:W m t P)(i:∀a t',P a t'->Q a t'):W m t Q:=by
 clear 5 h a t' e p;exact⟨a,t',e,i a t' p⟩
theorem Wf.mono{g:Fn}{ds:List D}{S:List Ob}{P Q:D->List Ob->Prop}(h:Wf g ds S P)(i:∀r S',P r S'->Q r S'):Wf g ds S Q:=by
 clear 5 h a t' e p;exact⟨a,t',e,i a t' p⟩
section
variable{α β:Type}
theorem Aw{m:M α}{t:T}{P:α->T->Prop}{a:α}{t':T}(e:m t=some (a,t')):W m t P↔P a t':=by
 constructor
 .rintro⟨a',t1,e',p⟩;rw[e] at e';cases e';exact p
 .exact λp=>⟨a,t',e,p⟩
theorem Dv{m:M α}{t:T}{P:α->T->Prop}(e:m t=none):W m t P↔False:=by
 constructor
 .rintro⟨a',t1,e',p⟩;rw[e] at e';cases e'
 .exact False.elim
@[simp] theorem W_ret {a:α}{t:T}{P:α->T->Prop}:W (ret a) t P↔P a t:=Aw rfl
@[simp] theorem W_fail {t:T}{P:α->T->Prop}:W (fail:M α) t P↔False:=Dv rfl
@[simp] theorem W_bnd {f:M α}{g:α->M β}{t:T}{P:β->T->Prop}:W (bnd f g) t P↔W f t λa t1=>W (g a) t1 P:=by
 constructor
 .rintro⟨b,t',e,p⟩;clear 5(Af e)a t1 e1 e2;exact⟨a,t1,e1,b,t',e2,p⟩
 .rintro⟨a,t1,e1,b,t',e2,p⟩;exact⟨b,t',by unfold bnd;rw[e1];exact e2,p⟩
@[simp] theorem UP {c:Prop} [Decidable c] {f g:M α}{t:T}{P:α->T->Prop}:W (if c then f else g) t P↔if c then W f t P else W g t P:=by split<;>rfl
@[simp] theorem d4 {n:Nat}{a:α}{t:T}{P:α->T->Prop}:W (lim n a) t P↔n<=LIM/\P a t:=by
 unfold lim;constructor
 .rintro⟨a',t',e,p⟩
  split at e
  .cases e;exact⟨by assumption,p⟩
  .cases e
 .rintro⟨h,p⟩;exact⟨a,t,by simp only[h,hU],p⟩
end
section
variable{t:T}{env:List (Option Sl)}{S:List Ob}
@[simp] theorem W_fC {d:D}{P:D->T->Prop}:W (fC d) t P↔P d t:=Aw rfl
@[simp] theorem QO {i:Nat}{P:D->T->Prop}:W (Aa i) t P↔match t.env[i]? with
 |some (some (.val d))=>P d t
 |some (some (.own ds))=>P (.lst ds) ⟨t.env.set i (vw (.lst ds)),t.S⟩
 |_=>False:=by
 cases e:t.env[i]? with
 |none=>exact Dv (by unfold Aa;simp[e])
 |some o=>
   cases o with
   |none=>exact Dv (by unfold Aa;simp[e])
   |some sl=>
     cases sl with
     |val d=>exact Aw (by unfold Aa;simp[e])
     |own ds=>exact Aw (by unfold Aa;simp[e])
@[simp] theorem W_fBin {f g:M D}{h:D->D->M D}{P:D->T->Prop}:W (Ac f g h) t P↔W f t λx t1=>W g t1 λy t2=>W (h x y) t2 P:=by simp[Ac]
@[simp] theorem W_fUn {f:M D}{h:D->M D}{P:D->T->Prop}:W (fUn f h) t P↔W f t λx t1=>W (h x) t1 P:=by simp[fUn]
@[simp] theorem W_toB {b:Bool}{P:Bool->T->Prop}:W (toB (.bl b)) t P↔P b t:=Aw rfl
@[simp] theorem W_fTst {f:M D}{P:Bool->T->Prop}:W (Aj f) t P↔W f t λx t1=>W (toB x) t1 P:=by simp[Aj]
@[simp] theorem W_fChain {f g w:M D}{h h':D->D->M D}{P:D->T->Prop}:W (Fg f g w h h') t P↔W f t λx t1=>W g t1 λy t2=>W (h x y) t2 λk t3=>W (toB k) t3 λk t4=>if k=true then W w t4 λz t5=>W (h' y z) t5 P else P (.bl false) t4:=by
 simp[Fg]
@[simp] theorem W_fAnd {f g:M Bool}{P:Bool->T->Prop}:W (Jr f g) t P↔W f t λk t1=>if k=true then W g t1 P else P false t1:=by simp[Jr]
@[simp] theorem W_fOr {f g:M Bool}{P:Bool->T->Prop}:W (fOr f g) t P↔W f t λk t1=>if k=true then P true t1 else W g t1 P:=by simp[fOr]
@[simp] theorem W_fNot {f:M Bool}{P:Bool->T->Prop}:W (CY f) t P↔W f t λk t1=>P (!k) t1:=by simp[CY]
@[simp] theorem W_fAndV {f g:M D}{P:D->T->Prop}:W (FD f g) t P↔W f t λx t1=>W (toB x) t1 λk t2=>if k=true then W g t2 P else P (.bl false) t2:=by simp[FD]
@[simp] theorem dO {f g:M D}{P:D->T->Prop}:W (XY f g) t P↔W f t λx t1=>W (toB x) t1 λk t2=>if k=true then P (.bl true) t2 else W g t2 P:=by simp[XY]
@[simp] theorem W_fNotV {f:M D}{P:D->T->Prop}:W (IQ f) t P↔W f t λx t1=>W (toB x) t1 λk t2=>P (.bl (!k)) t2:=by simp[IQ]
@[simp] theorem W_fIf {f:M Bool}{g h:M D}{P:D->T->Prop}:W (fIf f g h) t P↔W f t λk t1=>if k=true then W g t1 P else W h t1 P:=by simp[fIf]
@[simp] theorem W_fNil {P:List D->T->Prop}:W Ad t P↔P [] t:=Aw rfl
@[simp] theorem W_fCons {f:M D}{g:M (List D)}{P:List D->T->Prop}:W (Ab f g) t P↔W f t λd t1=>W g t1 λds t2=>P (d::ds) t2:=by simp[Ab]
@[simp] theorem W_fTup {f:M (List D)}{P:D->T->Prop}:W (AI f) t P↔W f t λds t1=>ds.length<=LIM/\P (.tup ds) t1:=by simp[AI]
@[simp] theorem W_fLst {f:M (List D)}{P:List D->T->Prop}:W (AK f) t P↔W f t λds t1=>ds.length<=LIM/\P ds t1:=by simp[AK]
@[simp] theorem W_fPure {f:M (List D)}{P:D->T->Prop}:W (Ax f) t P↔W f t λds t1=>P (.lst ds) t1:=by simp[Ax]
@[simp] theorem W_newOb {o:Ob}{P:D->T->Prop}:W (Qd o) t P↔P (.obj t.S.length) ⟨t.env,t.S++[o]⟩:=Aw rfl
@[simp] theorem XG {f:M (List D)}{P:D->T->Prop}:W (CA f) t P↔W f t λds t1=>W (Qd (.lst ds)) t1 P:=by simp[CA]
@[simp] theorem W_fCall {g:Fn}{f:M (List D)}{P:D->T->Prop}:W (Ah g f) t P↔W f t λds t1=>Wf g ds t1.S λr S'=>P r ⟨t1.env,S'⟩:=by
 unfold Ah;rw[W_bnd];constructor
 .rintro⟨ds,t1,e1,r,t',e2,p⟩;refine⟨ds,t1,e1,?_⟩;dsimp only at e2
  cases e:g ds t1.S with
  |none=>rw[e] at e2;cases e2
  |some z=>clear 5 z r' S';rw[e] at e2;cases e2;exact⟨r,_,e,p⟩
 .rintro⟨ds,t1,e1,r,S',e2,p⟩;exact⟨ds,t1,e1,r,_,by simp only[e2],p⟩
@[simp] theorem W_fB {f:M (List D)}{h:List D->M D}{P:D->T->Prop}:W (fB f h) t P↔W f t λds t1=>W (h ds) t1 P:=by simp[fB]
@[simp] theorem W_fBF {f:M (List D)}{h:List D->M (List D)}{P:List D->T->Prop}:W (fBF f h) t P↔W f t λds t1=>W (h ds) t1 P:=by simp[fBF]
@[simp] theorem W_seqS {f g:M Out}{P:Out->T->Prop}:W (Ae f g) t P↔W f t λo t1=>match o with
 |.next=>W g t1 P
 |.brk=>P .brk t1
 |.cont=>P .cont t1
 |.ret d=>P (.ret d) t1:=by
 unfold Ae;constructor
 .rintro⟨o,t',e,p⟩;dsimp only at e
  cases e1:f t with
  |none=>rw[e1] at e;cases e
  |some z=>
    clear 5 z o1 t1;rw[e1] at e;refine⟨o1,t1,e1,?_⟩
    cases o1 with
    |next=>exact⟨o,t',e,p⟩
    |brk=>cases e;exact p
    |cont=>cases e;exact p
    |ret d=>cases e;exact p
 .rintro⟨o,t1,e,p⟩
  cases o with
  |next=>clear 5 p o t' e' p;exact⟨o,t',by simp only[e];exact e',p⟩
  |brk=>exact⟨_,_,by simp only[e],p⟩
  |cont=>exact⟨_,_,by simp only[e],p⟩
  |ret d=>exact⟨_,_,by simp only[e],p⟩
@[simp] theorem W_skipS {P:Out->T->Prop}:W Aq t P↔P .next t:=Aw rfl
@[simp] theorem W_retS {f:M D}{P:Out->T->Prop}:W (Al f) t P↔W f t λd t1=>P (.ret d) t1:=by simp[Al]
@[simp] theorem W_dropS {f:M D}{P:Out->T->Prop}:W (Dq f) t P↔W f t λd t1=>P .next t1:=by simp[Dq]
@[simp] theorem W_ifS {f:M Bool}{g h:M Out}{P:Out->T->Prop}:W (ifS f g h) t P↔W f t λk t1=>if k=true then W g t1 P else W h t1 P:=by simp[ifS]
@[simp] theorem W_putV {i:Nat}{d:D}{P:Unit->T->Prop}:W (Ao i d) t P↔P () ⟨t.env.set i (vw d),t.S⟩:=Aw rfl
@[simp] theorem W_setS {i:Nat}{f:M D}{P:Out->T->Prop}:W (An i f) t P↔W f t λd t1=>P .next ⟨t1.env.set i (vw d),t1.S⟩:=by
 simp only[An,W_bnd,W_ret,W_putV]
@[simp] theorem W_ownS {i:Nat}{f:M (List D)}{P:Out->T->Prop}:W (C9 i f) t P↔W f t λds t1=>P .next ⟨t1.env.set i (some (.own ds)),t1.S⟩:=by
 unfold C9;rw[W_bnd];have:∀(ds:List D) (t1:T),W (λt:T=>some (Out.next,({t with env:=t.env.set i (some (.own ds))}:T))) t1 P↔P .next ⟨t1.env.set i (some (.own ds)),t1.S⟩:=λds t1=>Aw rfl;simp only[this]
@[simp] theorem W_asgS {f:M D}{g:D->M Unit}{P:Out->T->Prop}:W (Cy f g) t P↔W f t λd t1=>W (g d) t1 λ_ t2=>P .next t2:=by simp[Cy]
@[simp] theorem W_putNil {P:Unit->T->Prop}:W (Bc []) t P↔P () t:=Aw rfl
@[simp] theorem W_putCons {f:D->M Unit}{g:List D->M Unit}{d:D}{ds:List D}{P:Unit->T->Prop}:W (Ay f g (d::ds)) t P↔W (f d) t λ_ t1=>W (g ds) t1 P:=by simp[Ay]
@[simp] theorem bI {n:Nat}{g:List D->M Unit}{ds:List D}{P:Unit->T->Prop}:W (unS n g (.lst ds)) t P↔ds.length=n/\W (g ds) t P:=by
 unfold unS;simp only[UP,W_fail];split<;>simp[*]
@[simp] theorem W_unS_tup {n:Nat}{g:List D->M Unit}{ds:List D}{P:Unit->T->Prop}:W (unS n g (.tup ds)) t P↔ds.length=n/\W (g ds) t P:=by
 unfold unS;simp only[UP,W_fail];split<;>simp[*]
@[simp] theorem W_forS {f:M (List D)}{st:D->M Unit}{b:M Out}{P:Out->T->Prop}:W (Bq f st b) t P↔W f t λds t1=>W (Cl st b ds) t1 P:=by simp[Bq]
@[simp] theorem W_forL_nil {st:D->M Unit}{b:M Out}{P:Out->T->Prop}:W (Cl st b []) t P↔P .next t:=Aw rfl
theorem E7{st:D->M Unit}{b:M Out}{d:D}{r:List D}{P:Out->T->Prop}:W (Cl st b (d::r)) t P↔W (st d) t λ_ t1=>W b t1 λo t2=>match o with
 |.next=>W (Cl st b r) t2 P
 |.cont=>W (Cl st b r) t2 P
 |.brk=>P .next t2
 |.ret x=>P (.ret x) t2:=by
 constructor
 .rintro⟨o,t',e,p⟩;unfold Cl at e
  cases e1:st d t with
  |none=>rw[e1] at e;cases e
  |some z=>
    clear 5 z u t1;rw[e1] at e
    try dsimp only at e
    refine⟨u,t1,e1,?_⟩
    cases e2:b t1 with
    |none=>rw[e2] at e;cases e
    |some z=>
      clear 5 z o2 t2;rw[e2] at e
      try dsimp only at e
      refine⟨o2,t2,e2,?_⟩
      cases o2 with
      |next=>exact⟨o,t',e,p⟩
      |cont=>exact⟨o,t',e,p⟩
      |brk=>cases e;exact p
      |ret x=>cases e;exact p
 .rintro⟨u,t1,e1,o,t2,e2,p⟩
  cases o with
  |next=>clear 5 p o t' e' p;exact⟨o,t',by unfold Cl;simp only[e1,e2];exact e',p⟩
  |cont=>clear 5 p o t' e' p;exact⟨o,t',by unfold Cl;simp only[e1,e2];exact e',p⟩
  |brk=>exact⟨_,_,by unfold Cl;simp only[e1,e2],p⟩
  |ret x=>exact⟨_,_,by unfold Cl;simp only[e1,e2],p⟩
theorem BX{st:D->M Unit}{b:M Out}{P:Out->T->Prop}(I:List D->T->Prop):∀(ds:List D) (t:T),I ds t->
 (∀d r t,I (d :: r) t->d∈ds->W (st d) t λ_ t1=>W b t1 λo t2=>match o with
   |.next=>I r t2
   |.cont=>I r t2
   |.brk=>P .next t2
   |.ret x=>P (.ret x) t2)->(∀t,I [] t->P .next t)->W (Cl st b ds) t P
 |[],t,h,_,fin=>W_forL_nil.mpr (fin t h)
 |d::r,t,h,turn,fin=>by
   rw[E7];refine(turn d r t h uf0).mono λ_ t1 h1=>h1.mono λo t2 h2=>?_
   cases o with
   |next=>exact BX I r t2 h2 (λd' r' t' h' m=>turn d' r' t' h' (ud5 _ m)) fin
   |cont=>exact BX I r t2 h2 (λd' r' t' h' m=>turn d' r' t' h' (ud5 _ m)) fin
   |brk=>exact h2
   |ret x=>exact h2
@[simp] theorem W_fComp {n:Nat}{fr:List Nat}{f:M (List D)}{st:D->M Unit}{tst:M Bool}{elt:M D}{P:List D->T->Prop}:W (AS n fr f st tst elt) t P↔W f t λds t1=>W (Bl st tst elt ds) ⟨cenv n fr t1.env,t1.S⟩ λxs t'=>xs.length<=LIM/\P xs ⟨t1.env,t'.S⟩:=by
 unfold AS;rw[W_bnd];constructor
 .rintro⟨ds,t1,e1,xs,t',e2,p⟩;refine⟨ds,t1,e1,?_⟩;dsimp only at e2
  cases e:Bl st tst elt ds ⟨cenv n fr t1.env,t1.S⟩ with
  |none=>rw[e] at e2;cases e2
  |some z=>
    clear 5 z ys t3;rw[e] at e2;dsimp only at e2
    split at e2
    .cases e2;exact⟨_,_,e,by assumption,p⟩
    .cases e2
 .rintro⟨ds,t1,e1,xs,t',e2,h,p⟩;exact⟨ds,t1,e1,xs,_,by simp only[e2,h,hU],p⟩
@[simp] theorem W_compL_nil {st:D->M Unit}{tst:M Bool}{elt:M D}{P:List D->T->Prop}:W (Bl st tst elt []) t P↔P [] t:=Aw rfl
theorem CK{st:D->M Unit}{tst:M Bool}{elt:M D}{d:D}{r:List D}{P:List D->T->Prop}:W (Bl st tst elt (d::r)) t P↔W (st d) t λ_ t1=>W tst t1 λk t2=>
 if k=true then W elt t2 λx t3=>W (Bl st tst elt r) t3 λxs t4=>P (x::xs) t4 else W (Bl st tst elt r) t2 P:=by
 rw[Bl];simp
theorem JO{st:D->M Unit}{tst:M Bool}{elt:M D}{P:List D->T->Prop}(I:List D->List D->T->Prop):∀(ds:List D) (acc:List D) (t:T),I acc ds t->
 (∀acc d r t,I acc (d::r) t->d∈ds->W (st d) t λ_ t1=>W tst t1 λk t2=>if k=true then W elt t2 λx t3=>I (acc++[x]) r t3 else I acc r t2)->
 (∀acc t,I acc [] t->P acc t)->W (Bl st tst elt ds) t λxs t'=>P (acc++xs) t'
 |[],acc,t,h,_,fin=>W_compL_nil.mpr (by rw[uj0];exact fin acc t h)
 |d::r,acc,t,h,turn,fin=>by
   rw[CK];have turn':∀acc d' r' t',I acc (d'::r') t'->d'∈r->_:=λacc d' r' t' h' m=>turn acc d' r' t' h' (ud5 _ m);refine(turn acc d r t h uf0).mono λ_ t1 h1=>h1.mono λk t2 h2=>?_
   cases k with
   |true=>
     rw[hX rfl] at h2⊢;refine h2.mono λx t3 h3=>(JO I r (acc++[x]) t3 h3 turn' fin).mono λxs t4 h4=>?_;rw[ug3] at h4;exact h4
   |false=>
     rw[ia uf1] at h2⊢;exact JO I r acc t2 h2 turn' fin
theorem Ap{n m:Nat}{g:M Out}{ds:List D}{P:D->List Ob->Prop}(h:ds.length=n)(w:W g ⟨env0 m ds,S⟩ λo t=>match o with
 |.ret r=>P r t.S
 |.next=>P .non t.S
 |_=>False):Wf (fnOf n m g) ds S P:=by
 clear 5 w o t e p
 cases o with
 |ret r=>exact⟨r,t.S,by unfold fnOf;rw[hX h,e],p⟩
 |next=>exact⟨.non,t.S,by unfold fnOf;rw[hX h,e],p⟩
 |brk=>exact p.elim
 |cont=>exact p.elim
@[simp] theorem W_tTru {P:Bool->T->Prop}:W CT t P↔P true t:=Aw rfl
@[simp] theorem dN {P:D->T->Prop}:W XX t P↔P .dic t:=Aw rfl
end
section
variable{t:T}{P:D->T->Prop}
theorem JQ{α β:Type}{o:Option β}{g:β->α×T}{Q:α->T->Prop}{m:M α}(e:m t=o.map g):W m t Q↔∃b,o=some b/\Q (g b).1 (g b).2:=by
 constructor
 .rintro⟨a,t',e',p⟩;rw[e] at e';clear 5(uc2.mp e')b h1 h2;exact⟨b,h1,by rw[h2];exact p⟩
 .rintro⟨b,h,p⟩;exact⟨_,_,by rw[e,h];rfl,p⟩
theorem SY{α:Type}{c:Prop}[Decidable c]{z:α×T}{Q:α->T->Prop}{m:M α}(e:m t=if c then some z else none):W m t Q↔c/\Q z.1 z.2:=by
 constructor
 .rintro⟨a,t',e',p⟩;rw[e] at e'
  split at e'
  .cases e';exact⟨by assumption,p⟩
  .cases e'
 .rintro⟨h,p⟩;exact⟨_,_,by rw[e,hX h],p⟩
theorem My{α β:Type}{o:Option β}(f:β->α){Q:α->T->Prop}{m:M α}(e:m t=o.map λb=>(f b,t)):W m t Q↔∃b,o=some b/\Q (f b) t:=JQ (g:=λb=>(f b,t)) e
theorem JP{α:Type}{c:Prop}[Decidable c]{a:α}{Q:α->T->Prop}{m:M α}(e:m t=if c then some (a,t) else none):W m t Q↔c/\Q a t:=SY (z:=(a,t)) e
@[simp] theorem W_ix_tup {ds:List D}{i:Int}:W (ixD (.tup ds) (.int i)) t P↔∃d,atI ds i=some d/\P d t:=My id rfl
@[simp] theorem W_ix_lst {ds:List D}{i:Int}:W (ixD (.lst ds) (.int i)) t P↔∃d,atI ds i=some d/\P d t:=My id rfl
@[simp] theorem W_ix_scr {ns:List Int}{i:Int}:W (ixD (.scr ns) (.int i)) t P↔∃n,atI ns i=some n/\P (.int n) t:=My D.int rfl
@[simp] theorem W_ix_str {x:Str}{i:Int}:W (ixD (.str x) (.int i)) t P↔x.length<=LIM/\∃n,atI x.cps.toList i=some n/\P (.str ⟨#[n]⟩) t:=by
 by_cases h:x.length<=LIM
 .have:ixD (.str x) (.int i) t=(atI x.cps.toList i).map λn=>(.str ⟨#[n]⟩,t):=by simp only[ixD,h,hU]
  rw[JQ this];simp[h]
 .rw[Dv (by simp only[ixD,h,gZ])];simp[h]
@[simp] theorem W_ix_obj {k:Nat}{i:Int}:W (ixD (.obj k) (.int i)) t P↔∃ds,t.S[k]?=some (.lst ds)/\∃d,atI ds i=some d/\P d t:=by
 cases e:t.S[k]? with
 |none=>rw[Dv (by simp only[ixD,e])];simp
 |some o=>
   cases o with
   |dct _|ins _ _=>rw[Dv (by simp only[ixD,e])];simp
   |lst ds=>
     have:ixD (.obj k) (.int i) t=(atI ds i).map λd=>(d,t):=by simp only[ixD,e]
     rw[JQ this];simp
@[simp] theorem II {α:Type}{a:α}{r:List α}:atI (a::r) 0=some a:=by simp[atI,ixN]
@[simp] theorem UQ {α:Type}{a b:α}{r:List α}:atI (a::b::r) 1=some b:=by
 have:(1:Int)<((a::b::r).length:Nat):=by simp;lia
 simp only[atI,ixN,this,hU,show(0:Int)<=1 by decide];rfl
@[simp] theorem UR {α:Type}{a b c:α}{r:List α}:atI (a::b::c::r) 2=some c:=by
 have:(2:Int)<((a::b::c::r).length:Nat):=by simp;lia
 simp only[atI,ixN,this,hU,show(0:Int)<=2 by decide];rfl
@[simp] theorem W_len_lst {ds:List D}:W (AC [.lst ds]) t P↔P (.int ds.length) t:=Aw rfl
@[simp] theorem W_len_tup {ds:List D}:W (AC [.tup ds]) t P↔P (.int ds.length) t:=Aw rfl
@[simp] theorem W_len_scr {ds:List Int}:W (AC [.scr ds]) t P↔P (.int ds.length) t:=Aw rfl
@[simp] theorem W_len_str {x:Str}:W (AC [.str x]) t P↔x.length<=LIM/\P (.int x.length) t:=by simp[AC]
@[simp] theorem W_len_obj {k:Nat}:W (AC [.obj k]) t P↔∃ds,t.S[k]?=some (.lst ds)/\P (.int ds.length) t:=by
 cases e:t.S[k]? with
 |none=>rw[Dv (by simp only[AC,e])];simp
 |some o=>
   cases o with
   |dct _|ins _ _=>rw[Dv (by simp only[AC,e])];simp
   |lst ds=>rw[Aw (a:=.int ds.length) (t':=t) (by simp only[AC,e])];simp
@[simp] theorem W_isi {d:D}{m:String}:W (CO [d,.ty m]) t P↔∃n,tyD d=some n/\∃b,FY n m=some b/\P (.bl b) t:=by
 cases e:tyD d with
 |none=>rw[Dv (by simp only[CO,e])];simp
 |some n=>
   have:CO [d,.ty m] t=(FY n m).map λb=>(.bl b,t):=by simp only[CO,e]
   rw[JQ this];simp
noncomputable def FE:D->Bool
 |.non=>true
 |_=>false
noncomputable def b5(b:Bool):D->Bool
 |.bl c=>c==b
 |_=>false
@[simp] theorem W_is_non {x:D}:W (isC x .non) t P↔P (.bl (FE x)) t:=Aw (by cases x<;>rfl)
@[simp] theorem dL {x:D}{b:Bool}:W (isC x (.bl b)) t P↔P (.bl (b5 b x)) t:=Aw (by cases x<;>rfl)
@[simp] theorem W_isNot {x y:D}:W (GK x y) t P↔W (isC x y) t λd t1=>W (toB d) t1 λb t2=>P (.bl (!b)) t2:=by
 unfold GK;rw[W_bnd];constructor
 .exact λh=>h.mono λd t1 h1=>by
   cases d with
   |bl b=>simpa using h1
   |_=>exact(W_fail.mp h1).elim
 .exact λh=>h.mono λd t1 h1=>by
   cases d with
   |bl b=>simpa using h1
   |_=>obtain⟨_,_,e,_⟩:=h1;cases e
@[simp] theorem W_add_int {i j:Int}:W (AD (.int i) (.int j)) t P↔P (.int (i+j)) t:=Aw rfl
@[simp] theorem W_sub_int {i j:Int}:W (CI (.int i) (.int j)) t P↔P (.int (i-j)) t:=Aw rfl
@[simp] theorem W_lt_int {i j:Int}:W (ltA (.int i) (.int j)) t P↔P (.bl (decide (i<j))) t:=Aw rfl
@[simp] theorem W_le_int {i j:Int}:W (leA (.int i) (.int j)) t P↔P (.bl (decide (i<=j))) t:=Aw rfl
@[simp] theorem W_gt_int {i j:Int}:W (gtA (.int i) (.int j)) t P↔P (.bl (decide (j<i))) t:=Aw rfl
@[simp] theorem W_ge_int {i j:Int}:W (geA (.int i) (.int j)) t P↔P (.bl (decide (j<=i))) t:=Aw rfl
@[simp] theorem bN {i j:Str}:W (ltA (.str i) (.str j)) t P↔P (.bl (decide (i.cps.toList<j.cps.toList))) t:=Aw rfl
@[simp] theorem bK {i j:Str}:W (gtA (.str i) (.str j)) t P↔P (.bl (decide (j.cps.toList<i.cps.toList))) t:=Aw rfl
@[simp] theorem W_neg {i:Int}:W (Nd (.int i)) t P↔P (.int (-i)) t:=Aw rfl
@[simp] theorem W_fdiv {i j:Int}:W (AQ (.int i) (.int j)) t P↔(0<j/\j<1073741824)/\P (.int (i/j)) t:=by
 rw[SY (m:=AQ (.int i) (.int j)) (c:=Mb i j=true) (z:=(.int (i/j),t)) rfl];simp[Mb]
@[simp] theorem W_mod {i j:Int}:W (AX (.int i) (.int j)) t P↔0<j/\P (.int (i%j)) t:=by
 rw[SY (m:=AX (.int i) (.int j)) (c:=decide (0<j)=true) (z:=(.int (i%j),t)) rfl];simp
@[simp] theorem W_pow {i j:Int}:W (Nr (.int i) (.int j)) t P↔Mi i j=true/\P (.int (i ^ j.toNat)) t:=JP rfl
@[simp] theorem W_mul_int {i j:Int}:W (DI (.int i) (.int j)) t P↔FG i j=true/\P (.int (i*j)) t:=JP rfl
theorem Wb{i j:Int}(h1 : -18446744073709551616<i)(h2:i<18446744073709551616):FG i j=true:=by simp[FG,h1,h2]
theorem OK{i j:Int}(h1 : -18446744073709551616<j)(h2:j<18446744073709551616):FG i j=true:=by simp[FG,h1,h2]
theorem Bg{k:Int}(h1 : -4611686018427387904<=k)(h2:k<4611686018427387904):De k=true:=by simp[De,h1,h2]
@[simp] theorem W_add_str {x y:Str}:W (AD (.str x) (.str y)) t P↔x.length+y.length<=LIM/\P (.str (x++y)) t:=by
 have:AD (.str x) (.str y)=lim (x.length+y.length) (.str (x++y)):=rfl;rw[this];simp
@[simp] theorem W_add_lst {x y:List D}:W (AD (.lst x) (.lst y)) t P↔x.length+y.length<=LIM/\P (.lst (x++y)) t:=by
 have:AD (.lst x) (.lst y)=lim (x.length+y.length) (.lst (x++y)):=rfl;rw[this];simp
@[simp] theorem W_cat {x y:List D}{Q:List D->T->Prop}:W (Jp (.lst x) (.lst y)) t Q↔x.length+y.length<=LIM/\Q (x++y) t:=by
 have:Jp (.lst x) (.lst y)=lim (x.length+y.length) (x++y):=rfl;rw[this];simp
@[simp] theorem dZ {i:Int}:W (bP [.int i]) t P↔P (.int (if i<0 then -i else i)) t:=Aw rfl
@[simp] theorem W_min {i j:Int}:W (K8 [.int i,.int j]) t P↔P (.int (if j<i then j else i)) t:=Aw rfl
@[simp] theorem d5 {i j:Int}:W (b8 [.int i,.int j]) t P↔P (.int (if j > i then j else i)) t:=Aw rfl
@[simp] theorem bF {i:Int}:W (Gu [.int i]) t P↔P (.int i) t:=Aw rfl
@[simp] theorem W_int_bl {b:Bool}:W (Gu [.bl b]) t P↔P (.int (if b then 1 else 0)) t:=Aw rfl
@[simp] theorem W_ord {x:Str}:W (JD [.str x]) t P↔x.length=1/\P (.int (x.cps.getD 0 0:Nat)) t:=JP rfl
@[simp] theorem bH {ds:List D}:W (cK [.lst ds]) t P↔P (.tup ds) t:=Aw rfl
@[simp] theorem W_lst_lst {ds:List D}{Q:List D->T->Prop}:W (DU [.lst ds]) t Q↔Q ds t:=Aw rfl
@[simp] theorem bG {ds:List D}{Q:List D->T->Prop}:W (DU [.tup ds]) t Q↔Q ds t:=Aw rfl
@[simp] theorem W_eq_str {g:Bool->Bool}{x y:Str}:W (eqS g (.str x) (.str y)) t P↔P (.bl (g (x==y))) t:=Aw rfl
@[simp] theorem W_eq_int {g:Bool->Bool}{x y:Int}:W (eqS g (.int x) (.int y)) t P↔P (.bl (g (x==y))) t:=Aw rfl
@[simp] theorem dJ {g:Bool->Bool}{x y:Bool}:W (eqS g (.bl x) (.bl y)) t P↔P (.bl (g (x==y))) t:=Aw rfl
@[simp] theorem W_eq_nil {g:Bool->Bool}{x:List D}:W (eqS g (.lst x) (.lst [])) t P↔P (.bl (g x.isEmpty)) t:=by
 refine Aw ?_
 cases x<;>rfl
theorem Iq{a b:String}:Str.ofString a=Str.ofString b↔a=b:=by
 constructor
 .intro h;rw[Str.ofString_eq_toList,Str.ofString_eq_toList] at h;injection h with h
  have h:=gY Array.toList h;simp only at h;have hinj:∀xs ys:List Char,xs.map Char.toNat=ys.map Char.toNat->xs=ys:=by
   intro xs
   induction xs with
   |nil=>intro ys h;cases ys with|nil=>rfl|cons _ _=>simp at h
   |cons x xs ih=>
     intro ys h
     cases ys with
     |nil=>simp at h
     |cons y ys=>
       simp only[ul3,List.cons.injEq] at h;rw[ih ys h.2,Char.toNat_inj.mp h.1]
  exact String.toList_inj.mp (hinj _ _ (by simpa using h))
 .exact λh=>by rw[h]
@[simp] theorem YL {a b:String}:(Str.ofString a==Str.ofString b)=(a==b):=by
 rw[Bool.eq_iff_iff,gS,gS,Iq]
@[simp] theorem W_sl_lst {ds:List D}{lo hi:Option Int}:W (Ci (.lst ds) lo hi) t P↔P (.lst (AV ds lo hi)) t:=Aw rfl
@[simp] theorem W_sl_scr {ds:List Int}{lo hi:Option Int}:W (Ci (.scr ds) lo hi) t P↔P (.lst ((AV ds lo hi).map .int)) t:=Aw rfl
@[simp] theorem bO {x:Str}{lo hi:Option Int}:W (Ci (.str x) lo hi) t P↔x.length<=LIM/\P (.str (Txt.slice x lo hi)) t:=by
 have:Ci (.str x) lo hi=lim x.length (.str (Txt.slice x lo hi)):=rfl;rw[this];simp
@[simp] theorem W_sl_tup {ds:List D}{lo hi:Option Int}:W (Ci (.tup ds) lo hi) t P↔P (.tup (AV ds lo hi)) t:=Aw rfl
@[simp] theorem W_fSl {f:M D}{l u:M (Option Int)}{h:D->Option Int->Option Int->M D}:W (fSl f l u h) t P↔W f t λx t1=>W l t1 λlo t2=>W u t2 λhi t3=>W (h x lo hi) t3 P:=by simp[fSl]
@[simp] theorem W_fNo {Q:Option Int->T->Prop}:W fNo t Q↔Q none t:=Aw rfl
@[simp] theorem W_asI {i:Int}{Q:Option Int->T->Prop}:W (asI (.int i)) t Q↔Q (some i) t:=Aw rfl
@[simp] theorem W_fPart {f:M D}{Q:Option Int->T->Prop}:W (BO f) t Q↔W f t λx t1=>W (asI x) t1 Q:=by simp[BO]
@[simp] theorem W_fItA {f:M D}{Q:List D->T->Prop}:W (Ck f) t Q↔W f t λx t1=>W (D7 x) t1 Q:=by simp[Ck]
@[simp] theorem W_it_lst {ds:List D}{Q:List D->T->Prop}:W (D7 (.lst ds)) t Q↔Q ds t:=Aw rfl
@[simp] theorem bM {ds:List D}{Q:List D->T->Prop}:W (D7 (.tup ds)) t Q↔Q ds t:=Aw rfl
@[simp] theorem bL {ds:List Int}{Q:List D->T->Prop}:W (D7 (.scr ds)) t Q↔Q (ds.map .int) t:=Aw rfl
@[simp] theorem W_it_str {x:Str}{Q:List D->T->Prop}:W (D7 (.str x)) t Q↔Q (x.cps.toList.map λc=>.str ⟨#[c]⟩) t:=Aw rfl
@[simp] theorem W_fRng1 {f:M (List D)}{Q:List D->T->Prop}:W (BZ f) t Q↔W f t λx t1=>W (Li x) t1 Q:=by simp[BZ]
@[simp] theorem W_fRng2 {f:M (List D)}{Q:List D->T->Prop}:W (Gi f) t Q↔W f t λx t1=>W (Lj x) t1 Q:=by simp[Gi]
@[simp] theorem W_rng1 {j:Int}{Q:List D->T->Prop}:W (Li [.int j]) t Q↔De j=true/\Q (AM 0 j.toNat) t:=JP rfl
@[simp] theorem W_rng2 {i j:Int}{Q:List D->T->Prop}:W (Lj [.int i,.int j]) t Q↔(De i&&De j)=true/\Q (AM i (j-i).toNat) t:=JP rfl
@[simp] theorem W_ownM {i:Nat}{h:List D->List D->Option (List D)}{g:M (List D)}{Q:Out->T->Prop}:W (ownM i h g) t Q↔(∃xs,t.env[i]?=some (some (.own xs)))/\W g t λds t1=>∃xs,t1.env[i]?=some (some (.own xs))/\∃ys,h xs ds=some ys/\Q .next ⟨t1.env.set i (some (.own ys)),t1.S⟩:=by
 constructor
 .rintro⟨o,t',e,p⟩;unfold ownM at e
  split at e
  .next xs e0=>
   refine⟨⟨xs,e0⟩,?_⟩;clear 5(Af e)ds t1 e1 e;refine⟨ds,t1,e1,?_⟩
   split at e
   .next ys e2=>
    clear 5(uc2.mp e)zs e3 e4
    cases e4
    exact⟨ys,e2,zs,e3,p⟩
   .cases e
  .cases e
 .rintro⟨⟨xs,e0⟩,ds,t1,e1,ys,e2,zs,e3,p⟩;exact⟨_,_,by unfold ownM bnd;simp only[e0,e1,e2,e3,uj8],p⟩
@[simp] theorem app1_one {xs:List D}{d:D}{ys:List D}:BR xs [d]=some ys↔xs.length<LIM/\xs++[d]=ys:=by
 unfold BR;split<;>simp[*]
@[simp] theorem W_stD {f g:M D}{d:D}{Q:Unit->T->Prop}:W (stD f g d) t Q↔W f t λo t1=>W g t1 λi t2=>W (Gb o i d) t2 Q:=by simp[stD]
@[simp] theorem W_stOb {k:Nat}{j:Int}{d:D}{Q:Unit->T->Prop}:W (Gb (.obj k) (.int j) d) t Q↔∃xs,t.S[k]?=some (.lst xs)/\∃n,ixN xs.length j=some n/\Q () ⟨t.env,t.S.set k (.lst (xs.set n d))⟩:=by
 cases e:t.S[k]? with
 |none=>rw[Dv (by simp only[Gb,e])];simp
 |some o=>
   cases o with
   |dct _|ins _ _=>rw[Dv (by simp only[Gb,e])];simp
   |lst ds=>
     have:Gb (.obj k) (.int j) d t=(ixN ds.length j).map λn=>((),{t with S:=t.S.set k (.lst (ds.set n d))}):=by simp only[Gb,e]
     rw[JQ this];simp
end
section
variable{t:T}{P:D->T->Prop}{Q:List D->T->Prop}{R:Out->T->Prop}{B:Bool->T->Prop}{U:Unit->T->Prop}
def FZ(k:Bool)(A B:Prop):Prop:=if k=true then A else B
theorem ES{k:Bool}{A B:Prop}(h:k=true)(a:A):FZ k A B:=by unfold FZ;rw[hX h];exact a
theorem Cc{k:Bool}{A B:Prop}(h:k=false)(b:B):FZ k A B:=by unfold FZ;rw[ia (by rw[h];exact uf1)];exact b
theorem DT{k:Bool}{A B:Prop}(a:k=true->A)(b:k=false->B):FZ k A B:=by cases h:k with
 |true=>exact ES rfl (a h)
 |false=>exact Cc rfl (b h)
def Hx(g:M Out)(R:Out->T->Prop)(o:Out)(t1:T):Prop:=match o with
 |.next=>W g t1 R
 |o=>R o t1
variable{t1:T}
theorem Bj{g:M Out}(h:W g t1 R):Hx g R .next t1:=h
theorem Ux{g:M Out}{d:D}(h:R (.ret d) t1):Hx g R (.ret d) t1:=h
theorem dr{f g:M Out}(h:W f t (Hx g R)):W (Ae f g) t R:=W_seqS.mpr (h.mono λo t1 h1=>by cases o<;>exact h1)
theorem QB(h:R .next t):W Aq t R:=W_skipS.mpr h
variable{f:M D}
theorem dq(h:W f t λd t1=>R (.ret d) t1):W (Al f) t R:=W_retS.mpr h
theorem aZ(h:W f t λd t1=>R .next t1):W (Dq f) t R:=W_dropS.mpr h
theorem wIf{f:M Bool}{g h:M Out}(w:W f t λk t1=>FZ k (W g t1 R) (W h t1 R)):W (ifS f g h) t R:=W_ifS.mpr w
theorem du{i:Nat}(h:W f t λd t1=>R .next ⟨t1.env.set i (vw d),t1.S⟩):W (An i f) t R:=W_setS.mpr h
theorem dl{i:Nat}{f:M (List D)}(h:W f t λd t1=>R .next ⟨t1.env.set i (some (.own d)),t1.S⟩):W (C9 i f) t R:=W_ownS.mpr h
theorem cQ{g:D->M Unit}(h:W f t λd t1=>W (g d) t1 λ_ t2=>R .next t2):W (Cy f g) t R:=W_asgS.mpr h
theorem cU{f:M (List D)}{st:D->M Unit}{b:M Out}(h:W f t λds t1=>W (Cl st b ds) t1 R):W (Bq f st b) t R:=W_forS.mpr h
theorem wC{d:D}(h:P d t):W (fC d) t P:=W_fC.mpr h
theorem FB{i:Nat}{d:D}(e:t.env[i]?=some (vw d))(h:P d t):W (Aa i) t P:=by rw[QO,e];exact h
variable{ds:List D}
theorem bB{i:Nat}(e:t.env[i]?=some (some (.own ds)))(h:P (.lst ds) ⟨t.env.set i (vw (.lst ds)),t.S⟩):W (Aa i) t P:=by rw[QO,e];exact h
variable{g:M D}
theorem Lp{h:D->D->M D}(w:W f t λx t1=>W g t1 λy t2=>W (h x y) t2 P):W (Ac f g h) t P:=W_fBin.mpr w
theorem wUn{h:D->M D}(w:W f t λx t1=>W (h x) t1 P):W (fUn f h) t P:=W_fUn.mpr w
theorem CJ{α β:Type}{f:M α}{g:α->M β}{K:β->T->Prop}(w:W f t λx t1=>W (g x) t1 K):W (bnd f g) t K:=W_bnd.mpr w
theorem QC{b:Bool}(h:B b t):W (toB (.bl b)) t B:=W_toB.mpr h
theorem QD(h:W f t λx t1=>W (toB x) t1 B):W (Aj f) t B:=W_fTst.mpr h
theorem ZH{w:M D}{h h':D->D->M D}(q:W f t λx t1=>W g t1 λy t2=>W (h x y) t2 λk t3=>W (toB k) t3 λk t4=>FZ k (W w t4 λz t5=>W (h' y z) t5 P) (P (.bl false) t4)):W (Fg f g w h h') t P:=W_fChain.mpr q
theorem cL{f g:M Bool}(h:W f t λk t1=>FZ k (W g t1 B) (B false t1)):W (Jr f g) t B:=W_fAnd.mpr h
theorem wOr{f g:M Bool}(h:W f t λk t1=>FZ k (B true t1) (W g t1 B)):W (fOr f g) t B:=W_fOr.mpr h
theorem dj{f:M Bool}(h:W f t λk t1=>B (!k) t1):W (CY f) t B:=W_fNot.mpr h
theorem aU(h:W f t λx t1=>W (toB x) t1 λk t2=>FZ k (W g t2 P) (P (.bl false) t2)):W (FD f g) t P:=W_fAndV.mpr h
theorem bn(h:W f t λx t1=>W (toB x) t1 λk t2=>P (.bl (!k)) t2):W (IQ f) t P:=W_fNotV.mpr h
theorem cY{f:M Bool}{h:M D}(w:W f t λk t1=>FZ k (W g t1 P) (W h t1 P)):W (fIf f g h) t P:=W_fIf.mpr w
theorem Lu(h:Q [] t):W Ad t Q:=W_fNil.mpr h
theorem Fb{g:M (List D)}(h:W f t λd t1=>W g t1 λds t2=>Q (d::ds) t2):W (Ab f g) t Q:=W_fCons.mpr h
def Hl(n:Nat)(A:Prop):Prop:=n<=LIM/\A
variable{n:Nat}
theorem Bb{A:Prop}(h:n<=LIM)(a:A):Hl n A:=⟨h,a⟩
theorem dG{f:M (List D)}(h:W f t λds t1=>Hl ds.length (P (.tup ds) t1)):W (AI f) t P:=W_fTup.mpr h
theorem de{f:M (List D)}(h:W f t λds t1=>Hl ds.length (Q ds t1)):W (AK f) t Q:=W_fLst.mpr h
theorem bq{f:M (List D)}(h:W f t λds t1=>P (.lst ds) t1):W (Ax f) t P:=W_fPure.mpr h
theorem dk{f:M (List D)}(h:W f t λds t1=>P (.obj t1.S.length) ⟨t1.env,t1.S++[.lst ds]⟩):W (CA f) t P:=by rw[XG];exact h.mono λds t1 h=>W_newOb.mpr h
theorem KA{g:Fn}{f:M (List D)}(h:W f t λds t1=>Wf g ds t1.S λr S'=>P r ⟨t1.env,S'⟩):W (Ah g f) t P:=W_fCall.mpr h
theorem wB{f:M (List D)}{h:List D->M D}(w:W f t λds t1=>W (h ds) t1 P):W (fB f h) t P:=W_fB.mpr w
theorem wBF{f:M (List D)}{h:List D->M (List D)}(w:W f t λds t1=>W (h ds) t1 Q):W (fBF f h) t Q:=W_fBF.mpr w
theorem E5{i:Nat}{d:D}(h:U () ⟨t.env.set i (vw d),t.S⟩):W (Ao i d) t U:=W_putV.mpr h
theorem Xq(h:U () t):W (Bc []) t U:=W_putNil.mpr h
theorem UI{f:D->M Unit}{g:List D->M Unit}{d:D}(h:W (f d) t λ_ t1=>W (g ds) t1 U):W (Ay f g (d::ds)) t U:=W_putCons.mpr h
theorem dH{g:List D->M Unit}(e:ds.length=n)(h:W (g ds) t U):W (unS n g (.tup ds)) t U:=W_unS_tup.mpr ⟨e,h⟩
theorem aY{fr:List Nat}{f:M (List D)}{st:D->M Unit}{tst:M Bool}{elt:M D}(h:W f t λds t1=>W (Bl st tst elt ds) ⟨cenv n fr t1.env,t1.S⟩ λxs t'=>Hl xs.length (Q xs ⟨t1.env,t'.S⟩)):W (AS n fr f st tst elt) t Q:=W_fComp.mpr h
theorem N2(h:B true t):W CT t B:=W_tTru.mpr h
variable{i:Int}
theorem E4{d:D}(e:atI ds i=some d)(h:P d t):W (ixD (.tup ds) (.int i)) t P:=W_ix_tup.mpr ⟨d,e,h⟩
theorem AR{d:D}(e:atI ds i=some d)(h:P d t):W (ixD (.lst ds) (.int i)) t P:=W_ix_lst.mpr ⟨d,e,h⟩
theorem Mo(h:P (.int ds.length) t):W (AC [.lst ds]) t P:=W_len_lst.mpr h
theorem Ve(h:P (.int ds.length) t):W (AC [.tup ds]) t P:=W_len_tup.mpr h
theorem bg{ds:List Int}(h:P (.int ds.length) t):W (AC [.scr ds]) t P:=W_len_scr.mpr h
theorem Fc{k:Nat}(e:t.S[k]?=some (.lst ds))(h:P (.int ds.length) t):W (AC [.obj k]) t P:=W_len_obj.mpr ⟨ds,e,h⟩
variable{x:Str}
theorem Vd(e:x.length<=LIM)(h:P (.int x.length) t):W (AC [.str x]) t P:=W_len_str.mpr ⟨e,h⟩
theorem c6{d:D}{m n:String}{b:Bool}(e:tyD d=some n)(e':FY n m=some b)(h:P (.bl b) t):W (CO [d,.ty m]) t P:=W_isi.mpr ⟨n,e,b,e',h⟩
theorem cZ{x:D}(h:P (.bl (FE x)) t):W (isC x .non) t P:=W_is_non.mpr h
theorem ZN{x y:D}(h:W (isC x y) t λd t1=>W (toB d) t1 λb t2=>P (.bl (!b)) t2):W (GK x y) t P:=W_isNot.mpr h
variable{j:Int}
theorem aR(h:P (.int (i+j)) t):W (AD (.int i) (.int j)) t P:=W_add_int.mpr h
theorem bz(h:P (.int (i-j)) t):W (CI (.int i) (.int j)) t P:=W_sub_int.mpr h
theorem df(h:P (.bl (decide (i<j))) t):W (ltA (.int i) (.int j)) t P:=W_lt_int.mpr h
theorem db(h:P (.bl (decide (i<=j))) t):W (leA (.int i) (.int j)) t P:=W_le_int.mpr h
theorem cW(h:P (.bl (decide (j<i))) t):W (gtA (.int i) (.int j)) t P:=W_gt_int.mpr h
theorem cV(h:P (.bl (decide (j<=i))) t):W (geA (.int i) (.int j)) t P:=W_ge_int.mpr h
theorem dh(h:P (.int (-i)) t):W (Nd (.int i)) t P:=W_neg.mpr h
theorem GB(h1:0<j)(h2:j<1073741824)(h:P (.int (i/j)) t):W (AQ (.int i) (.int j)) t P:=W_fdiv.mpr ⟨⟨h1,h2⟩,h⟩
theorem Fz(h1:0<j)(h:P (.int (i%j)) t):W (AX (.int i) (.int j)) t P:=W_mod.mpr ⟨h1,h⟩
theorem dm(h1:Mi i j=true)(h:P (.int (i ^ j.toNat)) t):W (Nr (.int i) (.int j)) t P:=W_pow.mpr ⟨h1,h⟩
theorem QA(h1:FG i j=true)(h:P (.int (i*j)) t):W (DI (.int i) (.int j)) t P:=W_mul_int.mpr ⟨h1,h⟩
theorem aT{y:Str}(h:Hl (x.length+y.length) (P (.str (x++y)) t)):W (AD (.str x) (.str y)) t P:=W_add_str.mpr h
theorem aS{x y:List D}(h:Hl (x.length+y.length) (P (.lst (x++y)) t)):W (AD (.lst x) (.lst y)) t P:=W_add_lst.mpr h
theorem cR{x y:List D}(h:Hl (x.length+y.length) (Q (x++y) t)):W (Jp (.lst x) (.lst y)) t Q:=W_cat.mpr h
theorem dg(h:P (.int (if j<i then j else i)) t):W (K8 [.int i,.int j]) t P:=W_min.mpr h
theorem a9{i:Bool}(h:P (.int (if i then 1 else 0)) t):W (Gu [.bl i]) t P:=W_int_bl.mpr h
theorem ZO(e:x.length=1)(h:P (.int (x.cps.getD 0 0:Nat)) t):W (JD [.str x]) t P:=W_ord.mpr ⟨e,h⟩
theorem bh(h:Q ds t):W (DU [.lst ds]) t Q:=W_lst_lst.mpr h
theorem UH{g:Bool->Bool}{y:Str}(h:P (.bl (g (x==y))) t):W (eqS g (.str x) (.str y)) t P:=W_eq_str.mpr h
theorem ZI{g:Bool->Bool}{x y:Int}(h:P (.bl (g (x==y))) t):W (eqS g (.int x) (.int y)) t P:=W_eq_int.mpr h
theorem ZJ{g:Bool->Bool}{x:List D}(h:P (.bl (g x.isEmpty)) t):W (eqS g (.lst x) (.lst [])) t P:=W_eq_nil.mpr h
variable{lo hi:Option Int}
theorem dB(h:P (.lst (AV ds lo hi)) t):W (Ci (.lst ds) lo hi) t P:=W_sl_lst.mpr h
theorem dC{ds:List Int}(h:P (.lst ((AV ds lo hi).map .int)) t):W (Ci (.scr ds) lo hi) t P:=W_sl_scr.mpr h
theorem dD(h:P (.tup (AV ds lo hi)) t):W (Ci (.tup ds) lo hi) t P:=W_sl_tup.mpr h
theorem wSl{l u:M (Option Int)}{h:D->Option Int->Option Int->M D}(w:W f t λx t1=>W l t1 λlo t2=>W u t2 λhi t3=>W (h x lo hi) t3 P):W (fSl f l u h) t P:=W_fSl.mpr w
variable{K:Option Int->T->Prop}
theorem wNo(h:K none t):W fNo t K:=W_fNo.mpr h
theorem cO(h:K (some i) t):W (asI (.int i)) t K:=W_asI.mpr h
theorem bp(h:W f t λx t1=>W (asI x) t1 K):W (BO f) t K:=W_fPart.mpr h
theorem c7(h:W f t λx t1=>W (D7 x) t1 Q):W (Ck f) t Q:=W_fItA.mpr h
theorem c8(h:Q ds t):W (D7 (.lst ds)) t Q:=W_it_lst.mpr h
theorem c9(h:Q (x.cps.toList.map λc=>.str ⟨#[c]⟩) t):W (D7 (.str x)) t Q:=W_it_str.mpr h
theorem br{f:M (List D)}(h:W f t λx t1=>W (Li x) t1 Q):W (BZ f) t Q:=W_fRng1.mpr h
theorem bu{f:M (List D)}(h:W f t λx t1=>W (Lj x) t1 Q):W (Gi f) t Q:=W_fRng2.mpr h
theorem FA(e:De j=true)(h:Q (AM 0 j.toNat) t):W (Li [.int j]) t Q:=W_rng1.mpr ⟨e,h⟩
theorem UJ(e:(De i&&De j)=true)(h:Q (AM i (j-i).toNat) t):W (Lj [.int i,.int j]) t Q:=W_rng2.mpr ⟨e,h⟩
variable{xs:List D}
theorem bo{i:Nat}{h:List D->List D->Option (List D)}{g:M (List D)}(e:t.env[i]?=some (some (.own xs)))(w:W g t λds t1=>∃xs,t1.env[i]?=some (some (.own xs))/\∃ys,h xs ds=some ys/\R .next ⟨t1.env.set i (some (.own ys)),t1.S⟩):W (ownM i h g) t R:=W_ownM.mpr ⟨⟨xs,e⟩,w⟩
theorem cM{i:Nat}{d:D}{A:List D->Prop}(e:t1.env[i]?=some (some (.own xs)))(w:Hl (xs.length+1) (A (xs++[d]))):∃xs,t1.env[i]?=some (some (.own xs))/\∃ys,BR xs [d]=some ys/\A ys:=
 ⟨xs,e,_,app1_one.mpr ⟨w.1,rfl⟩,w.2⟩
theorem dE{d:D}(h:W f t λo t1=>W g t1 λi t2=>W (Gb o i d) t2 U):W (stD f g d) t U:=W_stD.mpr h
theorem bx{k:Nat}{d:D}(e:t.S[k]?=some (.lst xs))(e':ixN xs.length j=some n)(h:U () ⟨t.env,t.S.set k (.lst (xs.set n d))⟩):W (Gb (.obj k) (.int j) d) t U:=W_stOb.mpr ⟨xs,e,n,e',h⟩
end
section
variable{i:Nat}{g:Fn}{d':D}
section
variable{t:T}{P:D->T->Prop}{B:Bool->T->Prop}{Q:List D->T->Prop}
theorem bA{n:Int}{ds:List D}{d:D}(e:t.env[i]?=some (vw (.tup ds)))(a:atI ds n=some d)(h:P d t):W (Ac (Aa i) (fb n) ixD) t P:=Lp (FB e (wC (E4 a h)))
theorem bf{x y:Str}{ds:List D}{g:Bool->Bool}(e:t.env[i]?=some (vw (.tup (.str y::ds))))(h:B (g (y==x)) t):W (Aj (Ac (Ac (Aa i) (fb 0) ixD) (fC (.str x)) (eqS g))) t B:=QD (Lp (Lp (FB e (wC (E4 II (wC (UH (QC h))))))))
theorem ZR{x y:Str}{g:Bool->Bool}(e:t.env[i]?=some (vw (.str y)))(h:B (g (y==x)) t):W (Aj (Ac (Aa i) (fC (.str x)) (eqS g))) t B:=QD (Lp (FB e (wC (UH (QC h)))))
theorem ZQ{x y:Int}{g:Bool->Bool}(e:t.env[i]?=some (vw (.int y)))(h:B (g (y==x)) t):W (Aj (Ac (Aa i) (fb x) (eqS g))) t B:=QD (Lp (FB e (wC (ZI (QC h)))))
theorem Xl{d:D}(e:t.env[i]?=some (vw d))(h:Wf g [d] t.S λr S'=>P r ⟨t.env,S'⟩):W (Ah g (Ab (Aa i) Ad)) t P:=KA (Fb (FB e (Lu h)))
theorem Xm{j:Nat}{d:D}(e:t.env[i]?=some (vw d))(e':t.env[j]?=some (vw d'))(h:Wf g [d,d'] t.S λr S'=>P r ⟨t.env,S'⟩):W (Ah g (Ab (Aa i) (Ab (Aa j) Ad))) t P:=KA (Fb (FB e (Fb (FB e' (Lu h)))))
theorem Xo{d:D}(e:t.env[i]?=some (vw d))(h:Wf g [d,d'] t.S λr S'=>P r ⟨t.env,S'⟩):W (Ah g (Ab (Aa i) (Ab (fC d') Ad))) t P:=KA (Fb (FB e (Fb (wC (Lu h)))))
theorem Xn{j k:Nat}{d d'':D}(e:t.env[i]?=some (vw d))(e':t.env[j]?=some (vw d'))(e'':t.env[k]?=some (vw d''))(h:Wf g [d,d',d''] t.S λr S'=>P r ⟨t.env,S'⟩):W (Ah g (Ab (Aa i) (Ab (Aa j) (Ab (Aa k) Ad)))) t P:=KA (Fb (FB e (Fb (FB e' (Fb (FB e'' (Lu h)))))))
end
end
end L2
namespace LW
open PySem L2
set_option compiler.extract_closed false
local macro_rules | `(tactic| clear 31 $t*)=>`(tactic| with_reducible first $[| refine $t ?_]*)
local macro_rules | `(tactic| clear 32 $t*)=>`(tactic| ((with_reducible first $[| refine' $t ?wv ?_]*);(case wv=>exact rfl)))
local macro_rules | `(tactic| clear 33 $t*)=>`(tactic| ((with_reducible first $[| refine' $t ?wv ?_]*);(case wv=>decide)))
local macro_rules | `(tactic| walk_at"w1")=>`(tactic| first
 |clear 32 bf ZR Xl
 |clear 32 ZQ Xo
 |((with_reducible refine' bA ?wv ?wu ?_);(case wv=>exact rfl);(case wu=>first|exact rfl|exact II|exact UQ|exact UR))
 |((with_reducible refine' Xm ?wv ?wu ?_);(case wv=>exact rfl);(case wu=>exact rfl))
 |((with_reducible refine' Xn ?wv ?wu ?wt ?_);(case wv=>exact rfl);(case wu=>exact rfl);(case wt=>exact rfl))
 |clear 31 dr Bj Ux du Lp wC Fb Lu wIf QD QC dq KA UH ZI aR bz QB wB wBF bq dG de dk cQ cU cL wOr dj aU bn cY ZH wUn dh cZ ZN df db cW cV Mo Ve bg dg a9 bh aT aS cR ZJ wSl wNo bp cO dB dC dD c7 c8 c9 br bu E5 Xq UI aY N2 dl CJ aZ dE
 |clear 32 FB ES bo cM
 |clear 32 Cc bB dH
 |((with_reducible first|refine' E4 ?wv ?_|refine' AR ?wv ?_);(case wv=>first|exact rfl|exact II|exact UQ|exact UR))
 |((with_reducible refine Bb ?wv ?_);(case wv=>exact ud0 rfl))
 |((with_reducible refine' c6 ?wv ?wu ?_);(case wv=>exact rfl);(case wu=>exact rfl))
 |((with_reducible refine GB ?wv ?wu ?_);(case wv=>decide);(case wu=>decide))
 |clear 33 dm Fz FA UJ)
local macro_rules | `(tactic| right)=>`(tactic| repeat (walk_at"w1"))
structure DeckAt(k c:Nat)(S:List Ob):Prop where
 ne:k≠c
 at_:∃(cells:List Int) (par pos:Int),S[k]?=some (.lst [.obj c,.int par,.int pos])/\S[c]?=some (.lst (cells.map .int))/\cells≠[]/\0<=pos
def ee(k c:Nat)(S S':List Ob):Prop:=S'.length=S.length/\∀j:Nat,j≠k->j≠c->S'[j]?=S[j]?
variable{n:Nat}
theorem BP{i:Int}(h0:0<=i)(h1:i<n):ixN n i=some i.toNat:=by simp[ixN,h0,h1]
variable{S:List Ob}{o:Ob}
theorem IR{k:Nat}{o':Ob}(h:S[k]?=some o):(S.set k o')[k]?=some o':=by
 obtain⟨hl,_⟩:=ua7.mp h;exact ub9 hl
set_option genInjectivity false in inductive Sh where
 |nothing|number (lo hi:Int)|text (m:Int)|list (s:Sh) (m:Int)|pair (s r:Sh)|choice (ss:List Sh)
mutual
noncomputable def Sh.d:Sh->D
 |.nothing=>.tup [.str "nothing"]
 |.number lo hi=>.tup [.str "number",.int lo,.int hi]
 |.text m=>.tup [.str "text",.int m]
 |.list s m=>.tup [.str "list",s.d,.int m]
 |.pair s r=>.tup [.str "pair",s.d,r.d]
 |.choice ss=>.tup [.str "choice",.tup (shD ss)]
noncomputable def shD:List Sh->List D
 |[]=>[]
 |s::r=>s.d::shD r
end
mutual
noncomputable def Sh.depth:Sh->Nat
 |.nothing=>1
 |.number _ _=>1
 |.text _=>1
 |.list s _=>s.depth+1
 |.pair s r=>max s.depth r.depth+1
 |.choice ss=>EH ss+1
noncomputable def EH:List Sh->Nat
 |[]=>0
 |s::r=>max s.depth (EH r)
end
theorem DQ:∀ss:List Sh,(shD ss).length=ss.length
 |[]=>rfl
 |s::r=>by simp[shD,DQ r]
theorem GW:∀(ss:List Sh) (k:Nat),(shD ss)[k]?=(ss[k]?).map Sh.d
 |[],k=>by simp[shD]
 |s::r,0=>by simp[shD]
 |s::r,k+1=>by simp[shD,GW r k]
theorem B1:∀(ss:List Sh) (k:Nat) (s:Sh),ss[k]?=some s->s.depth<=EH ss
 |[],k,s,h=>by simp at h
 |s::r,0,s',h=>by simp at h;subst h;simp[EH];lia
 |s::r,k+1,s',h=>by
   have:=B1 r k s' (by simpa using h);simp[EH];lia
theorem Sh.depth_pos(s:Sh):1<=s.depth:=by cases s<;>simp[Sh.depth]
noncomputable def BC(n:Nat):Bool:=decide (32<=n)&&decide (n<=126)&&decide (n≠37)
noncomputable def Ic:Str->Bool:=λo=>o==("of":Str)
mutual
def Ag:Sh->D->Bool
 |.nothing,d=>FE d
 |.number lo hi,d=>match d with
   |.int i=>decide (lo<=i)&&decide (i<=hi)
   |_=>false
 |.text m,d=>match d with
   |.str x=>decide ((x.length:Int)<=m)&&x.cps.toList.all BC
   |_=>false
 |.list s m,d=>match d with
   |.lst ds=>decide ((ds.length:Int)<=m)&&ds.all λe=>Ag s e
   |_=>false
 |.pair s r,d=>match d with
   |.tup [a,b]=>Ag s a&&Ag r b
   |_=>false
 |.choice ss,d=>match d with
   |.tup [.str o,.int k,x]=>Ic o&&(decide (0<=k)&&decide (k<ss.length))&&J8 ss k.toNat x
   |_=>false
def J8:List Sh->Nat->D->Bool
 |[],_,_=>false
 |s::_,0,d=>Ag s d
 |_::r,k+1,d=>J8 r k d
end
theorem B0:∀(ss:List Sh) (k:Nat) (s:Sh) (d:D),ss[k]?=some s->J8 ss k d=Ag s d
 |[],k,s,d,h=>by simp at h
 |s::r,0,s',d,h=>by simp at h;subst h;simp[J8]
 |s::r,k+1,s',d,h=>by rw[J8];exact B0 r k s' d (by simpa using h)
mutual
noncomputable def okD:D->Bool
 |.str x=>decide (x.length<=90000)
 |.tup xs=>oks xs
 |.lst xs=>oks xs
 |.obj _=>false
 |.scr _=>false
 |.exc _ _=>false
 |.ty _=>false
 |_=>true
noncomputable def oks:List D->Bool
 |[]=>true
 |d::r=>okD d&&oks r
end
theorem IU:∀{xs:List D},oks xs=true->∀d∈xs,okD d=true
 |x::r,h,d,m=>by
   rw[oks,uh5] at h;rcases ul2.mp m with z|z
   .subst z;exact h.1
   .exact IU h.2 d z
abbrev Pure1(f:Fn)(ds:List D)(r:D):Prop:=∀S,Wf f ds S λv S'=>v=r/\S'=S
variable{ds:List D}
theorem Pure1.use{f:Fn}{r:D}(h:Pure1 f ds r){S:List Ob}{P:D->List Ob->Prop}(p:P r S):Wf f ds S P:=(h S).mono λ_ _ ⟨e1,e2⟩=>by subst e1 e2;exact p
noncomputable def Rp:D->Bool
 |.int _=>true
 |_=>false
theorem M1{d:D}(h:okD d=true):Pure1 (fnOf 1 1 Gz) [d] (.bl (Rp d)):=by
 intro S;refine Ap rfl ?_;unfold Gz
 cases d<;>first|(simp[okD] at h;done)|(right;exact⟨rfl,rfl⟩)
noncomputable def E6(lo hi:Int):D->Bool
 |.int i=>decide (lo<=i)&&decide (i<=hi)
 |_=>false
def Od(f:Fn):Prop:=∀d,okD d=true->Pure1 f [d] (.bl (Rp d))
def FR(f:Fn):Prop:=∀d lo hi,okD d=true->Pure1 f [d,.int lo,.int hi] (.bl (E6 lo hi d))
variable{c:Fn}
theorem SQ(hc:Od c):FR (fnOf 3 3 (DH c)):=by
 intro d lo hi h S;refine Ap rfl ?_;unfold DH;right;refine(hc d h).use ?_
 cases d with
 |int i=>
   right;refine DT (λe=>?_) λe=>?_
   .right;exact⟨by simp only[E6,e,ul8],rfl⟩
   .exact⟨by simp only[E6,e,uk5],rfl⟩
 |_=>right;exact⟨rfl,rfl⟩
def JL(f:Fn):Prop:=∀n:Nat,Pure1 f [.int n] (.bl (BC n))
theorem P1:JL (fnOf 1 1 Ii):=by
 intro n S;refine Ap rfl ?_;unfold Ii;right;have c1:decide ((32:Int)<=n)=decide (32<=n):=decide_eq_decide.mpr (by lia);have c2:decide ((n:Int)<=126)=decide (n<=126):=decide_eq_decide.mpr (by lia);have c3:(!((n:Int)==37))=decide (n≠37):=by
  by_cases h:n=37
  .subst h;rfl
  .have:¬((n:Int)=37):=by lia
   simp[h,this]
 rw[c1];refine DT (λe=>?_) λe=>?_
 .right;rw[c2];refine DT (λe'=>?_) λe'=>?_
  .right;exact⟨by simp only[BC,e,e',c3,ul8],rfl⟩
  .exact⟨by simp only[BC,e,e',uk5,uk7],rfl⟩
 .right;exact⟨by simp only[BC,e,uk5],rfl⟩
def Mw(f:Fn):Prop:=∀m d,okD d=true->Pure1 f [(Sh.text m).d,d] (.bl (Ag (.text m) d))
theorem MY(hc:JL c):Mw (fnOf 2 3 (Gy c)):=by
 intro m d h S;refine Ap rfl ?_;unfold Gy;rw[Sh.d]
 cases d with
 |str x=>
   have hx:x.length<=LIM:=um5 (by simpa[okD] using h) (show 90000<=LIM by decide);right;refine Vd hx ?_;right;refine DT (λe=>?_) λe=>?_
   .right;have:¬((x.length:Int)<=m):=by have:=ug9 e;lia
    exact⟨by simp[Ag,this],rfl⟩
   .right;have e':(x.length:Int)<=m:=by have:=of_decide_eq_false e;lia
    refine BX (λr t=>t.S=S/\∃cs:List Nat,r=cs.map (λc=>D.str ⟨#[c]⟩)/\(x.cps.toList.all BC=cs.all BC)/\∃z,t.env=[vw (.tup [.str "text",.int m]),vw (.str x),z]) _ _ ⟨rfl,x.cps.toList,rfl,rfl,_,rfl⟩ ?_ ?_
    .rintro d r t ⟨hs,cs,hr,hall,z,ht⟩ _;clear 5 t env S2;subst hs ht
     cases cs with
     |nil=>simp at hr
     |cons c cs=>
       simp only[ul3,List.cons.injEq] at hr;clear 5 hr rfl rfl;right;refine ZO rfl ?_;right;refine(hc c).use ?_;right;refine DT (λq=>?_) λq=>?_
       .right;have q':BC c=false:=by simpa using q
        refine⟨?_,rfl⟩;simp only[Ag,hall,ul6,q',uk5,uk7]
       .right;have q':BC c=true:=by simpa using q
        exact⟨rfl,cs,rfl,by rw[hall,ul6,q',ul8],_,rfl⟩
    .rintro t ⟨hs,cs,hr,hall,z,ht⟩;clear 5 t env S2;subst hs ht;have:cs=[]:=by cases cs with|nil=>rfl|cons _ _=>simp at hr
     subst this;right;exact⟨by simp[Ag,e',hall],rfl⟩
 |obj _=>simp[okD] at h
 |scr _=>simp[okD] at h
 |ty _=>simp[okD] at h
 |exc _ _=>simp[okD] at h
 |_=>right;exact⟨by simp[Ag],rfl⟩
def GC(f:Fn)(n:Nat):Prop:=∀s:Sh,s.depth<=n->∀d,okD d=true->Pure1 f [s.d,d] (.bl (Ag s d))
def QJ(f:Fn)(n:Nat):Prop:=∀(s:Sh) (m:Int),s.depth<=n->∀d,okD d=true->Pure1 f [(Sh.list s m).d,d] (.bl (Ag (.list s m) d))
theorem MW(hc:GC c n):QJ (fnOf 2 3 (Gv c)) n:=by
 intro s m hs d h S;refine Ap rfl ?_;unfold Gv;rw[Sh.d]
 cases d with
 |lst ds=>
   have hx:∀d∈ds,okD d=true:=IU (by simpa[okD] using h);right;refine DT (λe=>?_) λe=>?_
   .right;have:¬((ds.length:Int)<=m):=by have:=ug9 e;lia
    exact⟨by simp[Ag,this],rfl⟩
   .right;have e':(ds.length:Int)<=m:=by have:=of_decide_eq_false e;lia
    refine BX (λr t=>t.S=S/\(ds.all (λe=>Ag s e)=r.all λe=>Ag s e)/\∃z,t.env=[vw (.tup [.str "list",s.d,.int m]),vw (.lst ds),z]) _ _ ⟨rfl,rfl,_,rfl⟩ ?_ ?_
    .rintro d r t ⟨hS,hall,z,ht⟩ hm;clear 5 t env S2;subst hS ht;right;refine(hc s hs d (hx d hm)).use ?_;right;refine DT (λq=>?_) λq=>?_
     .right;have q':Ag s d=false:=by simpa using q
      refine⟨?_,rfl⟩;simp only[Ag,hall,ul6,q',uk5,uk7]
     .right;have q':Ag s d=true:=by simpa using q
      exact⟨rfl,by rw[hall,ul6,q',ul8],_,rfl⟩
    .rintro t ⟨hS,hall,z,ht⟩;clear 5 t env S2;subst hS ht;right;exact⟨by simp only[Ag,e',decide_true,hall,List.all_nil,ul8],rfl⟩
 |obj _=>simp[okD] at h
 |scr _=>simp[okD] at h
 |ty _=>simp[okD] at h
 |exc _ _=>simp[okD] at h
 |_=>right;exact⟨by simp[Ag],rfl⟩
def QN(f:Fn)(n:Nat):Prop:=∀(s r:Sh),s.depth<=n->r.depth<=n->∀d,okD d=true->Pure1 f [(Sh.pair s r).d,d] (.bl (Ag (.pair s r) d))
theorem MX(hc:GC c n):QN (fnOf 2 2 (Gx c)) n:=by
 intro s r hs hr d h S;refine Ap rfl ?_;unfold Gx;rw[Sh.d]
 cases d with
 |tup ds=>
   have hx:∀d∈ds,okD d=true:=IU (by simpa[okD] using h);right
   match ds,hx with
   |[],_=>right;exact⟨by simp[Ag],rfl⟩
   |[a],_=>right;exact⟨by simp[Ag],rfl⟩
   |[a,b],hx=>
     right;refine(hc s hs a (hx a (by simp))).use ?_;right;refine DT (λe=>?_) λe=>?_
     .right;refine(hc r hr b (hx b (by simp))).use ?_;exact⟨by simp only[Ag,e,ul8],rfl⟩
     .exact⟨by simp only[Ag,e,uk5],rfl⟩
   |a::b::e::l,_=>
     refine ES ?_ ?_
     .show(!(((a::b::e::l).length:Int)==2))=true;simp;lia
     right;exact⟨by simp[Ag],rfl⟩
 |obj _=>simp[okD] at h
 |scr _=>simp[okD] at h
 |ty _=>simp[okD] at h
 |exc _ _=>simp[okD] at h
 |_=>right;exact⟨by simp[Ag],rfl⟩
def Mr(f:Fn)(n:Nat):Prop:=∀(ss:List Sh),EH ss<=n->∀d,okD d=true->Pure1 f [(Sh.choice ss).d,d] (.bl (Ag (.choice ss) d))
theorem K0{c':Fn}(hc:GC c n)(hw:FR c'):Mr (fnOf 2 2 (Fr c c')) n:=by
 intro ss hs d h S;refine Ap rfl ?_;unfold Fr;rw[Sh.d]
 cases d with
 |tup ds=>
   have hx:∀d∈ds,okD d=true:=IU (by simpa[okD] using h);right
   match ds,hx with
   |[],_=>right;exact⟨by simp[Ag],rfl⟩
   |[a],_=>right;exact⟨by simp[Ag],rfl⟩
   |[a,b],_=>right;exact⟨by simp[Ag],rfl⟩
   |[a,b,e],hx=>
     right;have ha:=hx a (by simp)
     cases a with
     |str o=>
       right;refine DT (λq=>?_) λq=>?_
       .right;have q':Ic o=false:=by simpa[Ic] using q
        refine⟨?_,rfl⟩
        cases b<;>simp only[Ag,q',uk5]
       .right;have q':Ic o=true:=by simpa[Ic] using q
        refine(hw b 0 _ (hx b (by simp))).use ?_;right
        cases b with
        |int k=>
          refine DT (λq=>?_) λq=>?_
          .right;refine⟨?_,rfl⟩;have:(decide (0<=k)&&decide (k<(ss.length:Int)))=false:=by
            have q2:k<0\/((shD ss).length:Int)-1<k:=by simpa[E6] using q
            rw[DQ] at q2;simp;lia
           simp only[Ag,this,uk5,uk7]
          .have q2:0<=k/\k<=((shD ss).length:Int)-1:=by simpa[E6] using q
           have q3:=q2;rw[DQ] at q3;have hk:k.toNat<ss.length:=by lia
           have e1:ss[k.toNat]?=some ss[k.toNat]:=ub2 hk;have e2:atI (shD ss) k=some (ss[k.toNat]).d:=by
            unfold atI;rw[DQ,BP q3.1 (by lia)];simp[GW,e1]
           right;refine E4 e2 ?_;right;refine(hc _ (um5 (B1 ss _ _ e1) hs) e (hx e (by simp))).use ?_;refine⟨?_,rfl⟩;have:(decide (0<=k)&&decide (k<(ss.length:Int)))=true:=by simp;lia
           simp only[Ag,q',this,ul8,B0 ss _ _ e e1]
        |_=>
          right;exact⟨by simp[Ag],rfl⟩
     |obj _=>simp[okD] at ha
     |scr _=>simp[okD] at ha
     |ty _=>simp[okD] at ha
     |exc _ _=>simp[okD] at ha
     |_=>right;exact⟨by simp[Ag],rfl⟩
   |a::b::e::f::l,_=>
     refine ES ?_ ?_
     .show(!(((a::b::e::f::l).length:Int)==3))=true;simp;lia
     right;exact⟨by simp[Ag],rfl⟩
 |obj _=>simp[okD] at h
 |scr _=>simp[okD] at h
 |ty _=>simp[okD] at h
 |exc _ _=>simp[okD] at h
 |_=>right;exact⟨by simp[Ag],rfl⟩
variable{cc cp cl ct cw:Fn}
theorem VB(h1:Mr cc n)(h2:QN cp n)(h3:QJ cl n)(h4:Mw ct)(h5:FR cw):GC (fnOf 2 3 (M8 cc cp cl ct cw)) (n+1):=by
 intro s hs d h S;refine Ap rfl ?_;unfold M8
 cases s with
 |nothing=>
   rw[Sh.d];right;exact⟨by rw[Ag],rfl⟩
 |number lo hi=>
   rw[Sh.d];right;refine(h5 d lo hi h).use ⟨?_,rfl⟩
   cases d<;>simp[Ag,E6]
 |text m=>
   rw[Sh.d];right;exact(h4 m d h).use ⟨rfl,rfl⟩
 |list s m=>
   rw[Sh.depth] at hs;have q:=h3 s m (by lia) d h;rw[Sh.d] at q⊢;right;exact q.use ⟨rfl,rfl⟩
 |pair s r=>
   rw[Sh.depth] at hs;have q:=h2 s r (by lia) (by lia) d h;rw[Sh.d] at q⊢;right;exact q.use ⟨rfl,rfl⟩
 |choice ss=>
   rw[Sh.depth] at hs;have q:=h1 ss (by lia) d h;rw[Sh.d] at q⊢;right;exact q.use ⟨rfl,rfl⟩
theorem Fi(x:Str):x.length=x.cps.toList.length:=by simp[Str.length]
theorem Lv(x y:Str):(x++y).cps.toList=x.cps.toList++y.cps.toList:=by
 show(x.cps++y.cps).toList=_;simp
variable{elt:M D}
theorem HJ{f:D->D}{fr:List (Option Sl)}{z:Option Sl}(h:∀d∈ds,W elt ⟨vw d::fr,S⟩ λx t'=>x=f d/\t'=⟨vw d::fr,S⟩) :
 W (Bl (Ao 0) CT elt ds) ⟨z::fr,S⟩ λxs t'=>xs=ds.map f/\t'.S=S:=by
 refine(JO (P:=λxs t'=>xs=ds.map f/\t'.S=S) (λacc r t=>acc++r.map f=ds.map f/\∃z,t=⟨z::fr,S⟩) ds [] _ ⟨rfl,z,rfl⟩ ?_ ?_).mono λxs t' h=>h
 .rintro acc d r t ⟨h1,z,rfl⟩ hm;refine E5 (N2 ?_);rw[hX rfl];refine(h d hm).mono λx t' z9=>?_;clear 5 z9 e1 e2;subst e1 e2;exact⟨by rw[ug3];exact h1,_,rfl⟩
 .rintro acc t ⟨h1,z,rfl⟩;exact⟨by simpa using h1,rfl⟩
mutual
noncomputable def sz:D->Nat
 |.tup xs=>szs xs+1
 |.lst xs=>szs xs+1
 |_=>1
noncomputable def szs:List D->Nat
 |[]=>0
 |d::r=>sz d+szs r
end
variable{x:Str}
theorem Xh{y:Str}(h:x.cps.toList=y.cps.toList):x=y:=by
 cases x;cases y
 congr
 exact Array.toList_inj.mp h
mutual
noncomputable def wf:Sh->Bool
 |.nothing=>true
 |.number lo hi=>decide (-1000000000000000000<lo)&&decide (lo<=hi)&&decide (hi<1000000000000000000)
 |.text m=>decide (0<=m)&&decide (m<=250)
 |.list s m=>decide (0<=m)&&decide (m<=250)&&wf s
 |.pair s r=>wf s&&wf r
 |.choice ss=>decide (1<=ss.length)&&decide (ss.length<=9)&&wfs ss
noncomputable def wfs:List Sh->Bool
 |[]=>true
 |s::r=>wf s&&wfs r
end
mutual
noncomputable def cnt:Sh->Nat
 |.list s _=>cnt s+1
 |.pair s r=>cnt s+cnt r+1
 |.choice ss=>XT ss+1
 |_=>1
noncomputable def XT:List Sh->Nat
 |[]=>0
 |s::r=>cnt s+XT r
end
theorem DS:∀{ss:List Sh},wfs ss=true->∀s∈ss,wf s=true
 |x::r,h,s,m=>by
   rw[wfs,uh5] at h;rcases ul2.mp m with z|z
   .subst z;exact h.1
   .exact DS h.2 s z
theorem LP:∀{ss:List Sh}{s:Sh},s∈ss->s.depth<=EH ss
 |x::r,s,m=>by
   rw[EH];rcases ul2.mp m with z|z
   .subst z;lia
   .have:=LP z;lia
def Pq(k c l:Nat)(S S':List Ob):Prop:=S'.length=S.length/\∀j:Nat,j≠k->j≠c->j≠l->S'[j]?=S[j]?
noncomputable def Qt(deep:Int):Int:=if deep<2 then 0 else 2*deep+4
def bd(deep x:Int):Int:=if deep<2 then 1 else max x 1+Qt deep-(if deep+1<=x then 1 else 0)
def tb(deep y i:Int):Int:=if deep=2 then i else if i=0 then 0 else y+Qt (deep-1)+i-1-(if deep<=y then 1 else 0)
structure ShapeRes(k c l:Nat)(S:List Ob)(deep x:Int)(s:Sh)(S':List Ob):Prop where
 w:wf s=true
 dep:(s.depth:Int)<=max deep 1
 lft:S'[l]?=some (.lst [.int (x-cnt s)])
 one:x<=1->cnt s=1
 few:(cnt s:Int)<=max x 1+Qt deep
 deck:DeckAt k c S'
 kp:Pq k c l S S'
 few2:(cnt s:Int)<=bd deep x
structure Sep(ks:List (Nat×Nat)):Prop where
 sep:∀p∈ks,∀q∈ks,p=q\/(q.1≠p.1/\q.1≠p.2/\q.2≠p.1/\q.2≠p.2)
mutual
noncomputable def dpt:D->Nat
 |.lst ds=>Tp ds+1
 |.tup ds=>Tp ds+1
 |_=>1
noncomputable def Tp:List D->Nat
 |[]=>0
 |d::r=>max (dpt d) (Tp r)
end
mutual
noncomputable def smD:D->Bool
 |.str x=>decide (x.length<=300)
 |.int i=>decide (-1000000000000000000000000<i)&&decide (i<1000000000000000000000000)
 |.tup xs=>decide (xs.length<=300)&&sms xs
 |.lst xs=>decide (xs.length<=300)&&sms xs
 |.obj _=>false
 |.scr _=>false
 |.ty _=>false
 |.exc _ _=>false
 |_=>true
noncomputable def sms:List D->Bool
 |[]=>true
 |d::r=>smD d&&sms r
end
theorem Ff{f:D->D->Option Bool}:∀{xs:List D},(∀d∈xs,f d d=some true)->Dx f xs xs=some true
 |[],_=>rfl
 |x::r,h=>by
   rw[Dx,h x uf0,Ff λd m=>h d (ud5 _ m)];rfl
theorem NI:∀{ss:List Sh}{d:D},d∈shD ss->∃s∈ss,d=s.d
 |s::r,d,h=>by
   rw[shD] at h;rcases ul2.mp h with rfl|h
   .exact⟨s,uf0,rfl⟩
   .clear 5(NI h)s' h1 h2;exact⟨s',ud5 _ h1,h2⟩
variable{f:M D}{t:T}{P:D->T->Prop}
theorem bc{g:M (List D)}(h:W f t λo t1=>W g t1 λas t2=>∃z ds ys,o=.str z/\as=[.lst ds]/\Gc ds=some ys/\(z.length<=8/\ys.length<=1048576)/\P (.str (Txt.join z ys)) t2):W (joinM f g) t P:=by
 refine CJ (h.mono λo t1 h1=>CJ (h1.mono λas t2 h2=>?_));clear 5 h2 z ds ys rfl rfl e hl p;refine⟨_,_,?_,p⟩;simp only[e];rw[hX hl]
theorem Iy:∀ns:List Nat,Gc (ns.map λn=>D.str ⟨#[n]⟩)=some (ns.map λn=>(⟨#[n]⟩:Str))
 |[]=>rfl
 |n::r=>by
   rw[ul3,Gc,hX (ud0 rfl),Iy r];rfl
theorem Kb:∀(ns:List Nat) (acc:Array Nat),((ns.map λn=>(⟨#[n]⟩:Str)).foldl (λacc p=>acc++(Str.ofString "").cps++p.cps) acc).toList=acc.toList++ns
 |[],acc=>by simp
 |n::r,acc=>by
   have e:(Str.ofString "").cps=#[]:=by decide +kernel
   rw[ul3,uj4,Kb r,e];simp
theorem P2(ns:List Nat):(Txt.join (Str.ofString "") (ns.map λn=>(⟨#[n]⟩:Str))).cps.toList=ns:=by
 show(List.foldl (λ(acc:Array Nat) (p:Str)=>acc++(Str.ofString "").cps++p.cps) (((ns.map λn=>(⟨#[n]⟩:Str)).headD Str.empty).cps) ((ns.map λn=>(⟨#[n]⟩:Str)).drop 1)).toList=ns
 cases ns with
 |nil=>rfl
 |cons n r=>
   rw[ul3,List.drop_one,List.tail_cons,Kb];rfl
structure ValueRes(k c l:Nat)(S:List Ob)(s:Sh)(r:D)(S':List Ob):Prop where
 fit:Ag s r=true
 lft:∃a b:Int,S'[l]?=some (.lst [.int a,.int b])
 deck:DeckAt k c S'
 kp:Pq k c l S S'
theorem Jf{f:M (List D)}{P:Out->T->Prop}(h:W f t λds t1=>P (.ret (.lst ds)) t1):W (Hu f) t P:=W_bnd.mpr (h.mono λ_ _ p=>W_ret.mpr p)
theorem GY{g:Fn}{f:M (List D)}{P:List D->T->Prop}(h:W f t λds t1=>Wf g ds t1.S λr S'=>∃rs,r=.lst rs/\P rs ⟨t1.env,S'⟩):W (D3 g f) t P:=by
 refine W_bnd.mpr (h.mono λds t1 z9=>?_);clear 5 z9 r S' e rs er p;subst er;exact⟨rs,⟨t1.env,S'⟩,by simp only[e],p⟩
variable{i:Nat}{xs:List D}
theorem Xt{P:Out->T->Prop}(e:t.env[i]?=some (some (.own xs)))(h:P (.ret (.lst xs)) ⟨t.env.set i none,t.S⟩):W (GR i) t P:=⟨_,_,by simp only[GR,e],h⟩
theorem aW{i:Int}(h:P (.int (Builtin.Int.intBits i:Nat)) t):W (JS (.int i)) t P:=⟨_,_,rfl,h⟩
theorem dA{i j:Int}(h0:0<=j)(h:P (.int (i/2 ^ j.toNat)) t):W (NJ (.int i) (.int j)) t P:=⟨_,_,by simp[NJ,i2C,h0],h⟩
variable{ys:List D}{t1:T}
theorem cT{A:List D->Prop}(e:t1.env[i]?=some (some (.own xs)))(l:xs.length+ys.length<=LIM)(w:A (xs++ys)):∃xs,t1.env[i]?=some (some (.own xs))/\∃zs,Fq xs [.lst ys]=some zs/\A zs:=
 ⟨xs,e,xs++ys,by simp[Fq,l],w⟩
theorem G0{f:M Bool}{b:M Out}{P:Out->T->Prop}(I:Nat->T->Prop)(turn:∀n t,I n t->W f t λk t1=>match k with
 |true=>∃m,n=m+1/\W b t1 λo t2=>match o with
   |.next=>I m t2
   |.cont=>I m t2
   |.brk=>P .next t2
   |.ret x=>P (.ret x) t2
 |false=>P .next t1):∀(fuel n:Nat) (t:T),n<fuel->I n t->W (Dj f b fuel) t P
 |0,n,t,h,_=>absurd h (Nat.not_lt_zero _)
 |fuel+1,n,t,h,i=>by
   clear 5(turn n t i)k t1 e1 p
   cases k with
   |false=>exact⟨_,_,by simp only[Dj,e1],p⟩
   |true=>
     clear 5 p m rfl o t2 e2 p
     cases o with
     |next=>clear 5(G0 I turn fuel m t2 (by lia) p)o t' e' p;exact⟨o,t',by simp only[Dj,e1,e2];exact e',p⟩
     |cont=>clear 5(G0 I turn fuel m t2 (by lia) p)o t' e' p;exact⟨o,t',by simp only[Dj,e1,e2];exact e',p⟩
     |brk=>exact⟨_,_,by simp only[Dj,e1,e2],p⟩
     |ret x=>exact⟨_,_,by simp only[Dj,e1,e2],p⟩
noncomputable def wid(n:Nat):Nat:=if n=0 then 0 else n.log2/8+1
theorem Ry(h:2<=n):n.log2=(n/2).log2+1:=by rw[Nat.log2_def,hX h]
theorem T1(h:n<2):n.log2=0:=by rw[Nat.log2_def,ia (by lia)]
theorem M4:∀(k:Nat){n:Nat},2 ^ k<=n->n.log2=(n/2 ^ k).log2+k
 |0,n,_=>by rw[un0,un9,Nat.add_zero]
 |k+1,n,h=>by
   have h2:2 ^ k*2<=n:=by rw[<-un1];exact h
   have h3:2<=n/2 ^ k:=(Nat.le_div_iff_mul_le (Nat.pow_pos (by decide))).mpr (by rw[gP];exact h2);rw[M4 k (um5 (Nat.le_mul_of_pos_right _ (by decide)) h2),Ry h3,uc4,<-un1,ul9,um7 1 k]
theorem TZ(h:256<=n):n.log2=(n/256).log2+8:=M4 8 h
theorem T0(h:n<256):n.log2<8:=by
 by_cases z:n=0
 .subst z;rw[T1 (by lia)];lia
 .exact(Nat.log2_lt z).mpr h
theorem JJ(h:0<n):wid n=wid (n/256)+1:=by
 unfold wid;rw[ia (by lia)]
 by_cases z:n<256
 .have:=T0 z;rw[hX (by lia)];lia
 .rw[ia (by lia),TZ (by lia)];lia
theorem KI:∀(k n:Nat),n<256 ^ k->wid n<=k
 |0,n,h=>by
   have:n=0:=by simpa using h
   subst this;decide
 |k+1,n,h=>by
   by_cases z:n=0
   .subst z;exact un7 _
   .rw[JJ (by lia)];have:=KI k (n/256) (Nat.div_lt_of_lt_mul (by rw[un1] at h;lia));lia
theorem Tf(n:Nat):((Builtin.Int.intBits (n:Int):Nat)+7)/8=wid n:=by
 unfold Builtin.Int.intBits wid
 by_cases z:n=0
 .subst z;rfl
 .have:((n:Int)==0)=false:=by simp;exact z
  rw[this,ia (by simp),ia z,Int.natAbs_natCast];lia
noncomputable def nb:Nat->Nat->List D
 |0,_=>[]
 |w+1,n=>nb w (n/256)++[.int ((n%256:Nat):Int)]
theorem Nc:∀w n,(nb w n).length=w
 |0,n=>rfl
 |w+1,n=>by rw[nb,uf3,Nc];rfl
theorem RW:∀w n:Nat,(List.range w).map (λk=>D.int ((n/2 ^ (8*(w-1-k))%256:Nat):Int))=nb w n
 |0,n=>rfl
 |w+1,n=>by
   rw[List.range_succ,uj9,nb,<-RW w (n/256)]
   congr 1
   .refine ue6 λk hk=>?_;rw[uk4] at hk;have e:8*(w+1-1-k)=8+8*(w-1-k):=by lia
    rw[e,Nat.pow_add,uc4]
   .simp
mutual
def As:Sh->D->List D
 |.nothing,_=>[]
 |.number lo hi,d=>match d with
   |.int i=>nb (wid (hi-lo).toNat) (i-lo).toNat
   |_=>[]
 |.text _,d=>match d with
   |.str x=>.int (x.length:Nat)::x.cps.toList.map λn=>D.int (n:Nat)
   |_=>[]
 |.list s _,d=>match d with
   |.lst ds=>.int (ds.length:Nat)::(ds.map λd=>As s d).flatten
   |_=>[]
 |.pair s r,d=>match d with
   |.tup [a,b]=>As s a++As r b
   |_=>[]
 |.choice ss,d=>match d with
   |.tup [_,.int k,x]=>.int k::JT ss k.toNat x
   |_=>[]
def JT:List Sh->Nat->D->List D
 |[],_,_=>[]
 |s::_,0,d=>As s d
 |_::r,k+1,d=>JT r k d
end
theorem El:∀(ss:List Sh) (k:Nat) (s:Sh) (d:D),ss[k]?=some s->JT ss k d=As s d
 |[],k,s,d,h=>by simp at h
 |s::r,0,s',d,h=>by simp at h;subst h;simp[JT]
 |s::r,k+1,s',d,h=>by rw[JT];exact El r k s' d (by simpa using h)
def ID(f:Fn)(n:Nat):Prop:=∀(s:Sh),s.depth<=n->wf s=true->∀d,Ag s d=true->(As s d).length<=LIM->Pure1 f [s.d,d] (.lst (As s d))
def HF(f:Fn):Prop:=∀(n j:Nat),j<=1000->Pure1 f [.int n,.int j] (.int ((n/2 ^ (8*j):Nat):Int))
theorem VZ:HF (fnOf 2 2 Ij):=by
 intro n j hj S;refine Ap rfl ?_;unfold Ij;right;refine QA (Wb (by decide) (by decide)) ?_;refine dA (by lia) ?_;refine⟨?_,rfl⟩;have:(8*(j:Int)).toNat=8*j:=by lia
 rw[this];simp
def JR(f:Fn):Prop:=∀n:Nat,n<256 ^ 9->Pure1 f [.int n] (.int (wid n:Nat))
theorem UM:JR (fnOf 1 1 Ft):=by
 intro n _ S;refine Ap rfl ?_;unfold Ft;right;refine aW ?_;right;refine⟨?_,rfl⟩;rw[<-Tf];simp
def Ms(f:Fn):Prop:=∀(n w:Nat),w<=1000->Pure1 f [.int n,.int w] (.lst (nb w n))
theorem O2(i:Int)(n:Nat):AM i n=(List.range n).map λk:Nat=>D.int (i+k):=by
 rfl
theorem Wi(hc:HF c):Ms (fnOf 2 2 (EV c)):=by
 intro n w hw S;have hL:LIM=100000:=rfl;refine Ap rfl ?_;unfold EV;refine Jf ?_;right;refine UJ (by rw[Bg (by decide) (by decide),Bg (by lia) (by lia)];rfl) ?_;refine(HJ (f:=λd=>match d with | .int k=>.int ((n/2 ^ (8*(w-k.toNat))%256:Nat):Int)|_=>d) (fr:=[vw (.int n),vw (.int w)]) ?_).mono ?_
 .intro d m;rw[O2] at m;clear 5(un2.mp m)k hk rfl;rw[uk4] at hk;right;have e:((w:Int)-(1+(k:Int)))=((w-(1+k):Nat):Int):=by lia
  rw[e];refine(hc n (w-(1+k)) (by lia)).use ?_;right;refine⟨?_,rfl⟩;have e2:(1+(k:Int)).toNat=1+k:=by lia
  dsimp only;rw[e2];simp
 .rintro xs t' ⟨rfl,hS⟩;have hn:((w:Int)+1-1).toNat=w:=by lia
  rw[O2,hn];refine Bb (by simp only[ui8,ug6,hL];lia) ?_;refine⟨?_,hS⟩;rw[<-RW w n,un3]
  congr 1
  refine ue6 λk hk=>?_;rw[uk4] at hk;have e2:(1+(k:Int)).toNat=1+k:=by lia
  have e3:w-(1+k)=w-1-k:=by lia
  simp only[Function.comp,e2,e3]
theorem Pc{lo hi:Int}(h:wf (.number lo hi)=true):(hi-lo).toNat<256 ^ 9:=by
 simp only[wf,uh5,ug8] at h;have:(256:Nat) ^ 9=4722366482869645213696:=by decide
 lia
theorem QT(x:Str):(x.cps.toList.map λc=>D.str ⟨#[c]⟩).map (λd=>match d with | .str y=>D.int (y.cps.getD 0 0:Nat)|_=>d)=x.cps.toList.map λn=>D.int (n:Nat):=by
 rw[un3];refine ue6 λn _=>?_;rfl
variable{cn:Fn}
theorem VA(hc:ID c n)(hw:JR cw)(hn:Ms cn):ID (fnOf 2 5 (ED c cw cn)) (n+1):=by
 intro s hs hwf d hf hlen S;have hL:LIM=100000:=rfl;refine Ap rfl ?_;unfold ED
 cases s with
 |nothing=>
   rw[Sh.d];right;refine Jf ?_;right;exact⟨by rw[As],rfl⟩
 |number lo hi=>
   have hsp:=Pc hwf;have hwd:=KI 9 _ hsp;simp only[wf,uh5,ug8] at hwf
   cases d<;>simp[Ag] at hf
   rename_i i;rw[Sh.d];right;refine Jf (GY ?_);right;have e1:hi-lo=(((hi-lo).toNat:Nat):Int):=by lia
   have e2:i-lo=(((i-lo).toNat:Nat):Int):=by lia
   rw[e1,e2];refine(hw _ hsp).use ?_;right;refine(hn _ _ (by lia)).use ?_;exact⟨_,rfl,by rw[As],rfl⟩
 |text q=>
   simp only[wf,uh5,ug8] at hwf
   cases d<;>simp[Ag] at hf
   rename_i x;rw[Sh.d];right;refine Jf ?_;refine CJ ?_;right;refine Vd (by rw[hL];lia) ?_;right;refine(HJ (f:=λd=>match d with | .str y=>D.int (y.cps.getD 0 0:Nat)|_=>d) (fr:=[]) ?_).mono ?_
   .intro d m;clear 5(un2.mp m)k hk rfl;right;refine ZO rfl ?_;exact⟨rfl,rfl⟩
   .rintro xs t' ⟨rfl,hS⟩;rw[QT];have hl:x.cps.toList.length<=250:=by rw[<-Fi];lia
    refine Bb (by rw[ui8,hL];lia) ?_;right;refine Bb (by simp only[ui8,uh1,uj7,hL];lia) ?_;exact⟨by rw[As];rfl,hS⟩
 |list s q=>
   simp only[wf,uh5,ug8] at hwf;rw[Sh.depth] at hs
   cases d<;>simp only[Ag,uf4] at hf
   rename_i ds;rw[uh5,ug8,uh9] at hf;rw[As] at hlen⊢;rw[Sh.d];right;refine BX (λr t=>∃(z:Option Sl) (acc:List D),t=⟨[vw (.tup [.str "list",s.d,.int q]),vw (.lst ds),vw (.str "list"),some (.own acc),z],S⟩/\acc++(r.map λd=>As s d).flatten=.int (ds.length:Nat)::(ds.map λd=>As s d).flatten) _ _ ⟨_,_,rfl,rfl⟩ ?_ ?_
   .rintro d r t ⟨z,acc,rfl,hacc⟩ m;rw[ul3,ug2,<-ug3] at hacc;have hl:acc.length+(As s d).length<=LIM:=by
     have:=gY List.length hacc;rw[uf3,uf3] at this;lia
    right;refine GY ?_;right;refine(hc s (uc5 hs) hwf.2 d (hf.2 d m) (um5 (Nat.le_add_left _ _) hl)).use ⟨_,rfl,?_⟩;right;refine cT rfl hl ?_;exact⟨_,_,rfl,hacc⟩
   .rintro t ⟨z,acc,rfl,hacc⟩;rw[um8,List.flatten_nil,uj0] at hacc;right;refine Xt rfl ?_;exact⟨by rw[hacc],rfl⟩
 |pair s r=>
   simp only[wf,uh5] at hwf;rw[Sh.depth] at hs;unfold Ag at hf
   split at hf
   case h_2=>cases hf
   case h_1 a b=>
    rw[uh5] at hf;rw[As] at hlen⊢;rw[uf3] at hlen;rw[Sh.d];right;refine Jf ?_;refine CJ ?_;right;refine GY ?_;right;refine(hc s (um5 (Nat.le_max_left _ _) (uc5 hs)) hwf.1 a hf.1 (um5 (uh8 _ _) hlen)).use ⟨_,rfl,?_⟩;refine CJ ?_;right;refine GY ?_;right;refine(hc r (um5 (Nat.le_max_right _ _) (uc5 hs)) hwf.2 b hf.2 (um5 (Nat.le_add_left _ _) hlen)).use ⟨_,rfl,?_⟩;right;refine Bb hlen ?_;exact⟨rfl,rfl⟩
 |choice ss=>
   simp only[wf,uh5,ug8] at hwf;rw[Sh.depth] at hs;unfold Ag at hf
   split at hf
   case h_2=>cases hf
   case h_1 o k x=>
    simp only[uh5,ug8] at hf;obtain⟨⟨ho,k0,k1⟩,hf⟩:=hf;have hk:k.toNat<ss.length:=by lia
    have e1:ss[k.toNat]?=some ss[k.toNat]:=ub2 hk;have hl:=DQ ss;have e2:atI (shD ss) k=some (ss[k.toNat]).d:=by
     unfold atI;rw[BP k0 (by lia)];show(shD ss)[k.toNat]?=_;rw[GW,e1];rfl
    rw[B0 ss _ _ _ e1] at hf;rw[As] at hlen⊢;rw[El ss _ _ _ e1] at hlen⊢;rw[uh1] at hlen;rw[Sh.d];right;refine Jf ?_;right;refine GY ?_;right;refine E4 e2 ?_;right;refine(hc _ (um5 (B1 ss _ _ e1) (uc5 hs)) (DS hwf.2 _ (ui1 hk)) x hf (Nat.le_of_succ_le hlen)).use ⟨_,rfl,?_⟩;right;refine Bb (by simp only[uh1,uj7];lia) ?_;exact⟨rfl,rfl⟩
theorem Kk(a:Int)(n:Nat):(AM a n).length=n:=by simp[AM]
variable{j:Nat}{r:List D}
theorem Lg{a:Int}{d:D}(e:d::r=(AM a n).drop j):d=.int (a+j)/\r=(AM a n).drop (j+1)/\j<n:=by
 have hj:j<(AM a n).length:=by
  rcases gQ j (AM a n).length with h|h
  .exact h
  .rw[gj h] at e;cases e
 rw[ua9 hj] at e;injection e with e1 e2
 rw[Kk] at hj;refine⟨?_,e2,hj⟩;rw[e1];simp[AM]
noncomputable def sgs:Str:=" !\"#$ &'()*+,-./0123456789:;<=>?@ABCDEFGHIJKLMNOPQRSTUVWXYZ[\\]^_`abcdefghijklmnopqrstuvwxyz{|}~"
theorem Zt{c:Nat}(h:BC c=true):atI sgs.cps.toList ((c:Int)-32)=some c:=by
 have hl:sgs.cps.toList.length=95:=by decide +kernel
 have hall:(List.range 127).all (λc=>!BC c||decide (sgs.cps.toList[c-32]?=some c))=true:=by decide +kernel
 have h':=h;simp only[BC,uh5,ug8] at h';have:=uh9.mp hall c (uk4.mpr (by lia));rw[h,Bool.not_true,gJ,ug8] at this;rw[show((c:Int)-32)=((c-32:Nat):Int) by lia];exact IJ this
variable{h:D->M Out}
section
variable{t:T}{P:D->T->Prop}{R:Out->T->Prop}
def UD(h:D->M Out)(R:Out->T->Prop)(o:Out)(t1:T):Prop:=match o with
 |.ret (.exc n ds)=>n∈BB/\W (h (.exc n ds)) t1 R
 |o=>R o t1
theorem dF{b:M Out}(w:W b t (UD h R)):W (Ge b h) t R:=by
 clear 5 w o t1 e q;have rest:∀d,Ba d=false->o=.ret d->W (Ge b h) t R:=λd hd ho=>by
  subst ho;refine⟨.ret d,t1,?_,?_⟩
  .unfold Ge;rw[e];cases d<;>first|rfl|cases hd
  .cases d<;>first|exact q|cases hd
 cases o with
 |next=>exact⟨.next,t1,by unfold Ge;rw[e],q⟩
 |brk=>exact⟨.brk,t1,by unfold Ge;rw[e],q⟩
 |cont=>exact⟨.cont,t1,by unfold Ge;rw[e],q⟩
 |ret d=>
   cases d with
   |exc n ds=>
     clear 5 q hn o2 t2 e2 q2;exact⟨o2,t2,by unfold Ge;rw[e];dsimp only;rw[hX hn,e2],q2⟩
   |_=>exact rest _ rfl rfl
theorem SG(q:R .next t1):UD h R .next t1:=q
theorem Xk{n:Str}(e:n∈BB)(q:W (h (.exc n ds)) t1 R):UD h R (.ret (.exc n ds)) t1:=⟨e,q⟩
def xK(d:D)(A B:Prop):Prop:=if Ba d=true then A else B
theorem bD{d:D}{A B:Prop}(e:Ba d=false)(b:B):xK d A B:=by unfold xK;rw[ia (by rw[e];decide)];exact b
theorem bC{d:D}{A B:Prop}(e:Ba d=true)(a:A):xK d A B:=by unfold xK;rw[hX e];exact a
theorem bv(w:W f t λd t1=>xK d (R (.ret d) t1) (R .next ⟨t1.env.set i (vw d),t1.S⟩)):W (D2 i f) t R:=by
 refine CJ (w.mono λd t1 q=>?_);unfold xK at q
 split at q
 .next h=>rw[hX h];exact⟨_,_,rfl,q⟩
 .next h=>rw[ia h];exact⟨_,_,rfl,q⟩
theorem wNx(w:W f t λd t1=>Ba d=false/\P d t1):W (nxD f) t P:=by
 refine CJ (w.mono λd t1 z9=>?_);clear 5 z9 h q;rw[ia (by rw[h];decide)];exact⟨_,_,rfl,q⟩
theorem aX{g:M D}{h:D->M D}(w:W g t λy t1=>xK y (P y t1) (W (h y) t1 λd t2=>Ba d=false/\P d t2)):W (KO g h) t P:=by
 refine CJ (w.mono λy t1 q=>?_);unfold xK at q
 split at q
 .next z=>rw[hX z];exact⟨_,_,rfl,q⟩
 .next z=>rw[ia z];exact wNx q
theorem aV{g:M D}{h:D->D->M D}(w:W f t λx t1=>W (KO g (h x)) t1 P):W (IN f g h) t P:=CJ w
theorem Xr{n:Str}{f:M (List D)}(w:W f t λds t1=>ds.length<=1000/\R (.ret (.exc n [])) t1):W (Iv n f) t R:=
 CJ (w.mono λds t1 ⟨e,q⟩=>by rw[hX e];exact⟨_,_,rfl,q⟩)
theorem Xs{n:Str}(w:W f t λ_ t1=>R (.ret (.exc n [])) t1):W (Iv n (Ab f Ad)) t R:=Xr (Fb (w.mono λd t1 q=>Lu ⟨by show 1<=1000;decide,q⟩))
theorem cX{n n':Str}{s:M Out}{r:D->M Out}(e:GA n n'=true)(w:W s t R):W (hNo n' s r (.exc n ds)) t R:=by
 clear 5 w o t2 e1 q;exact⟨o,t2,by unfold hNo;dsimp only;rw[hX e,e1],q⟩
end
local macro_rules | `(tactic| walk_at"x1")=>`(tactic| first
 |walk_at"w1" |clear 31 dF bv wNx aV aX SG|clear 33 Xk|clear 32 bD|clear 32 bC|clear 31 Xs|clear 33 cX)
local macro_rules | `(tactic| left)=>`(tactic| repeat (walk_at"x1"))
set_option genInjectivity false in inductive Rd where
 |done (v:D)
 |need (ok:Nat->Bool) (nx:Nat->Rd)
set_option genInjectivity false in inductive RR where
 |told (v:D) (a:Nat)
 |short
 |broken (a:Nat)
noncomputable def Rd.run:Rd->List Nat->Nat->RR
 |.done v,_,a=>.told v a
 |.need ok nx,w,a=>match w[a]? with
   |none=>.short
   |some b=>if ok b=true then(nx b).run w (a+1) else .broken a
noncomputable def Rd.bnd:Rd->(D->Rd)->Rd
 |.done v,k=>k v
 |.need ok nx,k=>.need ok λb=>(nx b).bnd k
def RR.thn(r:RR)(w:List Nat)(k:D->Rd):RR:=match r with
 |.told v a=>(k v).run w a
 |.short=>.short
 |.broken a=>.broken a
variable{w:List Nat}{a:Nat}
theorem A9{ok:Nat->Bool}{nx:Nat->Rd}(h:w[a]?=none):(Rd.need ok nx).run w a=.short:=by rw[Rd.run,h]
variable{b:Nat}
theorem AN{ok:Nat->Bool}{nx:Nat->Rd}(h:w[a]?=some b):(Rd.need ok nx).run w a=if ok b=true then(nx b).run w (a+1) else .broken a:=by rw[Rd.run,h]
theorem B5(k:D->Rd)(w:List Nat):∀(p:Rd) (a:Nat),(p.bnd k).run w a=(p.run w a).thn w k:=by
 intro p
 induction p with
 |done v=>intro a;rfl
 |need ok nx ih=>
   intro a;rw[Rd.bnd]
   cases h:w[a]? with
   |none=>rw[A9 h,A9 h];rfl
   |some b=>
     rw[AN h,AN h]
     by_cases q:ok b=true
     .rw[hX q,hX q];exact ih b (a+1)
     .rw[ia q,ia q];rfl
variable{v:D}
theorem DR:∀(p:Rd) (a:Nat),a<=w.length->p.run w a=.told v b->a<=b/\b<=w.length:=by
 intro p
 induction p with
 |done v'=>intro a ha h;cases h;exact⟨un6 _,ha⟩
 |need ok nx ih=>
   intro a ha h
   cases e:w[a]? with
   |none=>rw[A9 e] at h;cases h
   |some c=>
     rw[AN e] at h;have hl:=(ua7.mp e).1
     by_cases q:ok c=true
     .rw[hX q] at h;have:=ih c (a+1) hl h;lia
     .rw[ia q] at h;cases h
theorem HK{k:Nat}:∀(p:Rd) (a:Nat),p.run w a=.broken k->a<=k/\k<w.length:=by
 intro p
 induction p with
 |done v'=>intro a h;cases h
 |need ok nx ih=>
   intro a h
   cases e:w[a]? with
   |none=>rw[A9 e] at h;cases h
   |some c=>
     rw[AN e] at h;have hl:=(ua7.mp e).1
     by_cases q:ok c=true
     .rw[hX q] at h;have:=ih c (a+1) h;lia
     .rw[ia q] at h;cases h;lia
def Rd.good:Rd->Prop
 |.done _=>True
 |.need ok nx=>(ok 0=true\/ok 32=true)/\∀b,ok b=true->(nx b).good
noncomputable def Fw(lo:Int)(M:Nat):Nat->Nat->Rd
 |0,x=>.done (.int (lo+x))
 |r+1,x=>.need (λb=>decide (x*256+b<=M/2 ^ (8*r))) λb=>Fw lo M r (x*256+b)
def F7:Nat->List Nat->Rd
 |0,cs=>.done (.str ⟨cs.toArray⟩)
 |n+1,cs=>.need BC λc=>F7 n (cs++[c])
def Fv(p:Rd):Nat->List D->Rd
 |0,ds=>.done (.lst ds)
 |n+1,ds=>p.bnd λv=>Fv p n (ds++[v])
def pSh:Nat->Sh->Rd
 |0,_=>.done .non
 |_+1,.nothing=>.done .non
 |_+1,.number lo hi=>Fw lo (hi-lo).toNat (wid (hi-lo).toNat) 0
 |_+1,.text q=>.need (λb=>decide ((b:Int)<=q)) λb=>F7 b []
 |n+1,.list s q=>.need (λb=>decide ((b:Int)<=q)) λb=>Fv (pSh n s) b []
 |n+1,.pair s r=>(pSh n s).bnd λv=>(pSh n r).bnd λu=>.done (.tup [v,u])
 |n+1,.choice ss=>.need (λb=>decide (b<ss.length)) λb=>(pSh n (ss.getD b .nothing)).bnd λv=>.done (.tup [.str "of",.int b,v])
mutual
noncomputable def plD:D->Bool
 |.lst xs=>pls xs
 |.tup xs=>pls xs
 |.obj _=>false
 |.scr _=>false
 |.ty _=>false
 |.exc _ _=>false
 |.dic=>false
 |_=>true
noncomputable def pls:List D->Bool
 |[]=>true
 |d::r=>plD d&&pls r
end
theorem Tn{k:Int}(h0:0<=k)(h1:k<=xs.length):AV xs none (some k)=xs.take k.toNat:=by
 have:HT.sIx xs.length xs.length (some k)=k.toNat:=by simp only[HT.sIx];rw[ia (by lia)];lia
 unfold AV;rw[this];simp[HT.sIx]
noncomputable def pos(i:Int):Int:=if 0<i then i else 0
structure ValueRes2(k c l:Nat)(S:List Ob)(s:Sh)(a b:Int)(r:D)(S':List Ob):Prop where
 fit:Ag s r=true
 lft:∃a' b':Int,S'[l]?=some (.lst [.int a',.int b'])/\((As s r).length:Int)<=9*(a-a')+(pos b-pos b')/\pos b'<=pos b/\1<=a-a'/\a-a'<=cnt s+(14*(s.depth:Int))*pos a
 deck:DeckAt k c S'
 kp:Pq k c l S S'
mutual
noncomputable def szE:D->Nat
 |.lst xs=>1+UB xs
 |.tup xs=>1+UB xs
 |_=>1
noncomputable def UB:List D->Nat
 |[]=>0
 |d::r=>szE d+UB r
end
structure VOk(s:Sh)(v:D):Prop where
 fit:Ag s v=true
 len:(As s v).length<=14809
local macro_rules | `(tactic| walk_at"y1")=>`(tactic| first
 |walk_at"x1")
local macro_rules | `(tactic| symm)=>`(tactic| repeat (walk_at"y1"))
noncomputable def wD(w:List Nat):List D:=w.map λ(n:Nat)=>D.int (n:Int)
theorem D9(w:List Nat):(wD w).length=w.length:=by unfold wD;rw[ui8]
theorem SL(h:w[a]?=some b):(wD w)[a]?=some (.int (b:Int)):=by unfold wD;rw[ug1,h];rfl
abbrev exS:D:=.exc "Short" []
abbrev exB(a:Nat):D:=.exc "Broken" [.int (a:Int),.non]
noncomputable def rrD:RR->D
 |.told v b=>.tup [v,.int (b:Int)]
 |.short=>exS
 |.broken a=>exB a
noncomputable def byX:Option Nat->D
 |none=>exS
 |some b=>.int (b:Int)
noncomputable def upX(m:Int)(a:Nat):Option Nat->D
 |none=>exS
 |some b=>if (b:Int)<=m then .int (b:Int) else exB a
def sgX(a:Nat):Option Nat->D
 |none=>exS
 |some c=>if BC c=true then .str ⟨#[c]⟩ else exB a
def RX(c:Fn)(s:Sh)(p:Rd):Prop:=∀(w:List Nat) (a:Nat),a<=w.length->Pure1 c [s.d,.lst (wD w),.int (a:Int)] (rrD (p.run w a))
noncomputable def seg(w:List Nat)(a b:Nat):List Nat:=(w.drop a).take (b-a)
theorem Hw(w:List Nat)(a:Nat):seg w a a=[]:=by unfold seg;rw[un4,List.take_zero]
theorem F9{x:Nat}(h:w[a]?=some x)(hb:a+1<=b):seg w a b=x::seg w (a+1) b:=by
 clear 5(ua7.mp h)hl e;unfold seg;rw[ua9 hl,e,show b-a=(b-(a+1))+1 by lia,ue8]
theorem O5{c:Nat}(h1:a<=c)(h2:c<=b):seg w a b=seg w a c++seg w c b:=by
 unfold seg;rw[show b-a=(c-a)+(b-c) by lia,List.take_add,List.drop_drop,show a+(c-a)=c by lia]
theorem SK(x y:List Nat):wD (x++y)=wD x++wD y:=by unfold wD;rw[uj9]
theorem Jc(x:Nat)(y:List Nat):wD (x::y)=.int (x:Int)::wD y:=rfl
theorem K9:∀(r y:Nat),nb (r+1) y=.int ((y/256 ^ r%256:Nat):Int)::nb r y
 |0,y=>by rw[nb,nb,nb,un0,un9];rfl
 |r+1,y=>by
   rw[show nb (r+1+1) y=nb (r+1) (y/256)++[.int ((y%256:Nat):Int)] from rfl,K9 r (y/256),ui2,show nb (r+1) y=nb r (y/256)++[.int ((y%256:Nat):Int)] from rfl,uc4,show 256*256 ^ r=256 ^ (r+1) by rw[un1,gP]]
theorem Ni{lo:Int}{M:Nat}{w:List Nat}(hw:∀x∈w,x<256){v:D}{b:Nat}:∀(r x a:Nat),(Fw lo M r x).run w a=.told v b->∃y:Nat,v=.int (lo+y)/\y/256 ^ r=x/\(x<=M/2 ^ (8*r)->y<=M)/\nb r y=wD (seg w a b)/\b=a+r
 |0,x,a,h=>by
   rw[Fw,Rd.run] at h
   cases h
   exact⟨x,rfl,by rw[un0,un9],(λh=>by rw[Nat.mul_zero,un0,un9] at h;exact h),by rw[Hw,nb];rfl,rfl⟩
 |r+1,x,a,h=>by
   rw[Fw] at h
   cases e:w[a]? with
   |none=>rw[A9 e] at h;cases h
   |some c=>
     rw[AN e] at h;have hc:=hw c (ud8 e)
     by_cases q:x*256+c<=M/2 ^ (8*r)
     .rw[hX (ul0 q)] at h;clear 5(Ni hw r _ _ h)y h1 h2 h3 h4 h5;refine⟨y,h1,?_,λ_=>h3 q,?_,by lia⟩
      .rw[un1,<-uc4,h2];lia
      .rw[K9,h2,F9 e (by lia),Jc,h4]
       congr 3
       lia
     .rw[ia (by rw[ug8];exact q)] at h;cases h
theorem NL{w:List Nat}{v:D}{b:Nat}:∀(n:Nat) (cs:List Nat) (a:Nat),(F7 n cs).run w a=.told v b->v=.str ⟨(cs++seg w a b).toArray⟩/\(seg w a b).length=n/\(∀c∈seg w a b,BC c=true)/\b=a+n
 |0,cs,a,h=>by
   rw[F7,Rd.run] at h
   cases h
   rw[Hw,uj0];exact⟨rfl,rfl,(λc z=>nomatch z),rfl⟩
 |n+1,cs,a,h=>by
   rw[F7] at h
   cases e:w[a]? with
   |none=>rw[A9 e] at h;cases h
   |some c=>
     rw[AN e] at h
     by_cases q:BC c=true
     .rw[hX q] at h;clear 5(NL n _ _ h)h1 h2 h3 h4;rw[F9 e (by lia)];refine⟨by rw[h1,ug3];rfl,by rw[uh1,h2],λx hx=>?_,by lia⟩;rcases ul2.mp hx with rfl|hx
      .exact q
      .exact h3 x hx
     .rw[ia q] at h;cases h
theorem M7{w:List Nat}{s:Sh}{p:Rd}(hp:∀(a b:Nat) (v:D),a<=w.length->p.run w a=.told v b->Ag s v=true/\As s v=wD (seg w a b)){v:D}{b:Nat}:∀(n:Nat) (ds:List D) (a:Nat),a<=w.length->(Fv p n ds).run w a=.told v b->∃es,v=.lst (ds++es)/\es.length=n/\(∀e∈es,Ag s e=true)/\(es.map λd=>As s d).flatten=wD (seg w a b)/\a<=b
 |0,ds,a,_,h=>by
   rw[Fv,Rd.run] at h
   cases h
   exact⟨[],by rw[uj0],rfl,(λe z=>nomatch z),by rw[Hw];rfl,un6 _⟩
 |n+1,ds,a,ha,h=>by
   rw[Fv,B5] at h
   cases e:p.run w a with
   |short=>rw[e] at h;cases h
   |broken k=>rw[e] at h;cases h
   |told u a'=>
     rw[e,RR.thn] at h;have hle:=DR p a ha e;have hu:=hp a a' u ha e;clear 5(M7 hp n _ _ hle.2 h)es h1 h2 h3 h4 h5;refine⟨u::es,by rw[h1,ug3];rfl,by rw[uh1,h2],λx hx=>?_,?_,by lia⟩
     .rcases ul2.mp hx with rfl|hx
      .exact hu.1
      .exact h3 x hx
     .rw[ul3,ug2,h4,hu.2,O5 hle.1 h5,SK]
theorem NC:∀(n:Nat) (s:Sh),s.depth<=n->wf s=true->∀(w:List Nat),(∀x∈w,x<256)->∀(a b:Nat) (v:D),a<=w.length->(pSh n s).run w a=.told v b->Ag s v=true/\As s v=wD (seg w a b)
 |0,s,hs,_,_,_,_,_,_,_,_=>absurd s.depth_pos (by lia)
 |n+1,s,hs,hwf,w,hw,a,b,v,ha,h=>by
   cases s with
   |nothing=>
     rw[pSh,Rd.run] at h
     cases h
     rw[Hw,As];exact⟨by simp[Ag,FE],rfl⟩
   |number lo hi=>
     rw[pSh] at h;obtain⟨y,rfl,_,h3,h4,_⟩:=Ni hw _ _ _ h;have hy:=h3 (un7 _);simp only[wf,uh5,ug8] at hwf;refine⟨?_,?_⟩
     .simp only[Ag,uh5,ug8];lia
     .rw[As,<-h4,show(lo+(y:Int)-lo).toNat=y by lia]
   |text q=>
     rw[pSh] at h
     cases e:w[a]? with
     |none=>rw[A9 e] at h;cases h
     |some c=>
       rw[AN e] at h
       by_cases hc:(c:Int)<=q
       .rw[hX (ul0 hc)] at h;clear 5(NL _ _ _ h)rfl h2 h3 h4;rw[uj5];have hl:(⟨(seg w (a+1) b).toArray⟩:Str).length=c:=by rw[Fi];exact h2
        refine⟨?_,?_⟩
        .simp only[Ag,uh5,ug8,uh9];exact⟨by rw[hl];exact hc,h3⟩
        .rw[As,hl,F9 e (by lia),Jc];rfl
       .rw[ia (by rw[ug8];exact hc)] at h;cases h
   |list s q=>
     simp only[wf,uh5,ug8] at hwf;rw[Sh.depth] at hs;rw[pSh] at h
     cases e:w[a]? with
     |none=>rw[A9 e] at h;cases h
     |some c=>
       have hal:=(ua7.mp e).1;rw[AN e] at h
       by_cases hc:(c:Int)<=q
       .rw[hX (ul0 hc)] at h;clear 5(M7 (λa b v=>NC n s (by lia) hwf.2 w hw a b v) _ _ _ hal h)es rfl h2 h3 h4 h5;rw[uj5];refine⟨?_,?_⟩
        .rw[Ag,uh5,ug8,uh9];exact⟨by rw[h2];exact hc,h3⟩
        .rw[As,h4,h2,F9 e h5,Jc]
       .rw[ia (by rw[ug8];exact hc)] at h;cases h
   |pair s r=>
     simp only[wf,uh5] at hwf;rw[Sh.depth] at hs;rw[pSh,B5] at h
     cases e:(pSh n s).run w a with
     |short=>rw[e] at h;cases h
     |broken k=>rw[e] at h;cases h
     |told u a'=>
       rw[e,RR.thn,B5] at h;have l1:=DR _ a ha e;have i1:=NC n s (by lia) hwf.1 w hw a a' u ha e
       cases e2:(pSh n r).run w a' with
       |short=>rw[e2] at h;cases h
       |broken k=>rw[e2] at h;cases h
       |told u2 a2=>
         rw[e2] at h;have l2:=DR _ a' l1.2 e2;have i2:=NC n r (by lia) hwf.2 w hw a' a2 u2 l1.2 e2
         cases h
         refine⟨?_,?_⟩
         .simp only[Ag,uh5];exact⟨i1.1,i2.1⟩
         .rw[As,i1.2,i2.2,O5 l1.1 l2.1,SK]
   |choice ss=>
     simp only[wf,uh5,ug8] at hwf;rw[Sh.depth] at hs;rw[pSh] at h
     cases e:w[a]? with
     |none=>rw[A9 e] at h;cases h
     |some c=>
       have hal:=(ua7.mp e).1;rw[AN e] at h
       by_cases hc:c<ss.length
       .rw[hX (ul0 hc),B5] at h;have e0:ss[c]?=some ss[c]:=ub2 hc;rw[ua6,e0,ui3] at h
        cases e2:(pSh n ss[c]).run w (a+1) with
        |short=>rw[e2] at h;cases h
        |broken k=>rw[e2] at h;cases h
        |told u a2=>
          rw[e2] at h;have l1:=DR _ (a+1) hal e2;have i1:=NC n ss[c] (um5 (B1 ss _ _ e0) (by lia)) (DS hwf.2 _ (ui1 hc)) w hw (a+1) a2 u hal e2
          cases h
          refine⟨?_,?_⟩
          .simp only[Ag,uh5,ug8];refine⟨⟨rfl,by lia,by lia⟩,?_⟩;rw[ug7,B0 ss _ _ _ e0];exact i1.1
          .rw[As,ug7,El ss _ _ _ e0,i1.2,F9 e l1.1,Jc]
       .rw[ia (by rw[ug8];exact hc)] at h;cases h
theorem Du{kvs:List (Key×D)}{d:D}(e:t.S[n]?=some (.dct kvs))(e2:Ct kvs (.inr x)=some d)(h:P d t):W (BY (.obj n) (.str x)) t P:=
 ⟨d,t,by simp only[BY,e,e2];rfl,h⟩
variable{U:Unit->T->Prop}
theorem N1{g:M D}{d:D}(h:W f t λo t1=>W g t1 λi t2=>W (GX o i d) t2 U):W (Mm f g d) t U:=CJ (h.mono λo t1 h1=>CJ h1)
theorem UK{d:D}{kvs:List (Key×D)}(e:t.S[n]?=some (.dct kvs))(hl:kvs.length<LIM)(h:U () ⟨t.env,t.S.set n (.dct (Cu kvs (.inr x) d))⟩):W (GX (.obj n) (.str x) d) t U:=
 ⟨(),_,by simp only[GX,e,hX hl],h⟩
theorem KD{g:M D}{xs0:List D}(e:t.env[i]?=some (some (.own xs0)))(h:W g t λj t1=>∃n xs d,j=.int n/\t1.env[i]?=some (some (.own xs))/\atI xs n=some d/\P d t1):W (D4 i g) t P:=by
 clear 5 h j t1 e1 n xs d rfl e2 e3 p;refine⟨d,t1,?_,p⟩;unfold D4;simp only[e];show bnd g _ t=_;unfold bnd;simp only[e1,e2,e3];rfl
theorem SN{g:M D}{d:D}{xs0:List D}(e:t.env[i]?=some (some (.own xs0)))(h:W g t λj t1=>∃n xs k,j=.int n/\t1.env[i]?=some (some (.own xs))/\ixN xs.length n=some k/\U () {t1 with env:=t1.env.set i (some (.own (xs.set k d)))}):W (Gm i g d) t U:=by
 clear 5 h j t1 e1 n xs k rfl e2 e3 p;refine⟨(),_,?_,p⟩;unfold Gm;simp only[e];show bnd g _ t=_;unfold bnd;simp only[e1,e2,e3];rfl
theorem Va{l:List (Str×M D)}(h:W (D5 l) ⟨t.env,t.S++[.dct []]⟩ λps t1=>t1.S[t.S.length]?=some (.dct [])/\ps.length<=15/\P (.obj t.S.length) ⟨t1.env,t1.S.set t.S.length (.dct (Eo ps))⟩):W (Gh l) t P:=by
 clear 5 h ps t1 e1 e2 e3 p;refine⟨_,_,?_,p⟩;unfold Gh bnd;simp only[e1];unfold IK;simp only[e2,hX e3]
theorem LX{Q:List (Key×D)->T->Prop}(h:Q [] t):W (D5 []) t Q:=⟨_,_,rfl,h⟩
theorem FJ{k:Str}{r:List (Str×M D)}{Q:List (Key×D)->T->Prop}(h:W f t λd t1=>W (D5 r) t1 λps t2=>Q ((.inr k,d)::ps) t2):W (D5 ((k,f)::r)) t Q:=
 CJ (h.mono λd t1 h1=>CJ (h1.mono λps t2 h2=>⟨_,_,rfl,h2⟩))
set_option genInjectivity false in structure St where
 rest:Int
 mixed:Bool
 turn:Int
noncomputable def St.ob(s:St):Ob:=.dct [(.inr (Str.ofString "rest"),.int s.rest),(.inr (Str.ofString "mixed"),.bl s.mixed),(.inr (Str.ofString "turn"),.int s.turn)]
noncomputable def take(s:St)(m:Int):Int×St:=
 if s.mixed=false then(s.rest%m,⟨s.rest/m,s.mixed,s.turn⟩)
 else
  let stir:=(s.rest%2147483579+70001*(s.turn+1))%2147483579
  let rest:=(stir*stir%2147483563*50021+7)%2147483579
  (rest/5%m,⟨rest,s.mixed,s.turn+1⟩)
theorem CH(a:Int)(n:Nat):(AM a n).length=n:=by simp[AM]
set_option genInjectivity false in inductive GS where
 |fin
 |st (side:Str) (ws:List (Str×Sh×Int))
def wdD(w:Str×Sh×Int):D:=.tup [.str w.1,w.2.1.d,.int w.2.2]
def GS.d:GS->D
 |.fin=>.tup [.str (Str.ofString "end")]
 |.st side ws=>.tup [.str side,.lst (ws.map wdD)]
noncomputable def GS.isFin:GS->Bool
 |.fin=>true
 |_=>false
theorem E2{a:Int}{d:D}(e:d::r=(AM a n).drop j):d=.int (a+j)/\r=(AM a n).drop (j+1)/\j<n:=by
 have hj:j<(AM a n).length:=by
  rcases gQ j (AM a n).length with h|h
  .exact h
  .rw[gj h] at e;cases e
 rw[ua9 hj] at e;injection e with e1 e2
 rw[CH] at hj;refine⟨?_,e2,hj⟩;rw[e1];simp[AM]
structure WOk(n:Int)(w:Str×Sh×Int):Prop where
 ok:wf w.2.1=true
 dep:w.2.1.depth<=3
 lo:0<=w.2.2
 hi:w.2.2<n
 nm:w.1.length<=90000
inductive GSOk(n:Int):GS->Prop
 |fin:GSOk n .fin
 |st {side:Str}{ws:List (Str×Sh×Int)}:(side=Str.ofString "left"\/side=Str.ofString "right")->0<ws.length->ws.length<=9->(ws.map (·.1)).Nodup->(∀w∈ws,WOk n w)->GSOk n (.st side ws)
structure GOk(g:List GS):Prop where
 ne:0<g.length
 le:g.length<=30
 all:∀x∈g,GSOk g.length x
def IE(f:Fn):Prop:=∀(n:Int) (x:GS),GSOk n x->Pure1 f [x.d] (.bl x.isFin)
theorem Rr:IE (fnOf 1 1 Jy):=by
 intro n x hx S;refine Ap rfl ?_;unfold Jy
 cases hx with
 |fin=>
   rw[GS.d];right;exact⟨by simp[GS.isFin],rfl⟩
 |st hs _ _ _ _=>
   rw[GS.d];right;refine⟨?_,rfl⟩;rcases hs with rfl|rfl<;>simp[GS.isFin]
def GS.words:GS->D
 |.fin=>.tup []
 |.st _ ws=>.lst (ws.map wdD)
noncomputable def GS.ws:GS->List (Str×Sh×Int)
 |.fin=>[]
 |.st _ ws=>ws
def KM(f:Fn):Prop:=∀(n:Int) (x:GS),GSOk n x->Pure1 f [x.d] x.words
theorem UN{ce:Fn}(he:IE ce):KM (fnOf 1 1 (Ho ce)):=by
 intro n x hx S;refine Ap rfl ?_;unfold Ho
 cases x with
 |fin=>
   right;refine(he n .fin hx).use ?_;right;exact⟨rfl,rfl⟩
 |st side ws=>
   right;refine(he n (.st side ws) hx).use ?_;rw[GS.d];right;exact⟨rfl,rfl⟩
noncomputable def Nq:Option Nat->D
 |some i=>.int i
 |none=>.non
def Jn(f:Fn):Prop:=∀(n:Int) (x:GS) (nm:Str),GSOk n x->Pure1 f [x.d,.str nm] (Nq (x.ws.findIdx? λw=>w.1==nm))
variable{α:Type}
theorem H9{p:α->Bool}{l:List α}(h:∀i (hi:i<l.length),i<j->p l[i]=false){x:α}(hx:l[j]?=some x)(hp:p x=true):l.findIdx? p=some j:=by
 clear 5(ua7.mp hx)hj e;rw[List.findIdx?_eq_some_iff_getElem];exact⟨hj,by rw[e];exact hp,λi hi=>by simpa using h i (by lia) hi⟩
theorem Lc(hw:KM cw):Jn (fnOf 2 4 (Fs cw)):=by
 intro n x nm hx S;refine Ap rfl ?_;unfold Fs;right;refine(hw n x hx).use ?_;have key:∀(ws:List (Str×Sh×Int)) (d:D),ws.length<=9->(∀(t:T) (P:D->T->Prop),P (.int ws.length) t->W (AC [d]) t P)->(∀(t:T) (P:D->T->Prop) (i:Nat) (w:Str×Sh×Int),ws[i]?=some w->P (wdD w) t->W (ixD d (.int i)) t P)->
  W (Ae (Bq (BZ (Ab (fB (Ab (Aa 2) Ad) AC) Ad)) (Ao 3)
  (ifS (Aj (Ac (Ac (Ac (Aa 2) (Aa 3) ixD) (fb 0) ixD) (Aa 1) (eqS id)))
  (Al (Aa 3))
  Aq))
 (Al (fC .non))) ⟨[vw x.d,vw (.str nm),vw d,none],S⟩ λo t=>match o with
   |.ret r=>r=Nq (ws.findIdx? λw=>w.1==nm)/\t.S=S
   |.next=>D.non=Nq (ws.findIdx? λw=>w.1==nm)/\t.S=S
   |_=>False:=by
   intro ws d hl len ix;right;refine len _ _ ?_;right;refine FA (Bg (by lia) (by lia)) ?_;refine BX (λr t=>∃(j:Nat) (e3:Option Sl),(∀i (hi:i<ws.length),i<j->(ws[i].1==nm)=false)/\j<=ws.length/\r=(AM 0 ((ws.length:Nat):Int).toNat).drop j/\t=⟨[vw x.d,vw (.str nm),vw d,e3],S⟩) _ _ ⟨0,none,λi hi h=>absurd h (by lia),by lia,rfl,rfl⟩ ?_ ?_
   .rintro d' r t ⟨j,e3,hj,hjl,hr,rfl⟩ _;clear 5(E2 hr)rfl hr' hjn;rw[ug7] at hjn;have e:ws[j]?=some ws[j]:=ub2 hjn;rw[un5];right;refine ix _ _ j _ e ?_;unfold wdD;right;refine DT (λq=>?_) λq=>?_
    .right;refine⟨?_,rfl⟩;rw[H9 hj e q];rfl
    .right;refine⟨j+1,_,λi hi hij=>?_,by lia,hr',rfl⟩;rcases gQ i j with h|h
     .exact hj i hi h
     .have:i=j:=by lia
      subst this;exact q
   .rintro t ⟨j,e3,hj,hjl,hr,rfl⟩;have hj':j=ws.length:=by
     have:=gY List.length hr;rw[uj7,uh4,CH,ug7] at this;lia
    subst hj';right;refine⟨?_,rfl⟩;rw[List.findIdx?_eq_none_iff.mpr]
    .rfl
    .intro w hw';clear 5(List.mem_iff_getElem.mp hw')i hi rfl;exact hj i hi hi
 cases hx with
 |fin=>
   refine Bj ?_;refine key [] (.tup []) (by decide) (λt P h=>Ve h) λt P i w e h=>?_;simp at e
 |@st side ws h1 h2 h3 h4 h5=>
   refine Bj ?_;refine key ws (.lst (ws.map wdD)) h3 (λt P h=>Mo (by rw[ui8];exact h)) λt P i w e h=>?_;obtain⟨hi,_⟩:=ua7.mp e;refine AR ?_ h;unfold atI;rw[BP (by lia) (by rw[ui8];lia)];show(ws.map wdD)[(i:Int).toNat]?=_;rw[ug7,ug1,e];rfl
theorem DL:eqN n (.str x) (.str x)=some true:=by
 cases n<;>(show some (x==x)=some true;rw[ui5])
theorem IM{x:Int}:eqN n (.int x) (.int x)=some true:=by
 cases n<;>(show some (x==x)=some true;rw[ui5])
theorem Dl(h:∀x∈xs,eqN n x x=some true):eqN (n+1) (.tup xs) (.tup xs)=some true:=by
 rw[eqN,Ff h];simp
theorem Vo(h:∀x∈xs,eqN n x x=some true):eqN (n+1) (.lst xs) (.lst xs)=some true:=by
 rw[eqN,hX rfl,Ff h]
theorem HV:∀(n:Nat) (s:Sh),s.depth<=n->∀m,2*n<=m->eqN m s.d s.d=some true
 |0,s,h,_,_=>absurd s.depth_pos (by lia)
 |n+1,s,h,m,hm=>by
   obtain⟨m,rfl⟩:∃k,m=k+2:=gf (by lia)
   cases s with
   |nothing=>rw[Sh.d];exact Dl (by simp[DL])
   |number lo hi=>rw[Sh.d];exact Dl (by simp[DL,IM])
   |text q=>rw[Sh.d];exact Dl (by simp[DL,IM])
   |list s q=>
     rw[Sh.depth] at h;have:=HV n s (by lia) (m+1) (by lia);rw[Sh.d];exact Dl (by simp[DL,IM,this])
   |pair s r=>
     rw[Sh.depth] at h;have h1:=HV n s (by lia) (m+1) (by lia);have h2:=HV n r (by lia) (m+1) (by lia);rw[Sh.d];exact Dl (by simp[DL,h1,h2])
   |choice ss=>
     rw[Sh.depth] at h;have h1:eqN (m+1) (.tup (shD ss)) (.tup (shD ss))=some true:=Dl λx hx=>by
      clear 5(NI hx)s hs rfl;exact HV n s (um5 (LP hs) (by lia)) m (by lia)
     rw[Sh.d];exact Dl (by simp[DL,h1])
theorem XW{n:Int}{x:GS}(h:GSOk n x){m:Nat}(hm:9<=m):eqN m x.d x.d=some true:=by
 obtain⟨m,rfl⟩:∃k,m=k+3:=gf (by lia)
 cases h with
 |fin=>rw[GS.d];exact Dl (by simp[DL])
 |@st side ws h1 h2 h3 h4 h5=>
   have hw:eqN (m+2) (.lst (ws.map wdD)) (.lst (ws.map wdD))=some true:=Vo λx hx=>by
    clear 5(un2.mp hx)w hw rfl;unfold wdD;exact Dl (by simp[DL,IM,HV 3 w.2.1 (h5 w hw).dep m (by lia)])
   rw[GS.d];exact Dl (by simp[DL,hw])
noncomputable def GS.side:GS->Str
 |.fin=>Str.ofString "end"
 |.st s _=>s
noncomputable def AA(g:List GS)(q:Nat):GS:=g.getD q .fin
def wdAt(g:List GS)(q p:Nat):Str×Sh×Int:=(AA g q).ws.getD p (Str.ofString "",.nothing,0)
def AZ(g:List GS)(q p:Nat):Nat:=(wdAt g q p).2.2.toNat
def Dn(g:List GS)(q p:Nat)(v:D):D:=.tup [.str (AA g q).side,.str (wdAt g q p).1,v]
abbrev Mv:=Nat×D
def AB(g:List GS):Nat->List Mv->Nat
 |q,[]=>q
 |q,(p,_)::r=>AB g (AZ g q p) r
def AJ(g:List GS):Nat->List Mv->List D
 |_,[]=>[]
 |q,(p,v)::r=>Dn g q p v::AJ g (AZ g q p) r
def Bk(g:List GS):Nat->List Mv->List D
 |_,[]=>[]
 |q,(p,_)::r=>.tup [.int q,.int p]::Bk g (AZ g q p) r
structure MvOk(g:List GS)(q:Nat)(p:Nat)(v:D):Prop where
 lt:q<g.length
 pl:p<(AA g q).ws.length
 fit:Ag (wdAt g q p).2.1 v=true
def okQ(g:List GS):Nat->List Mv->Prop
 |_,[]=>True
 |q,(p,v)::r=>MvOk g q p v/\okQ g (AZ g q p) r
theorem Ig(g:List GS):∀(q:Nat) (a b:List Mv),AB g q (a++b)=AB g (AB g q a) b
 |q,[],b=>rfl
 |q,(p,v)::r,b=>by rw[ui2,AB,AB,Ig g _ r b]
theorem Fj(g:List GS):∀(q:Nat) (a b:List Mv),AJ g q (a++b)=AJ g q a++AJ g (AB g q a) b
 |q,[],b=>rfl
 |q,(p,v)::r,b=>by rw[ui2,AJ,AJ,AB,Fj g _ r b];rfl
theorem Hz(g:List GS):∀(q:Nat) (a b:List Mv),Bk g q (a++b)=Bk g q a++Bk g (AB g q a) b
 |q,[],b=>rfl
 |q,(p,v)::r,b=>by rw[ui2,Bk,Bk,AB,Hz g _ r b];rfl
theorem EY(g:List GS):∀(q:Nat) (a b:List Mv),okQ g q (a++b)↔okQ g q a/\okQ g (AB g q a) b
 |q,[],b=>by simp[okQ,AB]
 |q,(p,v)::r,b=>by rw[ui2,okQ,okQ,AB,EY g _ r b,and_assoc]
theorem CV(g:List GS):∀(q:Nat) (a:List Mv),(AJ g q a).length=a.length
 |q,[]=>rfl
 |q,(p,v)::r=>by rw[AJ,uh1,CV g _ r,uh1]
theorem EI(g:List GS):∀(q:Nat) (a:List Mv),(Bk g q a).length=a.length
 |q,[]=>rfl
 |q,(p,v)::r=>by rw[Bk,uh1,EI g _ r,uh1]
theorem Ik(g:List GS):∀(q:Nat) (a:List Mv) (i:Nat) (p:Nat) (v:D),a[i]?=some (p,v)->(AJ g q a)[i]?=some (Dn g (AB g q (a.take i)) p v)
 |q,[],i,p,v,h=>by simp at h
 |q,(p',v')::r,0,p,v,h=>by
   simp at h;clear 5 h rfl rfl;rfl
 |q,(p',v')::r,i+1,p,v,h=>by
   rw[AJ,ub5,Ik g _ r i p v (by simpa using h),ue8,AB]
variable{g:List GS}{q:Nat}
theorem T9{a:List Mv}(h:okQ g q a)(i:Nat):okQ g q (a.take i):=by
 rw[<-ud1 i a,EY] at h;exact h.1
theorem OM{a:List Mv}(h:okQ g q a){i p:Nat}{v:D}(e:a[i]?=some (p,v)):MvOk g (AB g q (a.take i)) p v:=by
 clear 5(ua7.mp e)hi e';have hd:a.drop i=(p,v)::a.drop (i+1):=by rw[ua9 hi,e']
 rw[<-ud1 i a,EY,hd,okQ] at h;exact h.2.1
theorem EQ(h:GOk g){q:Nat}(hq:q<g.length):GSOk g.length (AA g q):=by
 unfold AA;rw[ua6,ub2 hq];exact h.all _ (ui1 hq)
theorem Ed(hq:q<g.length):atI (g.map GS.d) q=some (AA g q).d:=by
 unfold atI;rw[BP (by lia) (by rw[ui8];lia)];show(g.map GS.d)[(q:Int).toNat]?=_;unfold AA;rw[ug7,ug1,ua6,ub2 hq];rfl
variable{p:Nat}
theorem Fa(hp:p<(AA g q).ws.length):∃side ws,AA g q=.st side ws/\p<ws.length/\ws[p]?=some (wdAt g q p):=by
 unfold wdAt
 cases e:AA g q with
 |fin=>rw[e] at hp;simp[GS.ws] at hp
 |st side ws=>
   rw[e] at hp;have hp:p<ws.length:=hp;refine⟨side,ws,rfl,hp,?_⟩;show ws[p]?=some (ws.getD p _);rw[ua6,ub2 hp];rfl
theorem IB{ws:List (Str×Sh×Int)}{w:Str×Sh×Int}(e:ws[p]?=some w):atI (ws.map wdD) p=some (wdD w):=by
 obtain⟨hp,_⟩:=ua7.mp e;unfold atI;rw[BP (by lia) (by rw[ui8];lia)];show(ws.map wdD)[(p:Int).toNat]?=_;rw[ug7,ug1,e];rfl
theorem Ec(h:GOk g){q p:Nat}(hq:q<g.length)(hp:p<(AA g q).ws.length):WOk g.length (wdAt g q p):=by
 clear 5(Fa hp)side ws e hp' e2;have:=EQ h hq;rw[e] at this
 cases this with
 |st _ _ _ _ h5=>exact h5 _ (ud8 e2)
theorem We(h:GOk g){q p:Nat}(hq:q<g.length)(hp:p<(AA g q).ws.length):AZ g q p<g.length:=by
 have:=Ec h hq hp;unfold AZ;have h1:=this.lo;have h2:=this.hi;lia
theorem OF{g:List GS}(h:GOk g):∀{a:List Mv}{q:Nat},q<g.length->okQ g q a->AB g q a<g.length
 |[],q,hq,_=>hq
 |(p,v)::r,q,hq,hk=>by
   rw[okQ] at hk;rw[AB];exact OF h (We h hq hk.1.pl) hk.2
theorem PU{ws:List (Str×Sh×Int)}(nd:(ws.map (·.1)).Nodup){p:Nat}{w:Str×Sh×Int}(e:ws[p]?=some w):(ws.findIdx? λx=>x.1==w.1)=some p:=by
 clear 5(ua7.mp e)hp ep;refine H9 (λi hi hip=>?_) e (by simp);rw[<-ep];have hne:¬ws[i].1=ws[p].1:=λz=>by
  have h1:i<(ws.map (·.1)).length:=by rw[ui8];exact hi
  have h2:p<(ws.map (·.1)).length:=by rw[ui8];exact hp
  have:(ws.map (·.1))[i]=(ws.map (·.1))[p]:=by rw[List.getElem_map,List.getElem_map];exact z
  have:=(uh0 nd).mp this;lia
 simpa using hne
theorem ON:∀{xs:List D},(∀d∈xs,okD d=true)->oks xs=true
 |[],_=>by rw[oks]
 |d::r,h=>by rw[oks,h d uf0,ON λx m=>h x (ud5 _ m)];rfl
theorem FW:∀(n:Nat) (s:Sh),s.depth<=n->wf s=true->∀v,Ag s v=true->okD v=true
 |0,s,h,_,_,_=>absurd s.depth_pos (by lia)
 |n+1,s,hd,hw,v,h=>by
   cases s with
   |nothing=>cases v<;>first|rfl|(simp[Ag,FE] at h;done)
   |number lo hi=>cases v<;>first|rfl|(simp[Ag] at h;done)
   |text q=>
     simp only[wf,uh5,ug8] at hw
     cases v<;>simp only[Ag,uf4] at h
     simp only[uh5,ug8] at h;rw[okD,ug8];lia
   |list s q=>
     rw[Sh.depth] at hd;simp only[wf,uh5,ug8] at hw
     cases v<;>simp only[Ag,uf4] at h
     simp only[uh5,ug8,uh9] at h;rw[okD];exact ON λd m=>FW n s (by lia) hw.2 d (h.2 d m)
   |pair a b=>
     rw[Sh.depth] at hd;simp only[wf,uh5] at hw;unfold Ag at h
     split at h
     .rw[uh5] at h;rw[okD,oks,oks,oks,FW n a (by lia) hw.1 _ h.1,FW n b (by lia) hw.2 _ h.2];rfl
     .cases h
   |choice ss=>
     rw[Sh.depth] at hd;simp only[wf,uh5,ug8] at hw;unfold Ag at h
     split at h
     .next o k x=>
      simp only[uh5,ug8] at h;have hk:k.toNat<ss.length:=by lia
      have e1:ss[k.toNat]?=some ss[k.toNat]:=ub2 hk;have h2:=h.2;rw[B0 ss _ _ _ e1] at h2;have ho:o=("of":Str):=eq_of_beq h.1.1;have hx:=FW n _ (um5 (B1 ss _ _ e1) (by lia)) (DS hw.2 _ (ui1 hk)) x h2;subst ho;have hl:okD (.str ("of":Str))=true:=by decide +kernel
      rw[okD,oks,oks,oks,oks,hl,hx];rfl
     .cases h
def GZ(f:Fn):Prop:=∀(g:List GS) (q p:Nat) (v:D),GOk g->MvOk g q p v->Pure1 f [(AA g q).d,Dn g q p v] (.int p)
theorem L6{cf:Fn}(hf:GC cf 3)(hp:Jn cp):GZ (fnOf 2 3 (F3 cf cp)):=by
 intro g q p v hg hm S;refine Ap rfl ?_;unfold F3;clear 5(Fa hm.pl)side ws e hpl ew;have hgs:=EQ hg hm.lt;have hw:=Ec hg hm.lt hm.pl;have hfit:=hm.fit;unfold Dn;rw[e] at hgs⊢;generalize wdAt g q p=w at ew hw hfit⊢;have hov:okD v=true:=FW 3 w.2.1 hw.dep hw.ok v hfit;show W _ ⟨[vw (.tup [.str side,.lst (ws.map wdD)]),vw (.tup [.str side,.str w.1,v]),none],S⟩ _;right;refine Cc (by simp) ?_;right;have hpn:=hp g.length (.st side ws) w.1 hgs;have hidx:((GS.st side ws).ws.findIdx? λx=>x.1==w.1)=some p:=by
  cases hgs with
  |st _ _ _ h4 _=>exact PU h4 ew
 rw[hidx] at hpn;refine hpn.use ?_;show Hx _ _ .next ⟨[vw (.tup [.str side,.lst (ws.map wdD)]),vw (.tup [.str side,.str w.1,v]),vw (.int p)],S⟩;right;refine AR (IB ew) ?_;unfold wdD;right;refine(hf w.2.1 hw.dep v hov).use ?_;rw[hfit];right;exact⟨rfl,rfl⟩
def FP(f:Fn):Prop:=∀(g:List GS) (q p:Nat),GOk g->q<g.length->p<(AA g q).ws.length->Pure1 f [.lst (g.map GS.d),.tup [.int q,.int p]] (.int (AZ g q p))
theorem Wg:FP (fnOf 2 2 F5):=by
 intro g q p hg hq hp S;refine Ap rfl ?_;unfold F5;clear 5(Fa hp)side ws e hpl ew;have hw:=Ec hg hq hp;have hlo:=hw.lo;right;refine AR (Ed hq) ?_;rw[e,GS.d];right;refine AR (IB ew) ?_;unfold wdD;right;refine⟨?_,rfl⟩;unfold AZ
 congr 1
 lia
variable{a0 a1:Option Sl}{y:D}
theorem t7{e4 e5 e6:Option Sl}{x:D}{X Y:List D}(h:x=y)(h2:X=Y):(⟨[a0,a1,vw x,some (.own X),e4,e5,e6],S⟩:T)=⟨[a0,a1,vw y,some (.own Y),e4,e5,e6],S⟩:=by subst h h2;rfl
abbrev kR:Key:=.inr (Str.ofString "rest")
abbrev kM:Key:=.inr (Str.ofString "mixed")
abbrev kC:Key:=.inr (Str.ofString "count")
abbrev ax(a b c:D):List (Key×D):=[(kR,a),(kM,b),(kC,c)]
def Room(k r:Nat)(S:List Ob):Prop:=∃(a c:Int) (b:Bool),S[k]?=some (.dct (ax (.int a) (.bl b) (.int c)))/\0<=c/\c+r<=1000000000000000000000000000000
theorem A8{k:Nat}{o':Ob}(h:S[k]?=some o):(S.set k o')[k]?=some o':=IR h
theorem DK{x:Ob}:(S++[x])[S.length]?=some x:=by simp
noncomputable def cs:Nat->Nat
 |0=>10
 |d+1=>10+3*cs d
structure Drawn(k r:Nat)(dp:Nat)(v:D)(S':List Ob):Prop where
 ex:∃s:Sh,v=s.d/\s.depth<=dp/\wf s=true
 pool:Room k r S'
noncomputable def vB:Nat->Nat
 |0=>10
 |m+1=>10+vB m*3
structure Val(k r:Nat)(s:Sh)(c:Nat)(v:D)(S':List Ob):Prop where
 fit:Ag s v=true
 len:(As s v).length<=c
 pool:Room k r S'
def hd1(x:Str):Option Nat:=x.cps.toList.head?
def okB(g:List GS):Nat->List Mv->Prop
 |_,[]=>True
 |q,(p,v)::r=>(As (wdAt g q p).2.1 v).length<=400/\okB g (AZ g q p) r
structure TOk(g:List GS)(mv:List Mv):Prop where
 ok:okQ g 0 mv
 bd:okB g 0 mv
 len:mv.length<=60
theorem Je{k:Nat}{h:List D->List D->Option (List D)}{g:M (List D)}(w:W f t λo t1=>o=.obj k/\∃xs0,t1.S[k]?=some (.lst xs0)/\W g t1 λds t2=>∃xs ys,t2.S[k]?=some (.lst xs)/\h xs ds=some ys/\P .non ⟨t2.env,t2.S.set k (.lst ys)⟩):W (objM h f g) t P:=by
 unfold objM;refine W_bnd.mpr (w.mono λo t1 z9=>?_);clear 5 z9 e xs0 e1 w;subst e;clear 5 w ds t2 e2 xs ys e3 e4 p;refine⟨_,_,?_,p⟩;simp only[e1,bnd,e2,e3,e4];rfl
def AE(g:List GS)(sd:Str):Nat->List Mv->List D
 |_,[]=>[]
 |q,(p,v)::r=>(if (AA g q).side=sd then .int p::As (wdAt g q p).2.1 v else [])++AE g sd (AZ g q p) r
theorem Fm(g:List GS)(sd:Str):∀(q:Nat) (a b:List Mv),AE g sd q (a++b)=AE g sd q a++AE g sd (AB g q a) b
 |q,[],b=>rfl
 |q,(p,v)::r,b=>by rw[ui2,AE,AE,AB,Fm g sd _ r b,ug3]
theorem Ks(g:List GS):∀(q:Nat) (a:List Mv) (i:Nat) (p:Nat) (v:D),a[i]?=some (p,v)->(Bk g q a)[i]?=some (.tup [.int (AB g q (a.take i)),.int p])
 |q,[],i,p,v,h=>by simp at h
 |q,(p',v')::r,0,p,v,h=>by
   simp at h;clear 5 h rfl rfl;rfl
 |q,(p',v')::r,i+1,p,v,h=>by
   rw[Bk,ub5,Ks g _ r i p v (by simpa using h),ue8,AB]
abbrev kL:Key:=.inr (Str.ofString "left")
abbrev kRt:Key:=.inr (Str.ofString "right")
theorem kLR:¬kL=kRt:=by intro h;injection h with h;rw[Iq] at h;exact absurd h (by decide)
theorem kRL:¬kRt=kL:=λh=>kLR h.symm
theorem sLR:¬Str.ofString "left" = Str.ofString "right":=λh=>kLR (gY Sum.inr h)
theorem K6{a b:D}:Ct [(kL,a),(kRt,b)] kL=some a:=by simp[Ct,uj6]
theorem K7{a b:D}:Ct [(kL,a),(kRt,b)] kRt=some b:=by
 unfold Ct;rw[uj6,show decide (kL=kRt)=false from uk3 kLR];simp[uj6]
theorem M5{a b:D}:Eo [(kL,a),(kRt,b)]=[(kL,a),(kRt,b)]:=by
 unfold Eo;simp only[uj4,List.foldl_nil];have e1:Cu [] kL a=[(kL,a)]:=by simp[Cu]
 rw[e1];unfold Cu;rw[ia (by simp only[ul5,List.any_nil,ul4,ug8];exact kLR)];rfl
theorem V2{a b d:D}:Cu [(kL,a),(kRt,b)] kL d=[(kL,d),(kRt,b)]:=by
 unfold Cu;rw[hX (by simp)];simp only[ul3,um8,hU,ia kRL]
theorem V3{a b d:D}:Cu [(kL,a),(kRt,b)] kRt d=[(kL,a),(kRt,d)]:=by
 unfold Cu;rw[hX (by simp)];simp only[ul3,um8,hU,ia kLR]
theorem Pb(hg:GOk g){q p:Nat}{v:D}(h:MvOk g q p v):(AA g q).side=Str.ofString "left"\/(AA g q).side=Str.ofString "right":=by
 clear 5(Fa h.pl)side ws e hpl ew;have:=EQ hg h.lt;rw[e] at this⊢
 cases this with
 |st hs _ _ _ _=>exact hs
abbrev sL:Str:=Str.ofString "left"
abbrev sR:Str:=Str.ofString "right"
structure Wr(K A B:Nat)(S:List Ob)(xs ys:List D):Prop where
 k:S[K]?=some (.dct [(kL,.obj A),(kRt,.obj B)])
 a:S[A]?=some (.lst xs)
 b:S[B]?=some (.lst ys)
 ab:A≠B
 ka:K≠A
 kb:K≠B
theorem Kq{x:Ob}(h:i≠j)(e:S[j]?=some o):(S.set i x)[j]?=some o:=by rw[ud7 h];exact e
variable{K B:Nat}
theorem Wr.setA{A:Nat}{zs:List D}(h:Wr K A B S xs ys):Wr K A B (S.set A (.lst zs)) zs ys:=⟨Kq (Ne.symm h.ka) h.k,IR h.a,Kq h.ab h.b,h.ab,h.ka,h.kb⟩
theorem Wr.setB{A:Nat}{zs:List D}(h:Wr K A B S xs ys):Wr K A B (S.set B (.lst zs)) xs zs:=⟨Kq (Ne.symm h.kb) h.k,Kq (Ne.symm h.ab) h.a,IR h.b,h.ab,h.ka,h.kb⟩
def FrO(F:List (Nat×Ob))(k:Nat)(S:List Ob):Prop:=∀p∈F,p.1≠k/\S[p.1]?=some p.2
def d9(F:List (Nat×Ob))(S:List Ob):Prop:=∀p∈F,S[p.1]?=some p.2
def ZY(F:List (Nat×Ob))(k r:Nat)(S:List Ob):Prop:=Room k r S/\FrO F k S
structure ValF(F:List (Nat×Ob))(k r:Nat)(s:Sh)(c:Nat)(v:D)(S':List Ob):Prop where
 fit:Ag s v=true
 len:(As s v).length<=c
 pool:ZY F k r S'
noncomputable def GS.sd:GS->Str
 |.fin=>Str.ofString "end"
 |.st s _=>s
inductive Odd(x:GS):D->Prop
 |non:Odd x .non
 |lst {ds:List D}:Odd x (.lst ds)
 |two {a b:D}:Odd x (.tup [a,b])
 |four {a b c d:D}:Odd x (.tup [a,b,c,d])
 |sideN {b c:D}:Odd x (.tup [.non,b,c])
 |side {s:Str}{b c:D}:¬s=x.sd->Odd x (.tup [.str s,b,c])
 |nmN {s:Str}{c:D}:Odd x (.tup [.str s,.non,c])
 |nmI {s:Str}{i:Int}{c:D}:Odd x (.tup [.str s,.int i,c])
 |nm {s nm:Str}{c:D}:(x.ws.findIdx? λw=>w.1==nm)=none->Odd x (.tup [.str s,.str nm,c])
 |val {s nm:Str}{c:D}{p:Nat}{w:Str×Sh×Int}:(x.ws.findIdx? λw=>w.1==nm)=some p->x.ws[p]?=some w->okD c=true->Ag w.2.1 c=false->Odd x (.tup [.str s,.str nm,c])
def Rq(n:Nat)(d:D):Prop:=∀m,n<=m->eqN m d d=some true
theorem Rq.mono{m:Nat}{d:D}(h:Rq n d)(e:n<=m):Rq m d:=λk hk=>h k (um5 e hk)
theorem Iw{i:Int}:Rq n (.int i):=λm _=>by cases m<;>(show some (i==i)=some true;rw[ui5])
theorem Km{i:Str}:Rq n (.str i):=λm _=>by cases m<;>(show some (i==i)=some true;rw[ui5])
theorem Sq:Rq n .non:=λm _=>by cases m<;>rfl
theorem Kn(h:∀x∈xs,Rq n x):Rq (n+1) (.tup xs):=λm hm=>by
 obtain⟨k,rfl⟩:∃k,m=k+1:=gf (by lia);have e:Dx (eqN k) xs xs=some true:=Ff λx hx=>h x hx k (by lia);rw[eqN,e];simp
theorem GU(h:∀x∈xs,Rq n x):Rq (n+1) (.lst xs):=λm hm=>by
 obtain⟨k,rfl⟩:∃k,m=k+1:=gf (by lia);rw[eqN,hX rfl];exact Ff λx hx=>h x hx k (by lia)
def mB:Nat->Nat
 |0=>0
 |m+1=>10+vB m*2+mB m*2
structure Mis(n:Nat)(s:Sh)(v:D):Prop where
 ok:okD v=true
 no:Ag s v=false
 rq:Rq n v
structure Fit(n:Nat)(s:Sh)(v:D):Prop where
 ok:okD v=true
 fit:Ag s v=true
 rq:Rq n v
def Gr(S S':List Ob):Prop:=S.length<=S'.length/\∀i,i<S.length->S'[i]?=S[i]?
theorem Gr.trans{S S1 S2:List Ob}(a:Gr S S1)(b:Gr S1 S2):Gr S S2:=⟨um5 a.1 b.1,λi h=>(b.2 i (ue9 h a.1)).trans (a.2 i h)⟩
theorem Gr.app{ex:List Ob}:Gr S (S++ex):=⟨by rw[uf3];lia,λi h=>ua8 h⟩
theorem Gr.set{S S':List Ob}{k:Nat}{o:Ob}(a:Gr S S')(h:S.length<=k):Gr S (S'.set k o):=⟨by rw[uj3];exact a.1,λi hi=>by rw[ud7 (by lia)];exact a.2 i hi⟩
theorem Gr.get{S S':List Ob}{k:Nat}{o:Ob}(a:Gr S S')(h:S[k]?=some o):S'[k]?=some o:=by rw[a.2 k (ua7.mp h).1];exact h
abbrev lr(a b:D):List (Key×D):=[(kL,a),(kRt,b)]
abbrev dP(a b:Nat):List (Key×D):=lr (.int a) (.int b)
noncomputable def onS{α:Type}(s:Str)(a b:α):α:=if s=sL then a else b
theorem YB{s:Str}{a b:D}(h:s=sL\/s=sR):Ct (lr a b) (.inr s)=some (onS s a b):=by
 unfold onS;rcases h with rfl|rfl
 .rw[hX rfl];exact K6
 .rw[ia (Ne.symm sLR)];exact K7
theorem YC{s:Str}{a b d:D}(h:s=sL\/s=sR):Cu (lr a b) (.inr s) d=lr (onS s d a) (onS s b d):=by
 unfold onS;rcases h with rfl|rfl
 .rw[hX rfl,hX rfl];exact V2
 .rw[ia (Ne.symm sLR),ia (Ne.symm sLR)];exact V3
set_option genInjectivity false in inductive Sr where
 |stop
 |brk (k:Nat) (s:Str)
 |next (m:D) (h a b:Nat)
def Bf(side:Str)(ws:List (Str×Sh×Int))(w:List Nat)(p:Nat):RR×Nat:=match w[p]? with
 |none=>(.short,0)
 |some c=>match ws[c]? with
   |none=>(.broken p,0)
   |some wd=>((pSh 3 wd.2.1).run w (p+1),c)
def Hq(side:Str)(ws:List (Str×Sh×Int))(w:List Nat)(p:Nat):D:=match Bf side ws w p with
 |(.short,_)=>.non
 |(.broken k,_)=>.exc "Broken" [.int k,.str side]
 |(.told v e,c)=>.tup [.tup [.str side,.str (ws.getD c (Str.ofString "",.nothing,0)).1,v],.int (ws.getD c (Str.ofString "",.nothing,0)).2.2,.int e]
def aE(g:List GS)(wl wr:List Nat)(h a b:Nat):Sr:=match AA g h with
 |.fin=>.stop
 |.st side ws=>match Bf side ws (onS side wl wr) (onS side a b) with
   |(.short,_)=>.stop
   |(.broken k,_)=>.brk k side
   |(.told v e,c)=>.next (.tup [.str side,.str (ws.getD c (Str.ofString "",.nothing,0)).1,v]) (ws.getD c (Str.ofString "",.nothing,0)).2.2.toNat (onS side e a) (onS side b e)
abbrev Rs:=List D×Nat×Nat×Nat×Option (Nat×Str)
def Mp(g:List GS)(wl wr:List Nat):Nat->Nat->Nat->Nat->List D->Rs
 |0,h,a,b,t=>(t,h,a,b,none)
 |f+1,h,a,b,t=>match aE g wl wr h a b with
   |.stop=>(t,h,a,b,none)
   |.brk k s=>(t,h,a,b,some (k,s))
   |.next m h' a' b'=>Mp g wl wr f h' a' b' (t++[m])
structure Pl(g:List GS)(wl wr:List Nat)(h a b:Nat):Prop where
 h:h<g.length
 a:a<=wl.length
 b:b<=wr.length
def Wir(S:List Ob)(d:D)(w:List Nat):Prop:=d=.lst (wD w)\/∃k,d=.obj k/\S[k]?=some (.lst (wD w))
def PureS(S:List Ob)(f:Fn)(ds:List D)(r:D):Prop:=Wf f ds S λr' S'=>r'=r/\S'=S
theorem PureS.use{f:Fn}{r:D}(h:PureS S f ds r){P:D->List Ob->Prop}(p:P r S):Wf f ds S P:=h.mono λ_ _ ⟨e1,e2⟩=>by subst e1 e2;exact p
theorem KC{d:D}(h:Wir t.S d w)(p:P (.int (w.length:Nat)) t):W (AC [d]) t P:=by
 rcases h with rfl|⟨k,rfl,e⟩
 .refine Mo ?_;rw[D9];exact p
 .refine Fc e ?_;rw[D9];exact p
theorem JI{d:D}(h:Wir t.S d w)(e:w[a]?=some b)(p:P (.int (b:Int)) t):W (ixD d (.int (a:Int))) t P:=by
 rcases h with rfl|⟨k,rfl,e'⟩
 .exact AR (IJ (SL e)) p
 .exact W_ix_obj.mpr ⟨_,e',_,IJ (SL e),p⟩
def BXw(f:Fn):Prop:=∀(S:List Ob) (wv:D) (w:List Nat) (a:Nat),Wir S wv w->PureS S f [wv,.int (a:Int)] (byX w[a]?)
theorem XR:BXw (fnOf 2 2 F0):=by
 intro S wv w a hv;refine Ap rfl ?_;unfold F0;have hl:=D9 w
 cases h:w[a]? with
 |none=>
   have:=ub0.mp h;symm;refine KC hv ?_;symm;refine ES (ul0 (by lia)) ?_;symm;exact⟨rfl,rfl⟩
 |some b=>
   obtain⟨hj,_⟩:=ua7.mp h;symm;refine KC hv ?_;symm;refine Cc (uk3 (by lia)) ?_;symm;refine JI hv h ?_;exact⟨rfl,rfl,rfl⟩
local macro_rules | `(tactic| walk_at"y1")=>`(tactic| walk_at"x1")
def nbD(r:D):Prop:=∀a,r≠exB a
theorem EF:nbD exS:=λa h=>by injection h with h1;revert h1;decide
theorem Nb{i:Int}:nbD (.int i):=λa h=>by cases h
theorem YK:nbD (.str x):=λa h=>by cases h
theorem Io:nbD (.tup xs):=λa h=>by cases h
def PureB(S:List Ob)(f:Fn)(ds:List D)(r:D):Prop:=nbD r->PureS S f ds r
theorem PureB.use{f:Fn}{ds:List D}{r:D}{S:List Ob}(h:PureB S f ds r)(n:nbD r){P:D->List Ob->Prop}(p:P r S):Wf f ds S P:=PureS.use (h n) p
def UXn(f:Fn):Prop:=∀(S:List Ob) (wv:D) (m:Int) (w:List Nat) (a:Nat),Wir S wv w->PureB S f [.int m,wv,.int (a:Int)] (upX m a w[a]?)
theorem ZE(hc:BXw c):UXn (fnOf 3 4 (EB c)):=by
 intro S wv m w a hv hnb;refine Ap rfl ?_;unfold EB;have hb:=hc S wv w a hv
 cases h:w[a]? with
 |none=>
   rw[h,byX] at hb;symm;refine hb.use ?_;symm;exact⟨rfl,rfl⟩
 |some b=>
   rw[h,byX] at hb;symm;refine hb.use ?_;symm;rw[h,upX] at hnb;rw[upX]
   by_cases q:(b:Int)<=m
   .rw[hX q];refine Cc (uk3 (by lia)) ?_;symm;exact⟨rfl,rfl,rfl⟩
   .rw[ia q] at hnb;exact(hnb _ rfl).elim
def SXn(f:Fn):Prop:=∀(S:List Ob) (wv:D) (w:List Nat) (a:Nat),Wir S wv w->PureB S f [wv,.int (a:Int)] (sgX a w[a]?)
variable{cb:Fn}
theorem Zx{cs:Fn}(hs:JL cs)(hb:BXw cb):SXn (fnOf 2 3 (F4 cs cb)):=by
 intro S wv w a hv hnb;refine Ap rfl ?_;unfold F4;have hb:=hb S wv w a hv
 cases h:w[a]? with
 |none=>
   rw[h,byX] at hb;symm;refine hb.use ?_;symm;exact⟨rfl,rfl⟩
 |some c=>
   rw[h,byX] at hb;symm;rw[h,sgX] at hnb;refine hb.use ?_;symm;refine(hs c).use ?_;rw[sgX]
   by_cases q:BC c=true
   .rw[hX q,q];symm;refine W_ix_str.mpr ⟨by decide +kernel,c,Zt q,?_⟩;exact⟨rfl,rfl,rfl⟩
   .have q':BC c=false:=by simpa using q
    rw[ia q] at hnb;exact(hnb _ rfl).elim
theorem Zl(hl:HF cl)(hb:BXw cb)(hw:JR cw){lo hi:Int}(hwf:wf (.number lo hi)=true)(w:List Nat)(a:Nat){S:List Ob}{wv:D}(hv:Wir S wv w):PureB S (fnOf 3 7 (C8 cl cb cw)) [(Sh.number lo hi).d,wv,.int (a:Int)] (rrD ((Fw lo (hi-lo).toNat (wid (hi-lo).toNat) 0).run w a)):=by
 intro hnb;have hsp:=Pc hwf;have hwd:=KI 9 _ hsp;refine Ap rfl ?_;unfold C8;rw[Sh.d];have em:hi-lo=(((hi-lo).toNat:Nat):Int):=by
  simp only[wf,uh5,ug8] at hwf;lia
 have hww:=λS P p=>(hw (hi-lo).toNat hsp).use (S:=S) (P:=P) p;rw[<-em] at hww;generalize (hi-lo).toNat=M at *;generalize hW:wid M=n at *;symm;refine hww _ _ ?_;rw[em];symm;refine FA (Bg (by lia) (by lia)) ?_;refine BX (λr t=>∃(j x:Nat) (e6:Option Sl),j<=n/\r=(AM 0 ((n:Nat):Int).toNat).drop j/\(Fw lo M n 0).run w a=(Fw lo M (n-j) x).run w (a+j)/\t=⟨[vw (.tup [.str "number",.int lo,.int hi]),vw wv,vw (.int a),vw (.int M),vw (.int n),vw (.int x),e6],S⟩) _ _ ⟨0,0,none,un7 _,rfl,rfl,rfl⟩ ?_ ?_
 .rintro d r t ⟨j,x,e6,hj,hr,hrun,rfl⟩ _;clear 5(Lg hr)rfl hr' hjn;rw[ug7] at hjn;rw[un5];obtain⟨e,he⟩:∃e,n-j=e+1:=⟨n-j-1,by lia⟩;rw[he,Fw] at hrun;have hby:=hb S wv w (a+j) hv;symm;refine QA (OK (by decide) (by decide)) ?_;symm;rw[show((a:Int)+(j:Int))=((a+j:Nat):Int) by lia]
  cases h:w[a+j]? with
  |none=>
    rw[h,byX] at hby;rw[A9 h] at hrun;refine hby.use ?_;symm;exact⟨by rw[hrun];rfl,rfl⟩
  |some b=>
    rw[h,byX] at hby;rw[AN h] at hrun;refine hby.use ?_;symm;refine⟨rfl,?_⟩;symm;rw[show((n:Int)-1-(j:Int))=((e:Nat):Int) by lia,show((x:Int)*256+(b:Int))=((x*256+b:Nat):Int) by lia];refine(hl M e (by lia)).use ?_;symm
    by_cases q:x*256+b<=M/2 ^ (8*e)
    .rw[hX (ul0 q)] at hrun;refine Cc (uk3 (by lia)) ?_;symm;exact⟨j+1,x*256+b,_,hjn,hr',by rw[show n-(j+1)=e by lia,hrun,ul9],rfl⟩
    .rw[ia (by rw[ug8];exact q)] at hrun;rw[hrun] at hnb;exact(hnb _ rfl).elim
 .rintro t ⟨j,x,e6,hj,hr,hrun,rfl⟩;have hj':j=n:=by
   have:=gY List.length hr;rw[uj7,uh4,Kk,ug7] at this;lia
  subst hj';rw[un4,Fw,Rd.run] at hrun;symm;exact⟨rfl,by rw[hrun];rfl,rfl⟩
variable{cu:Fn}
theorem WU{ca:Fn}(ha:SXn ca)(hu:UXn cu){q:Int}(hwf:wf (.text q)=true)(n:Nat)(w:List Nat)(a:Nat){S:List Ob}{wv:D}(hv:Wir S wv w):PureB S (fnOf 3 7 (DP ca cu)) [(Sh.text q).d,wv,.int (a:Int)] (rrD ((pSh (n+1) (.text q)).run w a)):=by
 intro hnb;have hL:LIM=100000:=rfl;refine Ap rfl ?_;unfold DP;rw[Sh.d,pSh];rw[pSh] at hnb;simp only[wf,uh5,ug8] at hwf;have hup:=hu S wv q w a hv;symm
 cases h:w[a]? with
 |none=>
   rw[h,upX] at hup;rw[A9 h];refine hup.use EF ?_;symm;exact⟨rfl,rfl⟩
 |some b=>
   rw[h,upX] at hup;rw[AN h] at hnb⊢
   by_cases hb:(b:Int)<=q
   .rw[hX hb] at hup;rw[hX (ul0 hb)] at hnb⊢;refine hup.use Nb ?_;symm;refine FA (Bg (by lia) (by lia)) ?_;refine BX (λr t=>∃(j:Nat) (y:Str) (e6:Option Sl),j<=b/\r=(AM 0 ((b:Nat):Int).toNat).drop j/\y.cps.toList.length=j/\(F7 b []).run w (a+1)=(F7 (b-j) y.cps.toList).run w (a+1+j)/\t=⟨[vw (.tup [.str "text",.int q]),vw wv,vw (.int a),vw (.int b),vw (.int ((a:Int)+1)),vw (.str y),e6],S⟩) _ _ ⟨0,Str.ofString "",none,un7 _,rfl,by decide +kernel,by rw[Nat.sub_zero,Nat.add_zero,show(Str.ofString "").cps.toList=[] by decide +kernel],rfl⟩ ?_ ?_
    .rintro d r t ⟨j,y,e6,hj,hr,hyl,hrun,rfl⟩ _;clear 5(Lg hr)rfl hr' hjn;rw[ug7] at hjn;rw[un5];obtain⟨e,he⟩:∃e,b-j=e+1:=⟨b-j-1,by lia⟩;rw[he,F7] at hrun;have hsg:=ha S wv w (a+1+j) hv;symm;rw[show((a:Int)+1+(j:Int))=((a+1+j:Nat):Int) by lia]
     cases h2:w[a+1+j]? with
     |none=>
       rw[h2,sgX] at hsg;rw[A9 h2] at hrun;refine hsg.use EF ?_;symm;exact⟨by rw[hrun];rfl,rfl⟩
     |some c=>
       rw[h2,sgX] at hsg;rw[AN h2] at hrun
       by_cases hc:BC c=true
       .rw[hX hc] at hsg hrun;refine hsg.use YK ?_;symm;refine Bb (by rw[Fi y,hyl,hL];show j+1<=_;lia) ?_;refine⟨rfl,?_⟩;symm;refine⟨j+1,_,_,hjn,hr',?_,?_,rfl⟩
        .rw[Lv,uf3,hyl];rfl
        .rw[hrun,Lv,show b-(j+1)=e by lia,ul9 (a+1)]
       .rw[ia hc] at hsg hrun;rw[hrun] at hnb;exact(hnb _ rfl).elim
    .rintro t ⟨j,y,e6,hj,hr,hyl,hrun,rfl⟩;have hj':j=b:=by
      have:=gY List.length hr;rw[uj7,uh4,Kk,ug7] at this;lia
     subst hj';rw[un4,F7,Rd.run] at hrun;have ey:(⟨y.cps.toList.toArray⟩:Str)=y:=Xh (by simp);rw[ey] at hrun;symm;refine⟨rfl,?_,rfl⟩;rw[hrun,rrD,show((a:Int)+1+(j:Int))=((a+1+j:Nat):Int) by lia]
   .rw[ia (by rw[ug8];exact hb)] at hnb;exact(hnb _ rfl).elim
def RXn(c:Fn)(s:Sh)(p:Rd):Prop:=∀(S:List Ob) (wv:D) (w:List Nat) (a:Nat),Wir S wv w->a<=w.length->PureB S c [s.d,wv,.int (a:Int)] (rrD (p.run w a))
theorem WP{s:Sh}{p:Rd}{q:Int}(hu:UXn cu)(hq2:q<=250)(hc:RXn c s p)(w:List Nat)(a:Nat){S:List Ob}{wv:D}(hv:Wir S wv w):PureB S (fnOf 3 8 (DN c cu)) [(Sh.list s q).d,wv,.int (a:Int)] (rrD ((Rd.need (λb=>decide ((b:Int)<=q)) λb=>Fv p b []).run w a)):=by
 intro hnb;have hL:LIM=100000:=rfl;refine Ap rfl ?_;unfold DN;rw[Sh.d];have hup:=hu S wv q w a hv;symm
 cases h:w[a]? with
 |none=>
   rw[h,upX] at hup;rw[A9 h];refine hup.use EF ?_;symm;exact⟨rfl,rfl⟩
 |some b=>
   have hal:=(ua7.mp h).1;rw[h,upX] at hup;rw[AN h] at hnb⊢
   by_cases hb:(b:Int)<=q
   .rw[hX hb] at hup;rw[hX (ul0 hb)] at hnb⊢;refine hup.use Nb ?_;symm;refine FA (Bg (by lia) (by lia)) ?_;refine BX (λr t=>∃(j a':Nat) (ds:List D) (e6 e7:Option Sl),j<=b/\r=(AM 0 ((b:Nat):Int).toNat).drop j/\ds.length=j/\a'<=w.length/\(Fv p b []).run w (a+1)=(Fv p (b-j) ds).run w a'/\t=⟨[vw (.tup [.str "list",s.d,.int q]),vw wv,vw (.int a),vw (.int b),vw (.int (a':Int)),some (.own ds),e6,e7],S⟩) _ _ ⟨0,a+1,[],none,none,un7 _,rfl,rfl,hal,rfl,rfl⟩ ?_ ?_
    .rintro d r t ⟨j,a',ds,e6,e7,hj,hr,hdl,ha',hrun,rfl⟩ _;clear 5(Lg hr)rfl hr' hjn;rw[ug7] at hjn;obtain⟨e,he⟩:∃e,b-j=e+1:=⟨b-j-1,by lia⟩;rw[he,Fv,B5] at hrun;have hcc:=hc S wv w a' hv ha'
     cases h2:p.run w a' with
     |short=>
       rw[h2] at hrun hcc;symm;refine hcc.use EF ?_;rw[rrD];symm;exact⟨by rw[hrun];rfl,rfl⟩
     |broken k=>
       rw[h2] at hrun hcc;rw[hrun] at hnb;exact(hnb _ rfl).elim
     |told v a2=>
       have hle:=DR p a' ha' h2;rw[h2] at hrun hcc;symm;refine hcc.use Io ?_;rw[rrD];symm;refine Bb (by rw[hdl,hL];lia) ?_;symm;exact⟨j+1,a2,ds++[v],_,_,hjn,hr',by rw[uf3,hdl];rfl,hle.2,by rw[hrun,show b-(j+1)=e by lia];rfl,rfl⟩
    .rintro t ⟨j,a',ds,e6,e7,hj,hr,hdl,ha',hrun,rfl⟩;have hj':j=b:=by
      have:=gY List.length hr;rw[uj7,uh4,Kk,ug7] at this;lia
     subst hj';rw[un4,Fv,Rd.run] at hrun;symm;exact⟨rfl,by rw[hrun];rfl,rfl⟩
   .rw[ia (by rw[ug8];exact hb)] at hnb;exact(hnb _ rfl).elim
theorem WQ{s r:Sh}{p p':Rd}(hs:RXn c s p)(hr:RXn c r p')(w:List Nat)(a:Nat){S:List Ob}{wv:D}(hv:Wir S wv w)(ha:a<=w.length):PureB S (fnOf 3 5 (DO c)) [(Sh.pair s r).d,wv,.int (a:Int)] (rrD ((p.bnd λv=>p'.bnd λu=>.done (.tup [v,u])).run w a)):=by
 intro hnb;refine Ap rfl ?_;unfold DO;rw[Sh.d,B5];rw[B5] at hnb;have h1:=hs S wv w a hv ha
 cases e1:p.run w a with
 |short=>
   rw[e1] at h1;symm;refine h1.use EF ?_;rw[rrD];symm;exact⟨rfl,rfl⟩
 |broken k=>
   rw[e1] at hnb;exact(hnb _ rfl).elim
 |told v a'=>
   have hle:=DR p a ha e1;rw[e1] at h1 hnb;have h2:=hr S wv w a' hv hle.2;rw[RR.thn,B5] at hnb⊢;symm;refine h1.use Io ?_;rw[rrD];symm
   cases e2:p'.run w a' with
   |short=>rw[e2] at h2;refine h2.use EF ?_;rw[rrD];symm;exact⟨rfl,rfl⟩
   |broken k=>rw[e2] at hnb;exact(hnb _ rfl).elim
   |told u a2=>rw[e2] at h2;refine h2.use Io ?_;rw[rrD];symm;exact⟨rfl,rfl,rfl⟩
theorem Sj{ss:List Sh}{p:Nat->Rd}(hu:UXn cu)(hc:∀(k:Nat) (h:k<ss.length),RXn c ss[k] (p k))(w:List Nat)(a:Nat){S:List Ob}{wv:D}(hv:Wir S wv w):PureB S (fnOf 3 5 (C7 c cu)) [(Sh.choice ss).d,wv,.int (a:Int)] (rrD ((Rd.need (λb=>decide (b<ss.length)) λb=>(p b).bnd λv=>.done (.tup [.str "of",.int b,v])).run w a)):=by
 intro hnb;refine Ap rfl ?_;unfold C7;rw[Sh.d];have hup:=hu S wv ((ss.length:Int)-1) w a hv;symm;rw[DQ]
 cases h:w[a]? with
 |none=>
   rw[h,upX] at hup;rw[A9 h];refine hup.use EF ?_;symm;exact⟨rfl,rfl⟩
 |some b=>
   have hal:=(ua7.mp h).1;rw[h,upX] at hup;rw[AN h] at hnb⊢
   by_cases hb:b<ss.length
   .rw[hX (show(b:Int)<=(ss.length:Int)-1 by lia)] at hup;rw[hX (ul0 hb),B5] at hnb⊢;refine hup.use Nb ?_;have e0:ss[b]?=some ss[b]:=ub2 hb;have hsd:atI (shD ss) (b:Int)=some ss[b].d:=IJ (by rw[GW,e0];rfl);have h2:=hc b hb S wv w (a+1) hv hal;symm;refine E4 hsd ?_;symm;rw[show((a:Int)+1)=((a+1:Nat):Int) by lia]
    cases e2:(p b).run w (a+1) with
    |short=>rw[e2] at h2;refine h2.use EF ?_;rw[rrD];symm;exact⟨rfl,rfl⟩
    |broken k=>rw[e2] at hnb;exact(hnb _ rfl).elim
    |told u a2=>rw[e2] at h2;refine h2.use Io ?_;rw[rrD];symm;exact⟨rfl,rfl,rfl⟩
   .rw[ia (by rw[ug8];exact hb)] at hnb;exact(hnb _ rfl).elim
def HI(f:Fn)(n:Nat):Prop:=∀s:Sh,s.depth<=n->wf s=true->RXn f s (pSh n s)
theorem Sk(hn:∀lo hi,wf (.number lo hi)=true->RXn cn (.number lo hi) (pSh (n+1) (.number lo hi)))(ht:∀q,wf (.text q)=true->RXn ct (.text q) (pSh (n+1) (.text q)))
 (hl:∀s q,q<=250->s.depth<=n->wf s=true->RXn cl (.list s q) (pSh (n+1) (.list s q))) (hp:∀s r,s.depth<=n->r.depth<=n->wf s=true->wf r=true->RXn cp (.pair s r) (pSh (n+1) (.pair s r)))
 (hc:∀ss:List Sh,(∀(k:Nat) (h:k<ss.length),ss[k].depth<=n/\wf ss[k]=true)->RXn cc (.choice ss) (pSh (n+1) (.choice ss))):HI (fnOf 3 4 (Dt cc cp cl ct cn)) (n+1):=by
 intro s hs hwf S wv w a hv ha hnb;refine Ap rfl ?_;unfold Dt
 cases s with
 |nothing=>
   rw[Sh.d,pSh,Rd.run,rrD];symm;exact⟨rfl,rfl,rfl⟩
 |number lo hi=>
   have h:=hn lo hi hwf S wv w a hv ha;rw[Sh.d] at h⊢;symm;exact h.use hnb ⟨rfl,rfl⟩
 |text q=>
   have h:=ht q hwf S wv w a hv ha;rw[Sh.d] at h⊢;symm;exact h.use hnb ⟨rfl,rfl⟩
 |list s q=>
   simp only[wf,uh5,ug8] at hwf;rw[Sh.depth] at hs;have h:=hl s q hwf.1.2 (by lia) hwf.2 S wv w a hv ha;rw[Sh.d] at h⊢;symm;exact h.use hnb ⟨rfl,rfl⟩
 |pair s r=>
   simp only[wf,uh5] at hwf;rw[Sh.depth] at hs;have h:=hp s r (by lia) (by lia) hwf.1 hwf.2 S wv w a hv ha;rw[Sh.d] at h⊢;symm;exact h.use hnb ⟨rfl,rfl⟩
 |choice ss=>
   simp only[wf,uh5,ug8] at hwf;rw[Sh.depth] at hs;have h:=hc ss (λk hk=>⟨um5 (B1 ss _ _ (ub2 hk)) (by lia),DS hwf.2 _ (ui1 hk)⟩) S wv w a hv ha;rw[Sh.d] at h⊢;symm;exact h.use hnb ⟨rfl,rfl⟩
theorem Qq{ca cl':Fn}(e1:cc=fnOf 3 5 (C7 c cu))(e2:cp=fnOf 3 5 (DO c))(e3:cl=fnOf 3 8 (DN c cu))(e4:ct=fnOf 3 7 (DP ca cu))(e5:cn=fnOf 3 7 (C8 cl' cb cw))
 (hu:UXn cu) (ha:SXn ca) (hl':HF cl') (hb:BXw cb) (hw:JR cw) (hc:HI c n):HI (fnOf 3 4 (Dt cc cp cl ct cn)) (n+1):=by
 subst e1 e2 e3 e4 e5;refine Sk (λlo hi h S wv w a hv _=>?_) (λq h S wv w a hv _=>WU ha hu h n w a hv) (λs q h2 hd h S wv w a hv _=>?_) (λs r d1 d2 w1 w2 S wv w a hv ha=>?_) λss h S wv w a hv _=>?_
 .rw[pSh];exact Zl hl' hb hw h w a hv
 .rw[pSh];exact WP hu h2 (hc s hd h) w a hv
 .rw[pSh];exact WQ (hc s d1 w1) (hc r d2 w2) w a hv ha
 .rw[pSh];refine Sj hu (p:=λb=>pSh n (ss.getD b .nothing)) (λk hk=>?_) w a hv;show RXn c ss[k] (pSh n (ss.getD k .nothing));rw[ua6,ub2 hk,ui3];exact hc _ (h k hk).1 (h k hk).2
def isB(l:List D):Prop:=∀d∈l,∃x:Nat,d=.int (x:Int)/\x<256
theorem M0:∀{l:List D},isB l->∃w:List Nat,l=wD w/\∀x∈w,x<256
 |[],_=>⟨[],rfl,λx z=>nomatch z⟩
 |d::r,h=>by
   clear 5(h d uf0)x rfl hx;obtain⟨w,rfl,hw⟩:=M0 λd m=>h d (ud5 _ m);refine⟨x::w,rfl,λy hy=>?_⟩;rcases ul2.mp hy with rfl|hy
   .exact hx
   .exact hw y hy
theorem K5{a b:List D}(ha:isB a)(hb:isB b):isB (a++b):=λd h=>(ui6.mp h).elim (ha d) (hb d)
theorem ER{x:Nat}{b:List D}(hx:x<256)(hb:isB b):isB (.int (x:Int)::b):=λd h=>by
 rcases ul2.mp h with rfl|h
 .exact⟨x,rfl,hx⟩
 .exact hb d h
theorem RV:∀(w n:Nat),isB (nb w n)
 |0,n=>λd h=>nomatch h
 |w+1,n=>K5 (RV w _) (ER (Nat.mod_lt _ (by decide)) λd h=>nomatch h)
theorem FT:∀(n:Nat) (s:Sh),s.depth<=n->wf s=true->∀v,Ag s v=true->isB (As s v)
 |0,s,h,_,_,_=>absurd s.depth_pos (by lia)
 |n+1,s,hs,hw,v,hf=>by
   cases s with
   |nothing=>rw[As];exact λd h=>nomatch h
   |number lo hi=>
     cases v<;>simp[Ag] at hf
     rw[As];exact RV _ _
   |text q=>
     simp only[wf,uh5,ug8] at hw
     cases v<;>simp only[Ag,uf4] at hf
     rename_i x;simp only[uh5,ug8,uh9] at hf;rw[As];refine ER (by lia) λd h=>?_;clear 5(un2.mp h)c hc rfl;have:=hf.2 c hc;simp only[BC,uh5,ug8] at this;exact⟨c,rfl,by lia⟩
   |list s q=>
     simp only[wf,uh5,ug8] at hw;rw[Sh.depth] at hs
     cases v<;>simp only[Ag,uf4] at hf
     rename_i ds;simp only[uh5,ug8,uh9] at hf;rw[As];refine ER (by lia) λd h=>?_;clear 5(List.mem_flatten.mp h)l hl hd;clear 5(un2.mp hl)e he rfl;exact FT n s (by lia) hw.2 e (hf.2 e he) d hd
   |pair s r=>
     simp only[wf,uh5] at hw;rw[Sh.depth] at hs;unfold Ag at hf
     split at hf
     .rw[uh5] at hf;rw[As];exact K5 (FT n s (by lia) hw.1 _ hf.1) (FT n r (by lia) hw.2 _ hf.2)
     .cases hf
   |choice ss=>
     simp only[wf,uh5,ug8] at hw;rw[Sh.depth] at hs;unfold Ag at hf
     split at hf
     .next o k x=>
      simp only[uh5,ug8] at hf;clear 5(ub6 hf.1.2.1)j rfl;have hj:j<ss.length:=by have:=hf.1.2.2;lia
      have e1:ss[j]?=some ss[j]:=ub2 hj;have h2:=hf.2;rw[ug7,B0 ss _ _ _ e1] at h2;rw[As,ug7,El ss _ _ _ e1];exact ER (by lia) (FT n _ (um5 (B1 ss _ _ e1) (by lia)) (DS hw.2 _ (ui1 hj)) x h2)
     .cases hf
theorem FC{l:List α}{ι f:α->D}{fr:List (Option Sl)}{z:Option Sl}(h:∀a∈l,W elt ⟨vw (ι a)::fr,S⟩ λx t'=>x=f a/\t'=⟨vw (ι a)::fr,S⟩) :
 W (Bl (Ao 0) CT elt (l.map ι)) ⟨z::fr,S⟩ λxs t'=>xs=l.map f/\t'.S=S:=by
 induction l generalizing z with
 |nil=>exact W_compL_nil.mpr ⟨rfl,rfl⟩
 |cons a r ih=>
   rw[ul3,CK];refine E5 (N2 ?_);rw[hX rfl];refine(h a uf0).mono λx t' z9=>?_;clear 5 z9 e1 e2;subst e1 e2;refine(ih (z:=vw (ι a)) λb hb=>h b (ud5 _ hb)).mono λxs t' z9=>?_;clear 5 z9 e1 e2;subst e1;exact⟨rfl,e2⟩
def Pp(w:List Nat):Prop:=∀x∈w,x<256
structure Mvs(g:List GS)(wl wr:List Nat)(mv:List Mv)(h a b:Nat)(t:List D):Prop where
 t:t=AJ g 0 mv
 ok:okQ g 0 mv
 h:AB g 0 mv=h
 a:AE g sL 0 mv=wD (wl.take a)
 b:AE g sR 0 mv=wD (wr.take b)
def Agr(c:Nat)(w w2:List Nat):Prop:=∀i,i<c->w2[i]?=w[i]?
variable{w2:List Nat}
theorem Agr.mono{c d:Nat}(h:Agr c w w2)(e:d<=c):Agr d w w2:=λi hi=>h i (ue9 hi e)
theorem TY{c:Nat}(hw:Agr c w w2):∀(p:Rd) (a:Nat),p.run w a=.told v b->b<=c->p.run w2 a=.told v b:=by
 intro p
 induction p with
 |done v'=>intro a h _;exact h
 |need ok nx ih=>
   intro a h hb
   cases e:w[a]? with
   |none=>rw[A9 e] at h;cases h
   |some x=>
     rw[AN e] at h;have hl:=(ua7.mp e).1
     by_cases q:ok x=true
     .rw[hX q] at h;have hlt:a<c:=by have:=(DR _ (a+1) hl h).1;lia
      rw[AN ((hw a hlt).trans e),hX q];exact ih x (a+1) h hb
     .rw[ia q] at h;cases h
theorem P8{c k:Nat}(hw:Agr c w w2):∀(p:Rd) (a:Nat),p.run w a=.broken k->k<c->p.run w2 a=.broken k:=by
 intro p
 induction p with
 |done v'=>intro a h _;cases h
 |need ok nx ih=>
   intro a h hk
   cases e:w[a]? with
   |none=>rw[A9 e] at h;cases h
   |some x=>
     have hak:=(HK _ _ h).1;rw[AN e] at h;rw[AN ((hw a (by lia)).trans e)]
     by_cases q:ok x=true
     .rw[hX q] at h⊢;exact ih x (a+1) h hk
     .rw[ia q] at h⊢;exact h
variable{e:Nat}
theorem RK{side:Str}{ws:List (Str×Sh×Int)}{c x:Nat}(hw:Agr c w w2)(h:Bf side ws w p=(.told v e,x))(he:e<=c):Bf side ws w2 p=(.told v e,x):=by
 unfold Bf at h⊢
 cases hb:w[p]? with
 |none=>rw[hb] at h;cases h
 |some y=>
   rw[hb] at h;dsimp only at h;obtain⟨hpl,_⟩:=ua7.mp hb
   cases hws:ws[y]? with
   |none=>rw[hws] at h;cases h
   |some wd=>
     rw[hws] at h;injection h with h1 h2
     have hlt:p<c:=by have:=(DR _ _ hpl h1).1;lia
     rw[(hw p hlt).trans hb];dsimp only;rw[hws];dsimp only;rw[TY hw _ _ h1 he,h2]
theorem N9{side:Str}{ws:List (Str×Sh×Int)}{c k x:Nat}(hw:Agr c w w2)(h:Bf side ws w p=(.broken k,x))(hk:k<c):Bf side ws w2 p=(.broken k,x):=by
 unfold Bf at h⊢
 cases hb:w[p]? with
 |none=>rw[hb] at h;cases h
 |some y=>
   rw[hb] at h;dsimp only at h
   cases hws:ws[y]? with
   |none=>
     rw[hws] at h;injection h with h1 h2
     injection h1 with h1
     subst h1;rw[(hw p hk).trans hb];dsimp only;rw[hws,h2]
   |some wd=>
     rw[hws] at h;injection h with h1 h2
     have hlt:p<c:=by have:=(HK _ _ h1).1;lia
     rw[(hw p hlt).trans hb];dsimp only;rw[hws];dsimp only;rw[P8 hw _ _ h1 hk,h2]
abbrev Fu(wl wr:List Nat):Nat:=wl.length+wr.length+1
def Rch(g:List GS)(vl vr:List Nat)(tk:List D)(h a b:Nat):Prop:=Pl g vl vr h a b/\∀xl xr:List Nat,Mp g (vl++xl) (vr++xr) (Fu (vl++xl) (vr++xr)) 0 0 0 []=Mp g (vl++xl) (vr++xr) (Fu (vl++xl) (vr++xr)) h a b tk
def Fed(g:List GS)(vl vr:List Nat)(tk:List D)(h a b:Nat)(fl:D):Prop:=Rch g vl vr tk h a b/\match Mp g vl vr (Fu vl vr) 0 0 0 [] with
 |(t',h',a',b',none)=>tk=t'/\h=h'/\a=a'/\b=b'/\fl=.non
 |(_,_,_,_,some (k,s))=>fl=.tup [.int (k:Nat),.str s]
set_option genInjectivity false in inductive NR where
 |stop
 |brk (k:Nat)
 |msg (k:Nat) (m:D) (th e:Nat)
def nxR(gs:List (List GS))(w:List Nat)(side:Str)(p:Nat)(st:List Nat):NR:=match w[p]? with
 |none=>.stop
 |some k=>match gs[k]? with
   |none=>.brk p
   |some g=>match AA g (st.getD k 0) with
     |.fin=>.brk p
     | .st s ws=>if s=side then match Bf side ws w (p + 1) with
        |(.short,_)=>.stop
        |(.broken j,_)=>.brk j
        |(.told v e,c)=>.msg k (.tup [.str side,.str (ws.getD c (Str.ofString "",.nothing,0)).1,v]) (ws.getD c (Str.ofString "",.nothing,0)).2.2.toNat e
       else .stop
variable{gs:List (List GS)}{th:Nat}
theorem EG{side:Str}{st:List Nat}{k:Nat}{m:D}(h:nxR gs w side p st=.msg k m th e):∃g ws v c,w[p]?=some k/\gs[k]?=some g/\AA g (st.getD k 0)=.st side ws/\Bf side ws w (p+1)=(.told v e,c)/\m=.tup [.str side,.str (ws.getD c (Str.ofString "",.nothing,0)).1,v]/\th=(ws.getD c (Str.ofString "",.nothing,0)).2.2.toNat:=by
 unfold nxR at h
 cases e1:w[p]? with
 |none=>rw[e1] at h;cases h
 |some k'=>
   rw[e1] at h;dsimp only at h
   cases e2:gs[k']? with
   |none=>rw[e2] at h;cases h
   |some g=>
     rw[e2] at h;dsimp only at h
     cases e3:AA g (st.getD k' 0) with
     |fin=>rw[e3] at h;cases h
     |st s ws=>
       rw[e3] at h;dsimp only at h
       by_cases q:s=side
       .rw[hX q] at h;subst q
        cases e4:Bf s ws w (p+1) with
        |mk r c=>
          rw[e4] at h
          cases r with
          |short=>cases h
          |broken j=>cases h
          |told v b=>cases h;exact⟨g,ws,v,c,rfl,e2,e3,e4,rfl,rfl⟩
       .rw[ia q] at h;cases h
theorem R0{side:Str}{st:List Nat}(h:nxR gs w side p st=.brk j):∃k,w[p]?=some k/\(gs[k]?=none/\j=p\/∃g,gs[k]?=some g/\(AA g (st.getD k 0)=.fin/\j=p\/∃ws c,AA g (st.getD k 0)=.st side ws/\Bf side ws w (p+1)=(.broken j,c))):=by
 unfold nxR at h
 cases e1:w[p]? with
 |none=>rw[e1] at h;cases h
 |some k'=>
   rw[e1] at h;dsimp only at h;refine⟨k',rfl,?_⟩
   cases e2:gs[k']? with
   |none=>rw[e2] at h;cases h;exact .inl ⟨rfl,rfl⟩
   |some g=>
     rw[e2] at h;dsimp only at h;refine .inr ⟨g,rfl,?_⟩
     cases e3:AA g (st.getD k' 0) with
     |fin=>rw[e3] at h;cases h;exact .inl ⟨rfl,rfl⟩
     |st s ws=>
       rw[e3] at h;dsimp only at h
       by_cases q:s=side
       .rw[hX q] at h;subst q
        cases e4:Bf s ws w (p+1) with
        |mk r c=>
          rw[e4] at h
          cases r with
          |short=>cases h
          |broken j=>cases h;exact .inr ⟨ws,c,rfl,e4⟩
          |told v b=>cases h
       .rw[ia q] at h;cases h
theorem OI{side:Str}{ws:List (Str×Sh×Int)}{x:Nat}(h:Bf side ws w p=(.told v e,x)):p+1<=e/\e<=w.length:=by
 unfold Bf at h
 cases hb:w[p]? with
 |none=>rw[hb] at h;cases h
 |some y=>
   rw[hb] at h;dsimp only at h;obtain⟨hpl,_⟩:=ua7.mp hb
   cases hws:ws[y]? with
   |none=>rw[hws] at h;cases h
   |some wd=>
     rw[hws] at h;injection h with h1 h2
     exact DR _ _ hpl h1
theorem V7{side:Str}{ws:List (Str×Sh×Int)}{x:Nat}(h:Bf side ws w p=(.broken j,x)):p<=j/\j<w.length:=by
 unfold Bf at h
 cases hb:w[p]? with
 |none=>rw[hb] at h;cases h
 |some y=>
   rw[hb] at h;dsimp only at h;obtain⟨hpl,_⟩:=ua7.mp hb
   cases hws:ws[y]? with
   |none=>rw[hws] at h;cases h;exact⟨un6 _,hpl⟩
   |some wd=>
     rw[hws] at h;injection h with h1 h2
     have:=HK _ _ h1;lia
theorem Gj{side:Str}{st:List Nat}{k:Nat}{m:D}(h:nxR gs w side p st=.msg k m th e):p+2<=e/\e<=w.length:=by
 obtain⟨g,ws,v,c,_,_,_,h4,_,_⟩:=EG h;have:=OI h4;lia
theorem Ip{side:Str}{st:List Nat}(h:nxR gs w side p st=.brk j):p<=j/\j<w.length:=by
 obtain⟨k,h1,⟨_,rfl⟩|⟨g,_,⟨_,rfl⟩|⟨ws,c,_,h4⟩⟩⟩:=R0 h
 .exact⟨un6 _,(ua7.mp h1).1⟩
 .exact⟨un6 _,(ua7.mp h1).1⟩
 .have:=V7 h4;lia
theorem Qf{side:Str}{st:List Nat}{k c:Nat}{m:D}(h:nxR gs w side p st=.msg k m th e)(a:Agr c w w2)(he:e<=c):nxR gs w2 side p st=.msg k m th e:=by
 clear 5(EG h)g ws v x h1 h2 h3 h4 rfl rfl;have:=OI h4;unfold nxR;rw[(a p (by lia)).trans h1];dsimp only;rw[h2];dsimp only;rw[h3];dsimp only;rw[hX rfl,RK a h4 he]
theorem Kh{side:Str}{st:List Nat}{c:Nat}(h:nxR gs w side p st=.brk j)(a:Agr c w w2)(hj:j<c):nxR gs w2 side p st=.brk j:=by
 have hle:=Ip h;clear 5(R0 h)k h1 h2;unfold nxR;rw[(a p (by lia)).trans h1];dsimp only;rcases h2 with⟨h2,rfl⟩|⟨g,h2,⟨h3,rfl⟩|⟨ws,x,h3,h4⟩⟩
 .rw[h2]
 .rw[h2];dsimp only;rw[h3]
 .rw[h2];dsimp only;rw[h3];dsimp only;rw[hX rfl,N9 a h4 hj]
noncomputable def sd(s:Bool):Str:=if s=true then sL else sR
theorem Fk:∀{s t:Bool},sd s=sd t->s=t:=by
 intro s t h
 cases s<;>cases t<;>first|rfl|(exact absurd h (by decide))
set_option genInjectivity false in structure Ls where
 p:Bool->Nat
 st:List Nat
 hd:List (List D)
def Ls.nx(σ:Ls)(gs:List (List GS))(w:Bool->List Nat)(s:Bool):NR:=nxR gs (w s) (sd s) (σ.p s) σ.st
noncomputable def Ls.go(σ:Ls)(s:Bool)(k:Nat)(m:D)(th e:Nat):Ls:=⟨λx=>if x=s then e else σ.p x,σ.st.set k th,σ.hd.set k (σ.hd.getD k []++[m])⟩
def Stp(gs:List (List GS))(w:Bool->List Nat)(σ:Ls)(s:Bool)(τ:Ls):Prop:=∃k m th e,σ.nx gs w s=.msg k m th e/\τ=σ.go s k m th e
inductive Run(gs:List (List GS))(w:Bool->List Nat):Ls->Ls->Prop
 |refl (σ:Ls):Run gs w σ σ
 |step {σ τ ρ:Ls}{s:Bool}:Stp gs w σ s τ->Run gs w τ ρ->Run gs w σ ρ
variable{σ τ ρ:Ls}{s:Bool}
section
variable{gs:List (List GS)}{w:Bool->List Nat}
theorem Run.trans(a:Run gs w σ τ)(b:Run gs w τ ρ):Run gs w σ ρ:=by
 induction a with
 |refl=>exact b
 |step s _ ih=>exact .step s (ih b)
theorem Run.one(h:Stp gs w σ s τ):Run gs w σ τ:=.step h (.refl _)
theorem Bn{l:List α}{a d:α}(h:i≠j):(l.set i a).getD j d=l.getD j d:=by
 rw[ua6,ud7 h,ua6]
theorem JC{t:Bool}{k:Nat}{m:D}(h:σ.nx gs w s=.msg k m th e)(ht:t≠s)(hn:σ.nx gs w t≠.stop):(σ.go s k m th e).nx gs w t=σ.nx gs w t:=by
 obtain⟨g,ws,v,c,h1,h2,h3,_⟩:=EG h;unfold Ls.nx at hn⊢;have hp:(σ.go s k m th e).p t=σ.p t:=ia ht;rw[hp];unfold nxR at hn⊢
 cases e1:(w t)[σ.p t]? with
 |none=>rfl
 |some k'=>
   rw[e1] at hn;dsimp only at hn⊢
   cases e2:gs[k']? with
   |none=>rfl
   |some g'=>
     rw[e2] at hn;dsimp only at hn⊢
     by_cases q:k'=k
     .subst q;rw[h2] at e2
      cases e2
      rw[h3] at hn;dsimp only at hn;rw[ia λz=>ht (Fk z).symm] at hn;exact absurd rfl hn
     .rw[show(σ.go s k m th e).st.getD k' 0=σ.st.getD k' 0 from Bn λz=>q z.symm]
theorem LA{t:Bool}(hb:σ.nx gs w t=.brk j)(r:Run gs w σ τ):τ.nx gs w t=.brk j:=by
 induction r with
 |refl=>exact hb
 |@step σ τ ρ s h _ ih=>
   clear 5 h k m th e h1 rfl;have ht:t≠s:=λz=>by subst z;rw[hb] at h1;cases h1
   exact ih (by rw[JC h1 ht (by rw[hb];exact λz=>by cases z),hb])
theorem Vn{t:Bool}(a:Stp gs w σ s τ)(b:Stp gs w σ t ρ)(hst:s≠t):∃υ,Stp gs w τ t υ/\Stp gs w ρ s υ:=by
 clear 5 a k m th e h1 rfl;clear 5 b k' m' th' e' h2 rfl;have n1:=JC h1 (Ne.symm hst) (by rw[h2];exact λz=>by cases z);have n2:=JC h2 hst (by rw[h1];exact λz=>by cases z);have hk:k≠k':=by
  intro z;subst z;obtain⟨g,ws,_,_,_,g2,g3,_⟩:=EG h1;obtain⟨g',ws',_,_,_,g2',g3',_⟩:=EG h2;rw[g2] at g2'
  cases g2'
  rw[g3] at g3';injection g3' with q _
  exact hst (Fk q)
 refine⟨_,⟨k',m',th',e',n1.trans h2,rfl⟩,k,m,th,e,n2.trans h1,?_⟩;unfold Ls.go;dsimp only;rw[gL _ _ hk,Bn hk,Bn (Ne.symm hk),gL _ _ hk]
 congr 1
 funext x
 by_cases q:x=s
 .subst q;rw[ia hst,hX rfl,hX rfl]
 .rw[ia q,ia q]
def NF(gs:List (List GS))(w:Bool->List Nat)(σ:Ls):Prop:=∀s k m th e,σ.nx gs w s≠.msg k m th e
theorem aF(a:Stp gs w σ s τ)(r:Run gs w σ ρ)(n:NF gs w ρ):Run gs w τ ρ:=by
 induction r generalizing τ s with
 |refl=>obtain⟨k,m,th,e,h1,_⟩:=a;exact absurd h1 (n _ _ _ _ _)
 |@step σ υ ρ t h r ih=>
   by_cases q:s=t
   .subst q;clear 5 a k m th e h1 rfl;clear 5 h k' m' th' e' h2 rfl;rw[h1] at h2
    cases h2
    exact r
   .clear 5(Vn a h q)x h1 h2;exact .step h1 (ih h2 n)
theorem UF(a:Run gs w σ τ)(r:Run gs w σ ρ)(n:NF gs w ρ):Run gs w τ ρ:=by
 induction a with
 |refl=>exact r
 |step h _ ih=>exact ih (aF h r n)
theorem Run.nf(r:Run gs w σ τ)(n:NF gs w σ):σ=τ:=by
 cases r with
 |refl=>rfl
 |step h _=>obtain⟨k,m,th,e,h1,_⟩:=h;exact absurd h1 (n _ _ _ _ _)
theorem am(a:Run gs w σ τ)(r:Run gs w σ ρ)(m:NF gs w τ)(n:NF gs w ρ):τ=ρ:=(UF a r n).nf m
def Pre(l l':List (List D)):Prop:=l.length=l'.length/\∀k,∃x,l'.getD k []=l.getD k []++x
theorem Pre.refl{l:List (List D)}:Pre l l:=⟨rfl,λk=>⟨[],(uj0 _).symm⟩⟩
theorem Run.grow(r:Run gs w σ τ):(∀s,σ.p s<=τ.p s)/\Pre σ.hd τ.hd/\σ.st.length=τ.st.length:=by
 induction r with
 |refl=>exact⟨λ_=>un6 _,.refl,rfl⟩
 |@step σ τ ρ s h _ ih=>
   clear 5 h k m th e h1 rfl;have hle:=Gj h1;refine⟨λt=>?_,⟨?_,λj=>?_⟩,?_⟩
   .have:=ih.1 t
    by_cases q:t=s
    .subst q;have h2:(σ.go t k m th e).p t=e:=hX rfl;lia
    .have h2:(σ.go s k m th e).p t=σ.p t:=ia q;lia
   .rw[<-ih.2.1.1];exact(uj3 ..).symm
   .clear 5(ih.2.1.2 j)x hx;rw[hx]
    by_cases q:k=j
    .subst q
     by_cases hk:k < σ.hd.length
     .refine⟨[m]++x,?_⟩;show(σ.hd.set k (σ.hd.getD k []++[m])).getD k []++x=_;rw[ua6,ub9 hk,ui3,ug3]
     .refine⟨x,?_⟩;show(σ.hd.set k (σ.hd.getD k []++[m])).getD k []++x=_;rw[gg (by lia)]
    .refine⟨x,?_⟩;show(σ.hd.set k (σ.hd.getD k []++[m])).getD j []++x=_;rw[Bn q]
   .rw[<-ih.2.2];exact(uj3 ..).symm
theorem Run.loc{v:Bool->List Nat}(r:Run gs w σ τ)(a:∀s,Agr (τ.p s) (w s) (v s)):Run gs v σ τ:=by
 induction r with
 |refl=>exact .refl _
 |@step σ τ ρ s h r ih=>
   clear 5 h k m th e h1 rfl;have h2:(σ.go s k m th e).p s=e:=hX rfl;have h3:=r.grow.1 s;exact .step ⟨k,m,th,e,Qf h1 (a s) (by lia),rfl⟩ (ih a)
theorem Run.inn(r:Run gs w σ τ)(h:∀s,σ.p s<=(w s).length):∀s,τ.p s<=(w s).length:=by
 induction r with
 |refl=>exact h
 |@step σ τ ρ s h' r ih=>
   clear 5 h' k m th e h1 rfl;refine ih λt=>?_
   by_cases q:t=s
   .subst q;have h2:(σ.go t k m th e).p t=e:=hX rfl;have:=Gj h1;lia
   .have h2:(σ.go s k m th e).p t=σ.p t:=ia q;rw[h2];exact h t
end
theorem U6(s:Bool):sd s=sL\/sd s=sR:=by cases s<;>first|exact .inl rfl|exact .inr rfl
section
variable{gs:List (List GS)}{w:Bool->List Nat}
end
noncomputable def ls0(gs:List (List GS)):Ls:=⟨λ_=>0,gs.map λ_=>0,gs.map λ_=>[]⟩
def End(gs:List (List GS))(w:Bool->List Nat)(σ:Ls):Prop:=Run gs w (ls0 gs) σ/\NF gs w σ
noncomputable def PB:NR->Option Nat
 |.brk j=>some j
 |_=>none
def E8(gs:List (List GS))(w:Bool->List Nat)(σ:Ls):Option (Bool×Nat):=match PB (σ.nx gs w true) with
 |some j=>some (true,j)
 |none=>(PB (σ.nx gs w false)).map λj=>(false,j)
section
variable{gs:List (List GS)}{w:Bool->List Nat}
theorem PP(h:E8 gs w σ=none)(s:Bool)(j:Nat):σ.nx gs w s≠.brk j:=by
 unfold E8 at h;intro z
 cases s with
 |true=>rw[z] at h;cases h
 |false=>
   rw[z] at h
   cases e:PB (σ.nx gs w true) with
   |none=>rw[e] at h;cases h
   |some i=>rw[e] at h;cases h
theorem Jt(h:∀s j,σ.nx gs w s≠.brk j):E8 gs w σ=none:=by
 have q:∀s,PB (σ.nx gs w s)=none:=λs=>by
  cases e:σ.nx gs w s with
  |brk j=>exact absurd e (h s j)
  |_=>rfl
 unfold E8;rw[q,q];rfl
theorem End.inn{σ:Ls}(h:End gs w σ)(s:Bool):σ.p s<=(w s).length:=h.1.inn (λ_=>un7 _) s
theorem End.eq(h:End gs w σ)(k:End gs w τ):σ=τ:=am h.1 k.1 h.2 k.2
theorem Vm{v:Bool->List Nat}(a:∀s,Agr (v s).length (v s) (w s))(h:End gs w σ)(k:End gs v τ):Run gs w τ σ/\(E8 gs w σ=none->E8 gs v τ=none):=by
 have r:Run gs w τ σ:=UF (k.1.loc λs=>(a s).mono (k.inn s)) h.1 h.2;refine⟨r,λq=>Jt λs j z=>?_⟩;have z2:τ.nx gs w s=.brk j:=Kh z (a s) (Ip z).2;exact PP q s j (LA z2 r)
end
section
variable{f:Str}{t:T}{P:D->T->Prop}{O:Out->T->Prop}{k:Nat}{n:Str}{fs:List (Str×D)}{v:D}
def TC(f:Str)(d:D):M D:=FX d λ_ _ fs t=>(fs.lookup f).map λv=>(v,t)
def Ll(f:Str)(v d:D):M Out:=FX d λk n fs t=>if fs.length<1000 then some (.next,{t with S:=t.S.set k (.ins n (F8 f v fs))}) else none
theorem ZM{a:M D}(h:W a t λd t1=>W (TC f d) t1 P):W (Dz f a) t P:=CJ h
theorem Df(e:t.S[k]?=some (.ins n fs))(l:fs.lookup f=some v)(h:P v t):W (TC f (.obj k)) t P:=⟨_,_,by simp only[TC,FX,e,l];rfl,h⟩
theorem Pj{gv ga:M D}(h:W gv t λv t1=>W ga t1 λd t2=>W (Ll f v d) t2 O):W (Fl f gv ga) t O:=CJ (h.mono λ_ _ z=>CJ z)
theorem Gf(e:t.S[k]?=some (.ins n fs))(l:fs.length<1000)(h:O .next ⟨t.env,t.S.set k (.ins n (F8 f v fs))⟩):W (Ll f v (.obj k)) t O:=⟨_,_,by simp only[Ll,FX,e,hX l],h⟩
theorem bi{g:Fn}{fl:M (List D)}(h:W fl t λds t1=>Wf g (.obj t1.S.length::ds) (t1.S++[.ins n []]) λr S'=>r=.non/\P (.obj t1.S.length) ⟨t1.env,S'⟩):W (Me n g fl) t P:=
 CJ (h.mono λds t1 ⟨r,S',e,e2,p⟩=>by subst e2;exact⟨_,_,by simp only[e],p⟩)
theorem bj{g:Fn}{o:M D}{fl:M (List D)}(h:W o t λd t1=>∃k fs,d=.obj k/\t1.S[k]?=some (.ins n fs)/\W fl t1 λds t2=>Wf g (d::ds) t2.S λr S'=>P r ⟨t2.env,S'⟩):W (Ea n g o fl) t P:=by
 refine CJ (h.mono λd t1 z=>?_);clear 5 z k fs e1 e2 w;subst e1;clear 5 w ds t2 w1 r S' w2 p;refine⟨r,_,?_,p⟩;simp only[FX,e2,hX,bnd,w1,w2]
end
local macro_rules | `(tactic| walk_at"y1")=>`(tactic| first
 |walk_at"x1" |clear 31 ZM Pj N1)
abbrev rdF(g:List GS)(h W P:Nat):List (Str×D):=[("grammar",.lst (g.map GS.d)),("standing",.int (h:Nat)),("wires",.obj W),("places",.obj P)]
structure Rdr(n0:Nat)(S:List Ob)(k:Nat)(g:List GS)(vl vr:List Nat)(h a b W P l r:Nat):Prop where
 k0:n0<=k
 l0:n0<=l
 r0:n0<=r
 ne:l≠r
 k:S[k]?=some (.ins "Reader" (rdF g h W P))
 w:S[W]?=some (.dct (lr (.obj l) (.obj r)))
 p:S[P]?=some (.dct (dP a b))
 l:S[l]?=some (.lst (wD vl))
 r:S[r]?=some (.lst (wD vr))
def Low(n0:Nat)(S S':List Ob):Prop:=n0<=S'.length/\∀i,i<n0->S'[i]?=S[i]?
variable{n0:Nat}
theorem Low.refl(h:n0<=S.length):Low n0 S S:=⟨h,λ_ _=>rfl⟩
theorem Low.trans{n0:Nat}{S S1 S2:List Ob}(a:Low n0 S S1)(b:Low n0 S1 S2):Low n0 S S2:=⟨b.1,λi h=>(b.2 i h).trans (a.2 i h)⟩
theorem Low.set{n0 k:Nat}{S S1:List Ob}{o:Ob}(a:Low n0 S S1)(h:n0<=k):Low n0 S (S1.set k o):=⟨by rw[uj3];exact a.1,λi hi=>by rw[ud7 (by lia)];exact a.2 i hi⟩
variable{u:Ob}
theorem Ai(h:S[i]?=some u)(n:j≠i):(S.set j o)[i]?=some u:=by rw[ud7 n];exact h
theorem Bi(h:S[i]?=some o)(h':S[j]?=some u)(n:o≠u):i≠j:=λe=>by subst e;rw[h] at h';exact n (ui7 h')
def Kp(k:Nat)(S S':List Ob):Prop:=S.length<=S'.length/\∀i,i<S.length->i≠k->S'[i]?=S[i]?
theorem Kp.refl{k:Nat}:Kp k S S:=⟨un6 _,λ_ _ _=>rfl⟩
variable{S':List Ob}
theorem Kp.setk{k:Nat}(a:Kp k S S'):Kp k S (S'.set k o):=⟨by rw[uj3];exact a.1,λi h n=>by rw[ud7 (Ne.symm n)];exact a.2 i h n⟩
theorem Kp.set{k j:Nat}{S S':List Ob}{o:Ob}(a:Kp k S S')(h:S.length<=j):Kp k S (S'.set j o):=⟨by rw[uj3];exact a.1,λi hi n=>by rw[ud7 (by lia)];exact a.2 i hi n⟩
theorem Kp.app{k:Nat}(a:Kp k S S'):Kp k S (S'++[o]):=⟨by rw[uf3];exact um5 a.1 (uh8 _ _),λi hi n=>by rw[ua8 (ue9 hi a.1)];exact a.2 i hi n⟩
theorem Cm(h:S[i]?=some u):(S++[o])[i]?=some u:=by rw[ua8 (ua7.mp h).1];exact h
theorem DB(h:S[i]?=some u):i<S.length:=(ua7.mp h).1
local macro_rules | `(tactic| walk_at"y1")=>`(tactic| first
 |walk_at"x1" |clear 31 ZM Pj N1 bj bi)
def gsD(gs:List (List GS)):D:=.lst (gs.map λg=>.lst (g.map GS.d))
abbrev liF(gs:List (List GS))(W P N H:Nat):List (Str×D):=[("grammars",gsD gs),("wires",.obj W),("places",.obj P),("standings",.obj N),("heard",.obj H)]
def nD(l:List Nat):List D:=l.map λn=>.int (n:Nat)
def WirB(n0:Nat)(S:List Ob)(d:D)(w:List Nat):Prop:=d=.lst (wD w)\/∃k,d=.obj k/\k<n0/\S[k]?=some (.lst (wD w))
theorem WirB.wir{d:D}(h:WirB n0 S d w):Wir S d w:=h.imp id λ⟨k,a,_,b⟩=>⟨k,a,b⟩
theorem WirB.low{d:D}(h:WirB n0 S d w)(q:∀i o,i<n0->S[i]?=some o->S'[i]?=some o):WirB n0 S' d w:=h.imp id λ⟨k,a,b,c⟩=>⟨k,a,b,q k _ b c⟩
structure Lis(n0:Nat)(S:List Ob)(gs:List (List GS))(w:Bool->List Nat)(σ:Ls)(k W P N H:Nat)(hs:List Nat):Prop where
 ik:S[k]?=some (.ins "Listener" (liF gs W P N H))
 iw:∃x:Bool->D,S[W]?=some (.dct (lr (x true) (x false)))/\∀s,WirB n0 S (x s) (w s)
 ip:S[P]?=some (.dct (dP (σ.p true) (σ.p false)))
 it:S[N]?=some (.lst (nD σ.st))
 ih:S[H]?=some (.lst (hs.map .obj))
 hl:hs.length=gs.length
 hh:∀(i h:Nat),hs[i]?=some h->S[h]?=some (.lst (σ.hd.getD i []))
 nd:hs.Nodup
 nN:N∉hs
 nH:H∉hs
 ne:N≠H
 lP:n0<=P
 lN:n0<=N
 lh:∀h∈hs,n0<=h
 ls:σ.st.length=gs.length
 lo:∀(i:Nat) (g:List GS),gs[i]?=some g->σ.st.getD i 0<g.length
 ld:σ.hd.length=gs.length
 fw:∀i,2*(σ.hd.getD i []).length<=σ.p true+σ.p false
theorem lrF(F:Bool->D)(s:Bool):Ct (lr (F true) (F false)) (.inr (sd s))=some (F s):=by
 rw[YB (U6 s)]
 cases s<;>rfl
def nrD(s:Bool):NR->D
 |.stop=>.non
 |.brk j=>.exc "Broken" [.int (j:Nat),.str (sd s)]
 |.msg _ m th e=>.tup [m,.int (th:Nat),.int (e:Nat)]
theorem Hr{st:List Nat}(h:w[p]?=none):nxR gs w x p st=.stop:=by unfold nxR;rw[h]
theorem Wm{k:Nat}{st:List Nat}(h:w[p]?=some k)(h2:gs[k]?=none):nxR gs w x p st=.brk p:=by unfold nxR;rw[h];dsimp only;rw[h2]
theorem Wj{k:Nat}{st:List Nat}(h:w[p]?=some k)(h2:gs[k]?=some g)(h3:AA g (st.getD k 0)=.fin):nxR gs w x p st=.brk p:=by unfold nxR;rw[h];dsimp only;rw[h2];dsimp only;rw[h3]
theorem Wl{y:Str}{ws:List (Str×Sh×Int)}{k:Nat}{st:List Nat}(h:w[p]?=some k)(h2:gs[k]?=some g)(h3:AA g (st.getD k 0)=.st y ws)(n:y≠x):nxR gs w x p st=.stop:=by unfold nxR;rw[h];dsimp only;rw[h2];dsimp only;rw[h3];dsimp only;rw[ia n]
theorem Wk{ws:List (Str×Sh×Int)}{k:Nat}{st:List Nat}(h:w[p]?=some k)(h2:gs[k]?=some g)(h3:AA g (st.getD k 0)=.st (sd s) ws)(hn:∀c v e,Bf (sd s) ws w (p+1)=(.told v e,c)->0<=(ws.getD c (Str.ofString "",.nothing,0)).2.2):nrD s (nxR gs w (sd s) p st)=Hq (sd s) ws w (p+1):=by
 unfold nxR Hq;rw[h];dsimp only;rw[h2];dsimp only;rw[h3];dsimp only;rw[hX rfl]
 cases e4:Bf (sd s) ws w (p+1) with
 |mk r c=>
   cases r with
   |short=>rfl
   |broken j=>rfl
   |told v b=>
     dsimp only;rw[nrD,Int.toNat_of_nonneg (hn c v b e4)]
theorem OH{side:Str}{ws:List (Str×Sh×Int)}{x:Nat}(h:Bf side ws w p=(.told v e,x)):x<ws.length:=by
 unfold Bf at h
 cases hb:w[p]? with
 |none=>rw[hb] at h;cases h
 |some y=>
   rw[hb] at h;dsimp only at h
   cases hws:ws[y]? with
   |none=>rw[hws] at h;cases h
   |some wd=>
     rw[hws] at h;injection h with h1 h2
     subst h2;exact(ua7.mp hws).1
theorem Pf{n:Int}{side:Str}{ws:List (Str×Sh×Int)}(h:GSOk n (.st side ws)){c:Nat}(hc:c<ws.length):0<=(ws.getD c (Str.ofString "",.nothing,0)).2.2/\(ws.getD c (Str.ofString "",.nothing,0)).2.2<n:=by
 cases h with
 |@st _ _ hs1 hs2 hs3 hs4 hs5=>
   have:=hs5 _ (ui1 hc);rw[ua6,ub2 hc,ui3];exact⟨this.lo,this.hi⟩
def Ok2(gs:List (List GS))(w:Bool->List Nat):Prop:=(∀g∈gs,GOk g)/\gs.length<=9/\∀s,(w s).length<=25000
theorem B7{d:D}(h:ds[i]?=some d):atI ds (i:Int)=some d:=by
 unfold atI;rw[BP (by lia) (by have:=(ua7.mp h).1;lia)];show ds[(i:Int).toNat]?=_;rw[ug7];exact h
theorem Il{l:List Nat}(h:i<l.length):(nD l)[i]?=some (.int ((l.getD i 0:Nat):Int)):=by
 unfold nD;rw[ug1,ub2 h,ua6,ub2 h];rfl
theorem N0{k:Nat}{d:D}(e:t.S[k]?=some (.lst ds))(h:ds[i]?=some d)(p:P d t):L2.W (ixD (.obj k) (.int (i:Int))) t P:=W_ix_obj.mpr ⟨ds,e,d,B7 h,p⟩
noncomputable def nwD:NR->D
 |.msg _ m th e=>.tup [m,.int (th:Nat),.int (e:Nat)]
 |_=>.non
theorem ZP{k:Nat}{d:D}(e:t.S[k]?=some (.lst xs))(hn:n<xs.length)(h:U () ⟨t.env,t.S.set k (.lst (xs.set n d))⟩):L2.W (Gb (.obj k) (.int (n:Int)) d) t U:=W_stOb.mpr ⟨xs,e,n,by rw[BP (by lia) (by lia),ug7],h⟩
theorem Cp{l:List α}{a d:α}(h:i<l.length):(l.set i a).getD i d=a:=by
 rw[ua6,ub9 h,ui3]
section
variable{n0:Nat}{S:List Ob}{gs:List (List GS)}{w:Bool->List Nat}{σ:Ls}{k W P N H:Nat}{hs:List Nat}
theorem XV(p:Bool->Nat)(s:Bool)(e:Nat):Cu (dP (p true) (p false)) (.inr (sd s)) (.int (e:Nat))=dP (if true=s then e else p true) (if false=s then e else p false):=by
 rw[YC (U6 s)]
 cases s<;>rfl
theorem Lis.go(R:Lis n0 S gs w σ k W P N H hs)(hg:∀g∈gs,GOk g){s:Bool}{kk th e h:Nat}{m:D}(q:σ.nx gs w s=.msg kk m th e)(hk:hs[kk]?=some h) :
 Lis n0 (((S.set h (.lst (σ.hd.getD kk []++[m]))).set N (.lst ((nD σ.st).set kk (.int (th:Nat))))).set P (.dct (dP (if true=s then e else σ.p true) (if false=s then e else σ.p false)))) gs w (σ.go s kk m th e) k W P N H hs:=by
 obtain⟨g,ws,v,c,_,h2,h3,h4,_,rfl⟩:=EG q;have hle:=Gj q;have hS:=R.hh kk h hk;have hm:h∈hs:=ud8 hk;have hkl:kk<gs.length:=(ua7.mp h2).1;clear 5 R.iw x iw hx;have nk:h≠k:=Bi hS R.ik (by simp);have nW:h≠W:=Bi hS iw (by simp);have nP:h≠P:=Bi hS R.ip (by simp);have nN:h≠N:=λz=>R.nN (by rw[<-z];exact hm);have nH:h≠H:=λz=>R.nH (by rw[<-z];exact hm);have Nk:N≠k:=Bi R.it R.ik (by simp);have NW:N≠W:=Bi R.it iw (by simp);have NP:N≠P:=Bi R.it R.ip (by simp);have Pk:P≠k:=Bi R.ip R.ik (by simp);have PW:P≠W:=λz=>by
  subst z;rw[R.ip] at iw;injection iw with iw
  injection iw with iw
  rcases hx true with e|⟨_,e,_⟩<;>rw[e] at iw<;>simp[dP,lr] at iw
 have PH:P≠H:=Bi R.ip R.ih (by simp);refine⟨Ai (Ai (Ai R.ik nk) Nk) Pk,⟨x,Ai (Ai (Ai iw nW) NW) PW,λs=>(hx s).low λi o hi q=>Ai (Ai (Ai q (by have:=R.lh h hm;lia)) (by have:=R.lN;lia)) (by have:=R.lP;lia)⟩,A8 (Ai (Ai R.ip nP) NP),?_,Ai (Ai (Ai R.ih nH) R.ne) PH,R.hl,λi h' hi=>?_,R.nd,R.nN,R.nH,R.ne,R.lP,R.lN,R.lh,?_,λi g' hg'=>?_,?_,λi=>?_⟩
 .have e1:(nD σ.st).set kk (.int ((((ws.getD c (Str.ofString "",.nothing,0)).2.2.toNat:Nat)):Int))=nD (σ.go s kk m ((ws.getD c (Str.ofString "",.nothing,0)).2.2.toNat) e).st:=by
   unfold nD Ls.go;rw[List.map_set]
  rw[e1];exact Ai (A8 (Ai R.it nN)) (Ne.symm NP)
 .have hp':P≠h':=Bi R.ip (R.hh i h' hi) (by simp);have hn':N≠h':=λz=>R.nN (by rw[z];exact ud8 hi);refine Ai (Ai ?_ hn') hp'
  by_cases z:i=kk
  .subst z;rw[hk] at hi
   cases hi
   show _=some (Ob.lst ((σ.hd.set i (σ.hd.getD i []++[m])).getD i []));rw[Cp (by rw[R.ld];exact hkl)];exact A8 hS
  .have hne:h≠h':=λy=>z (by
    subst y;exact(List.getElem?_inj (ua7.mp hi).1 R.nd).mp (by rw[hi,hk]))
   show _=some (Ob.lst ((σ.hd.set kk (σ.hd.getD kk []++[m])).getD i []));rw[Bn λy=>z y.symm];exact Ai (R.hh i h' hi) hne
 .show(σ.st.set kk _).length=_;rw[uj3];exact R.ls
 .show(σ.st.set kk _).getD i 0<_
  by_cases z:kk=i
  .subst z;rw[h2] at hg'
   cases hg'
   have hso:=(hg g (ud8 h2)).all (.st (sd s) ws) (by
    have hlo:=R.lo kk g h2;rw[<-h3];unfold AA;rw[ua6 (l:=g),ub2 hlo];exact ui1 hlo)
   have:=Pf hso (OH h4);rw[Cp (by rw[R.ls];exact hkl)];lia
  .rw[Bn z];exact R.lo i g' hg'
 .show(σ.hd.set kk _).length=_;rw[uj3];exact R.ld
 .show 2*((σ.hd.set kk (σ.hd.getD kk []++[m])).getD i []).length<=(if true=s then e else σ.p true)+(if false=s then e else σ.p false);have hsum:σ.p true+σ.p false+2<=(if true=s then e else σ.p true)+(if false=s then e else σ.p false):=by
   cases s with
   |true=>rw[hX rfl,ia (by decide)];have:σ.p true+2<=e:=hle.1;lia
   |false=>rw[ia (by decide),hX rfl];have:σ.p false+2<=e:=hle.1;lia
  have:=R.fw i
  by_cases z:kk=i
  .subst z;rw[Cp (by rw[R.ld];exact hkl),uf3];show 2*(_+1)<=_;lia
  .rw[Bn z];lia
end
theorem Hd{α:Type}(ι:α->D):∀(xs:List α) (S:List Ob) (z:Option Sl),L2.W (Bl (Ao 0) CT (CA (AK Ad)) (xs.map ι)) ⟨[z],S⟩ λr t'=>r=((List.range' S.length xs.length).map D.obj)/\t'.S=S++List.replicate xs.length (.lst [])
 |[],S,z=>W_compL_nil.mpr ⟨rfl,(uj0 _).symm⟩
 |a::r,S,z=>by
   rw[ul3,CK];refine E5 (N2 ?_);rw[hX rfl];symm;refine(Hd ι r _ _).mono λxs t' z9=>?_;clear 5 z9 e1 e2;subst e1;refine⟨?_,?_⟩
   .rw[uf3,uh1 (as:=r),List.range'_succ,ul3];rfl
   .rw[e2,ug3,uh1,ue5];rfl
theorem LD{α:Type}(ι:α->D):∀(xs:List α) (S:List Ob) (z:Option Sl),L2.W (Bl (Ao 0) CT (fb 0) (xs.map ι)) ⟨[z],S⟩ λr t'=>r=nD (xs.map λ_=>0)/\t'.S=S
 |[],S,z=>W_compL_nil.mpr ⟨rfl,rfl⟩
 |a::r,S,z=>by
   rw[ul3,CK];refine E5 (N2 ?_);rw[hX rfl];symm;refine(LD ι r _ _).mono λxs t' z9=>?_;clear 5 z9 e1 e2;subst e1;exact⟨rfl,e2⟩
theorem Lq{g:M D}(h:L2.W f ⟨t.env,t.S++[.dct []]⟩ λa t1=>L2.W g t1 λb t2=>t2.S[t.S.length]?=some (.dct [])/\P (.obj t.S.length) ⟨t2.env,t2.S.set t.S.length (.dct (lr a b))⟩):L2.W (Gh [("left",f),("right",g)]) t P:=by
 refine Va (FJ (h.mono λa t1 h1=>FJ (h1.mono λb t2 h2=>LX ⟨h2.1,by show 2<=15;decide,?_⟩)));rw[show Eo [(Sum.inr (Str.ofString "left"),a),(Sum.inr (Str.ofString "right"),b)]=lr a b from M5];exact h2.2
def Ps(f:Fn):Prop:=∀(S:List Ob) (k:Nat) (gs:List (List GS)) (w:Bool->List Nat) (x:Bool->D),Ok2 gs w->(∀s,WirB k S (x s) (w s))->S[k]?=some (.ins "Listener" [])->Wf f [.obj k,gsD gs,x true,x false] S λq S'=>q=.non/\Kp k S S'/\∃W P N H hs,Lis k S' gs w (ls0 gs) k W P N H hs
theorem FS{x:List Ob}(h:S[i]?=some u):(S++x)[i]?=some u:=by rw[ua8 (DB h)];exact h
theorem Kp.appL{k:Nat}{x:List Ob}(a:Kp k S S'):Kp k S (S'++x):=⟨by rw[uf3];exact um5 a.1 (uh8 _ _),λi hi n=>by rw[ua8 (ue9 hi a.1)];exact a.2 i hi n⟩
theorem TX:Ps (fnOf 4 4 DV):=by
 intro S k gs w x ⟨hg,hgl,hw⟩ hx hk;have hL:LIM=100000:=rfl;have hkl:=DB hk;refine Ap rfl ?_;unfold DV;symm;refine Gf hk (by show 0<1000;decide) ?_;have k1:Kp k S (S.set k (.ins "Listener" [("grammars",gsD gs)])):=Kp.refl.setk;have g1:(S.set k (.ins "Listener" [("grammars",gsD gs)]))[k]?=some (.ins "Listener" [("grammars",gsD gs)]):=A8 hk;show Hx _ _ Out.next ⟨_,S.set k (.ins "Listener" [("grammars",gsD gs)])⟩;generalize S.set k (.ins "Listener" [("grammars",gsD gs)])=S1 at k1 g1⊢;have n1:=DB g1;symm;refine Lq ?_;symm;refine⟨DK,?_⟩;symm;have a1:((S1++[Ob.dct []]).set S1.length (.dct (lr (x true) (x false))))[k]?=some (.ins "Listener" [("grammars",gsD gs)]):=Ai (Cm g1) (by lia);refine Gf a1 (by show 1<1000;decide) ?_;obtain⟨W,hW⟩:∃W,W=S1.length:=⟨_,rfl⟩;rw[<-hW] at a1⊢;have w2:(((S1++[Ob.dct []]).set W (.dct (lr (x true) (x false)))).set k (.ins "Listener" [("grammars",gsD gs),("wires",.obj W)]))[W]?=some (.dct (lr (x true) (x false))):=Ai (by rw[hW];exact A8 DK) (by lia);have g2:(((S1++[Ob.dct []]).set W (.dct (lr (x true) (x false)))).set k (.ins "Listener" [("grammars",gsD gs),("wires",.obj W)]))[k]?=some (.ins "Listener" [("grammars",gsD gs),("wires",.obj W)]):=A8 a1;have k2:Kp k S (((S1++[Ob.dct []]).set W (.dct (lr (x true) (x false)))).set k (.ins "Listener" [("grammars",gsD gs),("wires",.obj W)])):=(k1.app.set (by have:=k1.1;lia)).setk;show Hx _ _ Out.next ⟨_,((S1++[Ob.dct []]).set W (.dct (lr (x true) (x false)))).set k (.ins "Listener" [("grammars",gsD gs),("wires",.obj W)])⟩;generalize ((S1++[Ob.dct []]).set W (.dct (lr (x true) (x false)))).set k (.ins "Listener" [("grammars",gsD gs),("wires",.obj W)])=S2 at w2 g2 k2⊢;have n2:=DB w2;clear a1;symm;refine Lq ?_;symm;refine⟨DK,?_⟩;symm;have n2k:=DB g2;have a2:((S2++[Ob.dct []]).set S2.length (.dct (dP 0 0)))[k]?=some (.ins "Listener" [("grammars",gsD gs),("wires",.obj W)]):=Ai (Cm g2) (by lia);refine Gf a2 (by show 2<1000;decide) ?_;obtain⟨P,hP⟩:∃P,P=S2.length:=⟨_,rfl⟩;rw[<-hP] at a2⊢;have p3:(((S2++[Ob.dct []]).set P (.dct (dP 0 0))).set k (.ins "Listener" [("grammars",gsD gs),("wires",.obj W),("places",.obj P)]))[P]?=some (.dct (dP 0 0)):=Ai (by rw[hP];exact A8 DK) (by lia);have w3:(((S2++[Ob.dct []]).set P (.dct (dP 0 0))).set k (.ins "Listener" [("grammars",gsD gs),("wires",.obj W),("places",.obj P)]))[W]?=some (.dct (lr (x true) (x false))):=Ai (Ai (Cm w2) (by lia)) (by lia);have g3:(((S2++[Ob.dct []]).set P (.dct (dP 0 0))).set k (.ins "Listener" [("grammars",gsD gs),("wires",.obj W),("places",.obj P)]))[k]?=some (.ins "Listener" [("grammars",gsD gs),("wires",.obj W),("places",.obj P)]):=A8 a2;have k3:Kp k S (((S2++[Ob.dct []]).set P (.dct (dP 0 0))).set k (.ins "Listener" [("grammars",gsD gs),("wires",.obj W),("places",.obj P)])):=(k2.app.set (by have:=k2.1;lia)).setk;show Hx _ _ Out.next ⟨_,((S2++[Ob.dct []]).set P (.dct (dP 0 0))).set k (.ins "Listener" [("grammars",gsD gs),("wires",.obj W),("places",.obj P)])⟩;generalize ((S2++[Ob.dct []]).set P (.dct (dP 0 0))).set k (.ins "Listener" [("grammars",gsD gs),("wires",.obj W),("places",.obj P)])=S3 at p3 w3 g3 k3⊢;have n3:=DB p3;clear a2;unfold gsD;symm;refine(LD (λg:List GS=>D.lst (g.map GS.d)) gs S3 _).mono λr t' z9=>?_;clear 5 z9 e1 e2;subst e1;clear 5 t' ev S3';have e2:S3'=S3:=e2;subst e2;have n3k:=DB g3;symm;refine Bb (by unfold nD;rw[ui8,ui8,hL];lia) ?_;symm;obtain⟨Z,hZ⟩:∃Z,Z=nD (gs.map λ_=>0):=⟨_,rfl⟩;rw[<-hZ];have a3:(S3'++[Ob.lst Z])[k]?=some (.ins "Listener" [("grammars",gsD gs),("wires",.obj W),("places",.obj P)]):=Cm g3;refine Gf a3 (by show 3<1000;decide) ?_;obtain⟨N,hN⟩:∃N,N=S3'.length:=⟨_,rfl⟩;have t4:((S3'++[Ob.lst Z]).set k (.ins "Listener" [("grammars",gsD gs),("wires",.obj W),("places",.obj P),("standings",.obj N)]))[N]?=some (.lst Z):=Ai (by rw[hN];exact DK) (by lia);have p4:((S3'++[Ob.lst Z]).set k (.ins "Listener" [("grammars",gsD gs),("wires",.obj W),("places",.obj P),("standings",.obj N)]))[P]?=some (.dct (dP 0 0)):=Ai (Cm p3) (by lia);have w4:((S3'++[Ob.lst Z]).set k (.ins "Listener" [("grammars",gsD gs),("wires",.obj W),("places",.obj P),("standings",.obj N)]))[W]?=some (.dct (lr (x true) (x false))):=Ai (Cm w3) (by lia);have g4:((S3'++[Ob.lst Z]).set k (.ins "Listener" [("grammars",gsD gs),("wires",.obj W),("places",.obj P),("standings",.obj N)]))[k]?=some (.ins "Listener" [("grammars",gsD gs),("wires",.obj W),("places",.obj P),("standings",.obj N)]):=A8 a3;have k4:Kp k S ((S3'++[Ob.lst Z]).set k (.ins "Listener" [("grammars",gsD gs),("wires",.obj W),("places",.obj P),("standings",.obj N)])):=k3.app.setk;show Hx _ _ Out.next ⟨[vw (.obj k),vw (gsD gs),vw (x true),vw (x false)],(S3'++[Ob.lst Z]).set k (.ins "Listener" [("grammars",gsD gs),("wires",.obj W),("places",.obj P),("standings",.obj S3'.length)])⟩;rw[<-hN];generalize (S3'++[Ob.lst Z]).set k (.ins "Listener" [("grammars",gsD gs),("wires",.obj W),("places",.obj P),("standings",.obj N)])=S4 at t4 p4 w4 g4 k4⊢;have n4:=DB t4;have n4k:=DB g4;clear a3;unfold gsD;symm;refine(Hd (λg:List GS=>D.lst (g.map GS.d)) gs S4 _).mono λr t' z9=>?_;clear 5 z9 e1 e2;subst e1;clear 5 t' ev S5;have e2:S5=S4++List.replicate gs.length (.lst []):=e2;symm;refine Bb (by rw[ui8,uf6,hL];lia) ?_;symm;have g5:S5[k]?=some (.ins "Listener" [("grammars",gsD gs),("wires",.obj W),("places",.obj P),("standings",.obj N)]):=by rw[e2];exact FS g4
 have l5:S5.length=S4.length+gs.length:=by rw[e2,uf3,uc7]
 refine Gf (Cm g5) (by show 4<1000;decide) ?_;have hk4:=k4.1;refine⟨rfl,by rw[e2];exact k4.appL.app.setk,W,P,N,S5.length,List.range' S4.length gs.length,?_⟩;show Lis k ((S5++[Ob.lst ((List.range' S4.length gs.length).map D.obj)]).set k (.ins "Listener" (liF gs W P N S5.length))) gs w (ls0 gs) k W P N S5.length (List.range' S4.length gs.length);have hin:∀h,h∈List.range' S4.length gs.length->S4.length<=h/\h<S4.length+gs.length:=λh z=>by rw[List.mem_range'_1] at z;exact z
 refine⟨A8 (Cm g5),?_,?_,?_,Ai DK (by lia),uf6,λi h hi=>?_,List.nodup_range',λz=>by have:=hin _ z;lia,λz=>by have:=hin _ z;lia,by lia,by lia,by lia,λh z=>by have:=hin h z;lia,ui8 ..,λi g z=>?_,ui8 ..,λi=>?_⟩
 .exact⟨x,by rw[e2];exact Ai (Cm (FS w4)) (by lia),λs=>(hx s).low λi o hi q=>by rw[e2,(k4.appL.app.setk).2 i (DB q) (by lia)];exact q⟩
 .rw[e2];exact Ai (Cm (FS p4)) (by lia)
 .rw[e2];exact Ai (Cm (FS (by rw[t4,hZ];rfl))) (by lia)
 .clear 5(ua7.mp hi)hl hv;rw[uf6] at hl;rw[List.getElem_range'] at hv;have hv:h=S4.length+i:=by lia
  subst hv;have e0:(ls0 gs).hd.getD i []=[]:=by
   show(gs.map λ_=>[]).getD i []=[];rw[ua6,ug1]
   cases gs[i]?<;>rfl
  rw[e0];refine Ai (Cm ?_) (by lia);rw[e2,ua4 (by lia),show S4.length+i-S4.length=i by lia,ub3,hX hl]
 .have e0:(ls0 gs).st.getD i 0=0:=by
   show(gs.map λ_=>0).getD i 0=0;rw[ua6,ug1]
   cases gs[i]?<;>rfl
  rw[e0];exact(hg g (ud8 z)).ne
 .have e0:(ls0 gs).hd.getD i []=[]:=by
   show(gs.map λ_=>[]).getD i []=[];rw[ua6,ug1]
   cases gs[i]?<;>rfl
  rw[e0];exact un7 _
structure HrdAt(S:List Ob)(H:Nat)(hs:List Nat)(hd:List (List D)):Prop where
 ih:S[H]?=some (.lst (hs.map .obj))
 hl:hs.length=hd.length
 hh:∀(i h:Nat),hs[i]?=some h->S[h]?=some (.lst (hd.getD i []))
def SV(f:Fn):Prop:=∀(S:List Ob) (wv:D) (n:Int) (side:Str) (ws:List (Str×Sh×Int)) (w:List Nat) (p:Nat),Wir S wv w->GSOk n (.st side ws)->p<=w.length->w.length<=50000->(∀j c,Bf side ws w p≠(.broken j,c))->PureS S f [(GS.st side ws).d,wv,.int p] (Hq side ws w p)
theorem V6(hc:HI c 3):SV (fnOf 3 6 (DX c)):=by
 intro S wv n side ws w p hv hgs hp hwl hnb
 cases hgs with
 |@st _ _ hs1 hs2 hs3 hs4 hs5=>
 refine Ap rfl ?_;unfold DX;rw[GS.d]
 cases hb:w[p]? with
 |none=>
   have hpl:¬p<w.length:=by rw[ub0] at hb;lia
   rw[show Hq side ws w p=.non by unfold Hq Bf;rw[hb]];symm;refine KC hv ?_;symm;refine ES (by simp;lia) ?_;symm;exact⟨rfl,rfl⟩
 |some cc=>
   obtain⟨hpl,_⟩:=ua7.mp hb;symm;refine KC hv ?_;symm;refine Cc (by simp;lia) ?_;symm;refine JI hv hb ?_;symm;rw[ui8]
   cases hw:ws[cc]? with
   |none=>exact(hnb p 0 (by unfold Bf;simp only[hb,hw])).elim
   |some wd=>
     obtain⟨hcl,_⟩:=ua7.mp hw;have hwo:=hs5 wd (ud8 hw);have hgd:ws.getD cc (Str.ofString "",.nothing,0)=wd:=by rw[ua6,hw];rfl
     have hrd:=hc wd.2.1 hwo.dep hwo.ok S wv w (p+1) hv hpl;refine Cc (by simp;lia) ?_;symm;refine JI hv hb ?_;symm;refine AR (IB hw) ?_;unfold wdD;dsimp only;symm
     cases e:(pSh 3 wd.2.1).run w (p+1) with
     |told v b=>
       rw[show Hq side ws w p=.tup [.tup [.str side,.str wd.1,v],.int wd.2.2,.int b] by unfold Hq Bf;simp only[hb,hw,e,hgd]];rw[e,rrD] at hrd;refine hrd.use Io ?_;symm;exact⟨rfl,rfl⟩
     |short=>
       rw[show Hq side ws w p=.non by unfold Hq Bf;simp only[hb,hw,e]];rw[e,rrD] at hrd;refine hrd.use EF ?_;symm;exact⟨rfl,rfl⟩
     |broken k=>exact(hnb k cc (by unfold Bf;simp only[hb,hw,e])).elim
def EJ(f:Fn):Prop:=∀(n0:Nat) (S:List Ob) (gs:List (List GS)) (w:Bool->List Nat) (σ:Ls) (k W P N H:Nat) (hs:List Nat) (s:Bool),Ok2 gs w->(∀s,σ.p s<=(w s).length)->Lis n0 S gs w σ k W P N H hs->(∀j,σ.nx gs w s≠.brk j)->PureS S f [.obj k,.str (sd s)] (nwD (σ.nx gs w s))
variable{cm:Fn}
theorem RY{ce:Fn}(hm:SV cm)(he:IE ce):EJ (fnOf 2 5 (CP cm ce)):=by
 intro n0 S gs w σ k W P N H hs s ⟨hg,hgl,hw⟩ hp R hnb;have hws:=hw s;have hps:=hp s;refine Ap rfl ?_;unfold CP;symm;refine Df R.ik rfl ?_;symm;clear 5 R.iw x iw hx;have hx:=(hx s).wir;refine Du iw (lrF x s) ?_;symm;refine Df R.ik rfl ?_;symm;refine Du R.ip (lrF (λs=>.int (σ.p s:Nat)) s) ?_;symm;refine KC hx ?_;symm;unfold Ls.nx at hnb⊢
 cases hb:(w s)[σ.p s]? with
 |none=>
   have hpl:¬σ.p s<(w s).length:=by rw[ub0] at hb;lia
   rw[Hr hb];refine ES (by simp;lia) ?_;symm;exact⟨rfl,rfl⟩
 |some j=>
   obtain⟨hpl,_⟩:=ua7.mp hb;refine Cc (by simp;lia) ?_;symm;refine JI hx hb ?_;symm;refine Df R.ik rfl ?_;unfold gsD;symm;rw[ui8]
   cases h2:gs[j]? with
   |none=>exact(hnb _ (Wm hb h2)).elim
   |some g=>
     obtain⟨hjl,_⟩:=ua7.mp h2;have hgo:=hg g (ud8 h2);have hlo:=R.lo j g h2;have hgx:g[σ.st.getD j 0]?=some (AA g (σ.st.getD j 0)):=by unfold AA;rw[ua6 (l:=g),ub2 hlo];rfl
     have hso:=hgo.all _ (ud8 hgx);refine Cc (by simp;lia) ?_;symm;refine Df R.ik rfl ?_;unfold gsD;symm;refine JI hx hb ?_;symm;refine AR (B7 (d:=.lst (g.map GS.d)) (by rw[ug1,h2];rfl)) ?_;symm;refine Df R.ik rfl ?_;symm;refine JI hx hb ?_;symm;refine N0 R.it (Il (by rw[R.ls];exact hjl)) ?_;symm;refine AR (B7 (d:=(AA g (σ.st.getD j 0)).d) (by rw[ug1,hgx];rfl)) ?_;symm;refine(he _ _ hso).use ?_;symm
     cases h3:AA g (σ.st.getD j 0) with
     |fin=>exact(hnb _ (Wj hb h2 h3)).elim
     |st y ws=>
       rw[h3] at hso;refine Cc rfl ?_;rw[GS.d];symm
       by_cases q:y=sd s
       .subst q;have hm':=hm S (x s) _ _ ws (w s) (σ.p s + 1) hx hso hpl (by lia) λj c z=>hnb j (by
         unfold nxR;rw[hb];dsimp only;rw[h2];dsimp only;rw[h3];dsimp only;rw[hX rfl,z])
        have hx1:=Wk hb h2 h3 (λc v e z=>(Pf hso (OH z)).1);refine Cc (by simp) ?_;symm;refine hm'.use ⟨?_,rfl⟩;rw[<-hx1]
        cases e9:nxR gs (w s) (sd s) (σ.p s) σ.st with
        |brk j=>exact(hnb _ e9).elim
        |stop=>rfl
        |msg a b c d=>rfl
       .rw[Wl hb h2 h3 q];refine ES (by simp[q]) ?_;symm;exact⟨rfl,rfl⟩
theorem T5(hc:EJ c):EJ (fnOf 2 2 (BM c)):=by
 intro n0 S gs w σ k W P N H hs s hok hp R hnb;refine Ap rfl ?_;unfold BM;symm;refine⟨k,_,rfl,R.ik,?_⟩;symm;exact(hc n0 S gs w σ k W P N H hs s hok hp R hnb).use ⟨rfl,rfl⟩
def HH(f:Fn):Prop:=∀(n0:Nat) (S:List Ob) (gs:List (List GS)) (w:Bool->List Nat) (σ:Ls) (k W P N H:Nat) (hs:List Nat) (s:Bool),Ok2 gs w->(∀s,σ.p s<=(w s).length)->n0<=S.length->Lis n0 S gs w σ k W P N H hs->(∀τ,Run gs w σ τ->∀j,τ.nx gs w s≠.brk j)->
 Wf f [.obj k,.str (sd s)] S λr S'=>Low n0 S S'/\∃τ,Run gs w σ τ/\(∀a b c d,τ.nx gs w s≠.msg a b c d)/\Lis n0 S' gs w τ k W P N H hs/\(r=.bl true/\σ.p s < τ.p s\/r=.bl false/\τ=σ)
theorem Oc(hc:EJ c):HH (fnOf 2 5 (C6 c)):=by
 intro n0 S gs w σ k W P N H hs s hok hp hn0 R hnb;have hL:LIM=100000:=rfl;refine Ap rfl ?_;unfold C6;symm;refine Df R.ik rfl ?_;symm;refine Du R.ip (lrF (λs=>.int (σ.p s:Nat)) s) ?_;symm;refine⟨k,_,rfl,R.ik,?_⟩;symm;refine(hc n0 S gs w σ k W P N H hs s hok hp R (hnb σ (.refl _))).use ?_;symm;refine G0 (λn t=>∃τ S' e4,t=⟨[vw (.obj k),vw (.str (sd s)),vw (.int (σ.p s:Nat)),vw (nwD (τ.nx gs w s)),e4],S'⟩/\Run gs w σ τ/\Lis n0 S' gs w τ k W P N H hs/\Low n0 S S'/\(w s).length<=n+τ.p s/\(τ=σ\/σ.p s < τ.p s)) ?_ JN (w s).length _ (by have:=hok.2.2 s;show _<1000000;lia) ⟨σ,S,none,rfl,.refl _,R,.refl hn0,by lia,.inl rfl⟩;rintro n t ⟨τ,S',e4,rfl,r,R',L,hn,ho⟩;have hp':=r.inn hp
 cases q:τ.nx gs w s with
 |msg kk m th e=>
   obtain⟨g,ws,v,cc,h1,h2,h3,h4,_,_⟩:=EG q;have hle:=Gj q;have hkl:kk<gs.length:=(ua7.mp h2).1;obtain⟨h,hk⟩:∃h,hs[kk]?=some h:=⟨_,ub2 (by rw[R'.hl];exact hkl)⟩;have hS:=R'.hh kk h hk;have hm:h∈hs:=ud8 hk;have R2:=R'.go hok.1 q hk;have nk:h≠k:=Bi hS R'.ik (by simp);have nP:h≠P:=Bi hS R'.ip (by simp);have nN:h≠N:=λz=>R'.nN (by rw[<-z];exact hm);have Nk:N≠k:=Bi R'.it R'.ik (by simp);have NP:N≠P:=Bi R'.it R'.ip (by simp);rw[nwD];symm;refine⟨n-1,by have:τ.p s+2<=e:=hle.1;lia,?_⟩;symm;refine Df R'.ik rfl ?_;symm;clear 5 R'.iw x iw hx;refine Du iw (lrF x s) ?_;symm;refine Df R'.ik rfl ?_;symm;refine Du R'.ip (lrF (λs=>.int (τ.p s:Nat)) s) ?_;symm;refine JI (hx s).wir h1 ?_;symm;refine Je (k:=h) ?_;symm;refine Df R'.ik rfl ?_;symm;refine N0 R'.ih (i:=kk) (d:=.obj h) (by rw[ug1,hk];rfl) ?_;refine⟨rfl,_,hS,?_⟩;symm;refine⟨_,τ.hd.getD kk []++[m],hS,?_,?_⟩
   .have h5:=R'.fw kk;have h6:=hp' true;have h7:=hp' false;have h8:=hok.2.2 true;have h9:=hok.2.2 false;simp only[BR];rw[hX (by rw[hL];lia)]
   symm;refine Df (Ai R'.ik nk) rfl ?_;symm;refine ZP (Ai R'.it nN) (by unfold nD;rw[ui8,R'.ls];exact hkl) ?_;symm;refine Df (Ai (Ai R'.ik nk) Nk) rfl ?_;symm;refine UK (Ai (Ai R'.ip nP) NP) (by show 2<100000;decide) ?_;rw[XV];symm;refine⟨k,_,rfl,R2.ik,?_⟩;symm;have st:Stp gs w τ s (τ.go s kk m th e):=⟨kk,m,th,e,q,rfl⟩;have r2:Run gs w σ (τ.go s kk m th e):=r.trans (.one st);have pe:(τ.go s kk m th e).p s=e:=hX rfl;refine(hc n0 _ gs w _ k W P N H hs s hok (r2.inn hp) R2 (hnb _ r2)).use ?_;symm;refine⟨τ.go s kk m th e,_,_,rfl,r2,R2,((L.set (R'.lh h hm)).set R'.lN).set R'.lP,by rw[pe];have:τ.p s+2<=e:=hle.1;lia,.inr (by rw[pe];have:=r.grow.1 s;have:τ.p s+2<=e:=hle.1;lia)⟩
 |stop=>
   rw[show nwD _=D.non from rfl];symm;rw[show(!FE D.non)=false from rfl];dsimp only;symm;refine Df R'.ik rfl ?_;symm;refine Du R'.ip (lrF (λs=>.int (τ.p s:Nat)) s) ?_;symm;refine⟨L,τ,r,(λa b c d z=>by rw[q] at z;cases z),R',?_⟩
   rcases ho with rfl|ho
   .exact .inr ⟨by rw[uk3 (by lia)],rfl⟩
   .exact .inl ⟨by rw[ul0 (by lia)],ho⟩
 |brk j=>exact(hnb τ r j q).elim
def KJ(f:Fn):Prop:=∀(S:List Ob) (gs:List (List GS)) (w:Bool->List Nat) (x:Bool->D),Ok2 gs w->(∀s,WirB S.length S (x s) (w s))->(∀τ,Run gs w (ls0 gs) τ->∀s j,τ.nx gs w s≠.brk j)->Wf f [gsD gs,x true,x false] S λr S'=>Gr S S'/\∃σ H hs,End gs w σ/\r=.tup [.obj H,.tup [.int (σ.p true:Nat),.int (σ.p false:Nat)]]/\HrdAt S' H hs σ.hd
theorem Td{cr ci:Fn}(hn:EJ cn)(hr:HH cr)(hi:Ps ci):KJ (fnOf 3 4 (DY cn cr ci)):=by
 intro S gs w x hok hx hnb;have hL:LIM=100000:=rfl;refine Ap rfl ?_;unfold DY;symm;refine(hi _ S.length gs w x hok (λs=>(hx s).low λi o _ q=>FS q) DK).mono λr S1 z9=>?_;clear 5 z9 e K W P N H hs R;refine⟨e,?_⟩;have G1:Gr S S1:=⟨by have:=K.1;rw[uf3] at this;lia,λi h=>by rw[K.2 i (by rw[uf3];lia) (by lia)];exact ua8 h⟩;have hn0:S.length<=S1.length:=G1.1;symm;refine G0 (λn t=>∃τ S',t=⟨[vw (gsD gs),vw (x true),vw (x false),vw (.obj S.length)],S'⟩/\Run gs w (ls0 gs) τ/\Lis S.length S' gs w τ S.length W P N H hs/\Low S.length S1 S'/\(w true).length+(w false).length<=n+τ.p true+τ.p false) ?_ JN ((w true).length+(w false).length) _ (by have:=hok.2.2 true;have:=hok.2.2 false;show _<1000000;lia) ⟨ls0 gs,S1,rfl,.refl _,R,.refl hn0,by lia⟩;rintro n t ⟨τ,S',rfl,r,R',L,hm⟩;have hp':∀s,τ.p s<=(w s).length:=r.inn λ_=>un7 _;symm;refine⟨S.length,_,rfl,R'.ik,?_⟩;symm;refine(hr S.length S' gs w τ S.length W P N H hs true hok hp' L.1 R' (λυ z j=>hnb υ (r.trans z) true j)).mono λq S2 z9=>?_;clear 5 z9 L2 τ2 r2 x2 R2 o2;rcases o2 with⟨rfl,lt⟩|⟨rfl,rfl⟩
 .symm;have h1:=r2.grow.1 false;have h2:=(r.trans r2).inn (λ_=>un7 _) true;refine⟨n-1,by have:=hp' true;have:=hp' false;lia,?_⟩;symm;exact⟨τ2,S2,rfl,r.trans r2,R2,L.trans L2,by lia⟩
 .symm;refine⟨S.length,_,rfl,R2.ik,?_⟩;symm;refine(hr S.length S2 gs w τ2 S.length W P N H hs false hok hp' L2.1 R2 (λυ z j=>hnb υ (r.trans z) false j)).mono λq S3 z9=>?_;clear 5 z9 L3 τ3 r3 x3 R3 o3;rcases o3 with⟨rfl,lt⟩|⟨rfl,rfl⟩
  .symm;have h1:=r3.grow.1 true;refine⟨n-1,by have:=hp' true;have:=hp' false;have:=(r.trans r3).inn (λ_=>un7 _) false;lia,?_⟩;symm;exact⟨τ3,S3,rfl,r.trans r3,R3,(L.trans L2).trans L3,by lia⟩
  .symm;have hE:End gs w τ3:=⟨r,λs=>by cases s;exact x3;exact x2⟩;have hG:Gr S S3:=⟨L3.1,λi h=>(((L.trans L2).trans L3).2 i h).trans (G1.2 i h)⟩;have hfw:=R3.fw;refine⟨S.length,_,rfl,R3.ik,?_⟩;symm;refine(hn S.length S3 gs w τ3 S.length W P N H hs true hok hp' R3 (λj=>hnb τ3 r true j)).use ?_;symm;refine⟨S.length,_,rfl,R3.ik,?_⟩;symm;refine(hn S.length S3 gs w τ3 S.length W P N H hs false hok hp' R3 (λj=>hnb τ3 r false j)).use ?_;symm;refine Df R3.ik rfl ?_;symm;refine Df R3.ik rfl ?_;symm;refine Du R3.ip (lrF (λs=>.int (τ3.p s:Nat)) true) ?_;symm;refine Df R3.ik rfl ?_;symm;refine Du R3.ip (lrF (λs=>.int (τ3.p s:Nat)) false) ?_;symm;exact⟨hG,τ3,H,hs,hE,rfl,R3.ih,by rw[R3.hl,R3.ld],R3.hh⟩
def IF(f:Fn):Prop:=∀(g:List GS) (q p:Nat) (v:D),GOk g->MvOk g q p v->(As (wdAt g q p).2.1 v).length<=50000->Pure1 f [(AA g q).d,.int p,v] (.lst (.int p::As (wdAt g q p).2.1 v))
theorem RL(hc:ID c 3):IF (fnOf 3 3 (EE c)):=by
 intro g q p v hg hm hb S;have hL:LIM=100000:=rfl;refine Ap rfl ?_;unfold EE;clear 5(Fa hm.pl)side ws e hpl ew;have hw:=Ec hg hm.lt hm.pl;have hfit:=hm.fit;rw[e,GS.d];right;refine GY ?_;right;refine AR (IB ew) ?_;unfold wdD;right;refine(hc _ hw.dep hw.ok v hfit (by lia)).use ?_;refine⟨_,rfl,?_⟩;right;refine Bb (by rw[hL];show 1+_<=_;lia) ?_;exact⟨rfl,rfl⟩
theorem Go(g:List GS)(sd:Str)(mv:List Mv)(j:Nat):(AE g sd 0 (mv.take j)).length<=(AE g sd 0 mv).length:=by
 have e:AE g sd 0 mv=AE g sd 0 (mv.take j++mv.drop j):=by rw[ud1]
 rw[e,Fm,uf3];exact uh8 _ _
def At(w:List Nat)(a:Nat)(xs:List D):Prop:=∃p q,wD w=p++(xs++q)/\p.length=a
theorem At.left(h:At w a (xs++ys)):At w a xs:=by
 clear 5 h p q e l;exact⟨p,ys++q,by rw[e,ug3],l⟩
theorem At.right(h:At w a (xs++ys)):At w (a+xs.length) ys:=by
 clear 5 h p q e l;exact⟨p++xs,q,by rw[e,ug3,ug3],by rw[uf3,l]⟩
theorem At.head{w:List Nat}{a c:Nat}{xs:List D}(h:At w a (.int (c:Int)::xs)):w[a]?=some c/\At w (a+1) xs:=by
 refine⟨?_,At.right (xs:=[.int (c:Int)]) h⟩;clear 5 h p q e l;have e1:(wD w)[a]?=some (.int (c:Int)):=by rw[e,ua4 (by lia),l,un4];rfl
 unfold wD at e1;rw[ug1] at e1
 cases e2:w[a]? with
 |none=>rw[e2] at e1;cases e1
 |some x=>
   rw[e2] at e1;injection e1 with e1
   injection e1 with e1
   rw[show x=c by lia]
theorem Nh{lo:Int}{M:Nat}{w:List Nat}:∀(r x y a:Nat),y/256 ^ r=x->y<=M->At w a (nb r y)->(Fw lo M r x).run w a=.told (.int (lo+y)) (a+r)
 |0,x,y,a,hx,hy,h=>by
   rw[un0,un9] at hx;subst hx;rfl
 |r+1,x,y,a,hx,hy,h=>by
   rw[K9] at h;clear 5 h.head h1 h2;have e:x*256+y/256 ^ r%256=y/256 ^ r:=by
    rw[<-hx,un1,<-uc4];lia
   rw[Fw,AN h1,hX (ul0 (by rw[e,Nat.pow_mul];exact Nat.div_le_div_right hy)),Nh r _ y (a+1) e.symm hy h2]
   congr 1
   lia
theorem NK{w:List Nat}:∀(xs cs:List Nat) (a:Nat),(∀c∈xs,BC c=true)->At w a (xs.map λ(n:Nat)=>D.int (n:Int))->(F7 xs.length cs).run w a=.told (.str ⟨(cs++xs).toArray⟩) (a+xs.length)
 |[],cs,a,_,_=>by rw[uj0];rfl
 |x::r,cs,a,hs,h=>by
   clear 5(At.head h)h1 h2;rw[uh1,F7,AN h1,hX (hs x uf0),NK r (cs++[x]) (a+1) (λc hc=>hs c (ud5 _ hc)) h2,ug3]
   congr 1
   lia
theorem M6{w:List Nat}{s:Sh}{p:Rd}(hp:∀(v:D) (a:Nat),Ag s v=true->At w a (As s v)->p.run w a=.told v (a+(As s v).length)):∀(es ds:List D) (a:Nat),(∀e∈es,Ag s e=true)->At w a (es.map λd=>As s d).flatten->(Fv p es.length ds).run w a=.told (.lst (ds++es)) (a+((es.map λd=>As s d).flatten).length)
 |[],ds,a,_,_=>by rw[uj0];rfl
 |e::r,ds,a,hf,h=>by
   rw[ul3,ug2] at h;rw[uh1,Fv,B5,hp e a (hf e uf0) h.left,RR.thn,M6 hp r (ds++[e]) _ (λx hx=>hf x (ud5 _ hx)) h.right,ug3,ul3,ug2,uf3]
   congr 1
   lia
theorem SO:∀(k n:Nat),wid n<=k->n<256 ^ k
 |0,n,h=>by
   by_cases z:n=0
   .subst z;decide
   .rw[JJ (by lia)] at h;lia
 |k+1,n,h=>by
   by_cases z:n=0
   .subst z;exact Nat.pow_pos (by decide)
   .rw[JJ (by lia)] at h;have:=SO k (n/256) (by lia);rw[Nat.div_lt_iff_lt_mul (by decide)] at this;rw[un1];exact this
theorem VW{o:Str}(h:Ic o=true):o=Str.ofString "of":=by
 unfold Ic at h;simpa using h
theorem back:∀(n:Nat) (s:Sh),s.depth<=n->wf s=true->∀(w:List Nat) (v:D) (a:Nat),Ag s v=true->At w a (As s v)->(pSh n s).run w a=.told v (a+(As s v).length)
 |0,s,hs,_,_,_,_,_,_=>absurd s.depth_pos (by lia)
 |n+1,s,hs,hwf,w,v,a,hf,h=>by
   cases s with
   |nothing=>
     have:v=.non:=by cases v<;>simp[Ag,FE] at hf<;>rfl
     subst this;rfl
   |number lo hi=>
     simp only[wf,uh5,ug8] at hwf
     cases v with
     |int i=>
       simp only[Ag,uh5,ug8] at hf;rw[As] at h⊢;rw[pSh,Nh (wid (hi-lo).toNat) 0 (i-lo).toNat a ?_ (by lia) h,Nc]
       .congr 2;lia
       .exact Nat.div_eq_of_lt (Nat.lt_of_le_of_lt (show(i-lo).toNat<=(hi-lo).toNat by lia) (SO _ _ (un6 _)))
     |_=>simp[Ag] at hf
   |text q=>
     cases v with
     |str x=>
       simp only[Ag,uh5,ug8,uh9] at hf;rw[As] at h⊢;clear 5(At.head h)h1 h2;rw[pSh,AN h1,hX (ul0 hf.1)];have hl:x.length=x.cps.toList.length:=rfl;rw[hl,NK x.cps.toList [] (a+1) hf.2 h2,uj5,uh1,ui8]
       congr 1
       lia
     |_=>simp[Ag] at hf
   |list s q=>
     simp only[wf,uh5,ug8] at hwf;rw[Sh.depth] at hs
     cases v with
     |lst ds=>
       rw[Ag,uh5,ug8,uh9] at hf;rw[As] at h⊢;clear 5(At.head h)h1 h2;rw[pSh,AN h1,hX (ul0 hf.1),M6 (λv a=>back n s (by lia) hwf.2 w v a) ds [] (a+1) hf.2 h2,uj5,uh1]
       congr 1
       lia
     |_=>simp[Ag] at hf
   |pair s r=>
     simp only[wf,uh5] at hwf;rw[Sh.depth] at hs;unfold Ag at hf
     split at hf
     .rw[uh5] at hf;rw[As] at h⊢;rw[pSh,B5,back n s (by lia) hwf.1 w _ a hf.1 h.left,RR.thn,B5,back n r (by lia) hwf.2 w _ _ hf.2 h.right,RR.thn,Rd.run,uf3,ul9]
     .cases hf
   |choice ss=>
     simp only[wf,uh5,ug8] at hwf;rw[Sh.depth] at hs;unfold Ag at hf
     split at hf
     .next o k x=>
      simp only[uh5,ug8] at hf;clear 5(ub6 hf.1.2.1)j rfl;have hj:j<ss.length:=by have:=hf.1.2.2;lia
      have e1:ss[j]?=some ss[j]:=ub2 hj;have h2:=hf.2;rw[ug7,B0 ss _ _ _ e1] at h2;rw[As,ug7,El ss _ _ _ e1] at h⊢;clear 5(At.head h)h3 h4;have ho:o=Str.ofString "of":=VW hf.1.1;subst ho;rw[pSh,AN h3,hX (ul0 hj),ua6,e1,ui3,B5,back n _ (um5 (B1 ss _ _ e1) (by lia)) (DS hwf.2 _ (ui1 hj)) w x (a+1) h2 h4,RR.thn,Rd.run,uh1]
      congr 1
      lia
     .cases hf
def Gw(S S':List Ob):Prop:=S.length<=S'.length/\∀i,i<S.length->S'[i]?=S[i]?
mutual
inductive Ow(S:List Ob):D->D->List Nat->Prop
 |non:Ow S .non .non []
 |int (i:Int):Ow S (.int i) (.int i) []
 |str (x:Str):Ow S (.str x) (.str x) []
 |tup {ds vs:List D}{fp:List Nat}:Ows S ds vs fp->Ow S (.tup ds) (.tup vs) fp
 |obj {k:Nat}{ds vs:List D}{fp:List Nat}:S[k]?=some (.lst ds)->Ows S ds vs fp->k∉fp->Ow S (.obj k) (.lst vs) (k::fp)
inductive Ows(S:List Ob):List D->List D->List Nat->Prop
 |nil:Ows S [] [] []
 |cons {d v:D}{fp fp':List Nat}{ds vs:List D}:Ow S d v fp->Ows S ds vs fp'->(∀k∈fp,k∉fp')->Ows S (d::ds) (v::vs) (fp++fp')
end
variable{tst:M Bool}
theorem N4{g:Gd}{st:D->M Unit}{P:List D->T->Prop}(h:Gon g t.S)(q:P [] t):W (compG g st tst elt []) t P:=by
 unfold compG;exact W_bnd.mpr ⟨_,_,J0 h,W_ret.mpr q⟩
theorem Mx{g:Gd}{st:D->M Unit}{d:D}{P:List D->T->Prop}(h:Gon g t.S)(q:W (st d) t λ_ t1=>W tst t1 λk t2=>
 if k=true then W elt t2 λx t3=>W (compG g st tst elt r) t3 λxs t4=>P (x::xs) t4 else W (compG g st tst elt r) t2 P):W (compG g st tst elt (d::r)) t P:=by
 rw[compG];refine W_bnd.mpr ⟨_,_,J0 h,W_bnd.mpr (q.mono λ_ t1 q=>W_bnd.mpr (q.mono λk t2 q=>?_))⟩
 split
 .next hk=>
  rw[hX hk] at q;exact W_bnd.mpr (q.mono λx t3 q=>W_bnd.mpr (q.mono λxs t4 q=>W_ret.mpr q))
 .next hk=>
  rw[ia hk] at q;exact q
theorem NZ{fr:List Nat}{f:M (Gd×List D)}{st:D->M Unit}{P:List D->T->Prop}(h:W f t λp t1=>W (compG p.1 st tst elt p.2) ⟨cenv n fr t1.env,t1.S⟩ λxs t2=>Hl xs.length (P xs {t1 with S:=t2.S})):W (Ey n fr f st tst elt) t P:=by
 refine W_bnd.mpr (h.mono λp t1 h=>?_);clear 5 h xs t2 e l q;refine⟨xs,_,?_,q⟩;simp only[e,hX l]
theorem DC{k:Nat}(h:S[k]?=some (.lst xs)):Gon (some (k,xs)) S:=λ_ _ z=>by cases z;exact h
def prt(g:List GS)(mv:List Mv)(i:Nat):List D:=match mv[i]? with
 |some (p,v)=>.int (p:Int)::As (wdAt g (AB g 0 (mv.take i)) p).2.1 v
 |none=>[]
structure Due(g:List GS)(mv:List Mv)(rl rr k:Nat):Prop where
 le:k<=mv.length
 a:(AE g sL 0 (mv.take k)).length<=rl
 b:(AE g sR 0 (mv.take k)).length<=rr
 z:k=mv.length\/(k<mv.length/\onS (AA g (AB g 0 (mv.take k))).side rl rr<onS (AA g (AB g 0 (mv.take k))).side (AE g sL 0 (mv.take k)).length (AE g sR 0 (mv.take k)).length+(prt g mv k).length)
noncomputable def nvO:Nat->D->Bool
 |_,.non=>true
 |_,.int _=>true
 |_,.str _=>true
 |n+1,.lst xs=>decide (xs.length<=1000)&&xs.all (nvO n)
 |n+1,.tup xs=>decide (xs.length<=1000)&&xs.all (nvO n)
 |_,_=>false
theorem EO:∀(n:Nat) (s:Sh),s.depth<=n->wf s=true->∀v,Ag s v=true->nvO n v=true
 |0,s,h,_,_,_=>absurd s.depth_pos (by lia)
 |n+1,s,hs,hw,v,hf=>by
   cases s with
   |nothing=>cases v<;>simp[Ag,FE] at hf;rfl
   |number lo hi=>cases v<;>simp[Ag] at hf;rfl
   |text q=>cases v<;>simp only[Ag,uf4] at hf;rfl
   |list s q=>
     simp only[wf,uh5,ug8] at hw;rw[Sh.depth] at hs
     cases v<;>simp only[Ag,uf4] at hf
     rename_i ds;simp only[uh5,ug8,uh9] at hf;rw[nvO,uh5,ug8,uh9];exact⟨by lia,λd hd=>EO n s (by lia) hw.2 d (hf.2 d hd)⟩
   |pair s r=>
     simp only[wf,uh5] at hw;rw[Sh.depth] at hs;unfold Ag at hf
     split at hf
     .rw[uh5] at hf;have h1:=EO n s (by lia) hw.1 _ hf.1;have h2:=EO n r (by lia) hw.2 _ hf.2;simp[nvO,h1,h2]
     .cases hf
   |choice ss=>
     simp only[wf,uh5,ug8] at hw;rw[Sh.depth] at hs;unfold Ag at hf
     split at hf
     .next o k x=>
      simp only[uh5,ug8] at hf;clear 5(ub6 hf.1.2.1)j rfl;have hj:j<ss.length:=by have:=hf.1.2.2;lia
      have e1:ss[j]?=some ss[j]:=ub2 hj;have h2:=hf.2;rw[ug7,B0 ss _ _ _ e1] at h2;have h3:=EO n _ (um5 (B1 ss _ _ e1) (by lia)) (DS hw.2 _ (ui1 hj)) x h2;have g1:∀o:Str,nvO n (.str o)=true:=λo=>by cases n<;>rfl
      have g2:∀i:Int,nvO n (.int i)=true:=λo=>by cases n<;>rfl
      simp[nvO,h3,g1,g2]
     .cases hf
theorem Nj:∀(n:Nat) (v:D),nvO n v=true->nvO (n+1) v=true
 |0,v,h=>by cases v<;>first|rfl|(simp[nvO] at h;done)
 |n+1,v,h=>by
   cases v<;>first|rfl|(simp[nvO] at h;done)|skip
   all_goals
    rw[nvO,uh5,uh9] at h;rw[nvO,uh5,uh9];exact⟨h.1,λd hd=>Nj n d (h.2 d hd)⟩
theorem GN{n:Nat}{v:D}(h:nvO n v=true):∀m,nvO (n+m) v=true
 |0=>h
 |m+1=>Nj _ _ (GN h m)
theorem OW:∀{xs:List D},(∀x∈xs,Be x=true)->E1 xs=true
 |[],_=>rfl
 |x::r,h=>by rw[E1,h x uf0,OW λy m=>h y (ud5 _ m)];rfl
theorem Nv:∀(n:Nat) (v:D),nvO n v=true->Be v=true
 |0,v,h=>by cases v<;>first|rfl|(simp[nvO] at h;done)
 |n+1,v,h=>by
   cases v<;>first|rfl|(simp[nvO] at h;done)|skip
   all_goals
    rw[nvO,uh5,uh9] at h;rw[Be];exact OW λx hx=>Nv n x (h.2 x hx)
theorem Kl:∀(n:Nat) (v:D),nvO n v=true->Rq n v
 |0,v,h=>by cases v<;>first|exact Sq|exact Iw|exact Km|(simp[nvO] at h;done)
 |n+1,v,h=>by
   cases v<;>first|exact Sq|exact Iw|exact Km|(simp[nvO] at h;done)|skip
   .rw[nvO,uh5,uh9] at h;exact Kn λx hx=>Kl n x (h.2 x hx)
   .rw[nvO,uh5,uh9] at h;exact GU λx hx=>Kl n x (h.2 x hx)
theorem O0{S:List Ob}:∀(n:Nat) (v:D),nvO n v=true->AT S n v=v
 |0,v,h=>by cases v<;>first|rfl|(simp[nvO] at h;done)
 |n+1,v,h=>by
   cases v<;>first|rfl|(simp[nvO] at h;done)|skip
   all_goals
    rw[nvO,uh5,uh9] at h;rw[AT]
    congr 1
    rw[ue6 λx hx=>O0 n x (h.2 x hx),List.map_id']
theorem ZK{g:Bool->Bool}{x d:D}(hx:AT t.S 16 x=d)(hy:AT t.S 16 y=d)(hn:nvO 16 d=true)(h:P (.bl (g true)) t):W (eqO g x y) t P:=
 ⟨_,_,by unfold eqO;rw[hx,hy,Nv 16 d hn,Kl 16 d hn EQD (by decide)];rfl,h⟩
def MgOk(m:D):Prop:=∃s n v,m=.tup [.str (sd s),.str n,v]/\nvO 3 v=true
theorem MgOk.nv{m:D}(h:MgOk m):nvO 4 m=true:=by
 clear 5 h s n v rfl h;rw[nvO,uh5,uh9];refine⟨rfl,λx hx=>?_⟩;rcases ul2.mp hx with rfl|hx
 .rfl
 rcases ul2.mp hx with rfl|hx
 .rfl
 rw[uf5.mp hx];exact h
theorem YH{n:Int}{side:Str}{ws:List (Str×Sh×Int)}{c:Nat}(hb:Pp w)(hs:GSOk n (.st side ws))(h:Bf side ws w p=(.told v e,c)):nvO 3 v=true:=by
 unfold Bf at h
 cases hx:w[p]? with
 |none=>rw[hx] at h;cases h
 |some y=>
   rw[hx] at h;dsimp only at h;obtain⟨hpl,_⟩:=ua7.mp hx
   cases hws:ws[y]? with
   |none=>rw[hws] at h;cases h
   |some wd=>
     rw[hws] at h;injection h with h1 h2
     cases hs with
     |@st _ _ hs1 hs2 hs3 hs4 hs5=>
       have hw:=hs5 wd (ud8 hws);exact EO 3 _ hw.dep hw.ok v (NC 3 _ hw.dep hw.ok w hb _ _ v hpl h1).1
def AllMg(l:List (List D)):Prop:=∀i,∀m∈l.getD i [],MgOk m
section
variable{gs:List (List GS)}{w:Bool->List Nat}
theorem Ur(hg:∀g∈gs,GOk g)(hb:∀s,Pp (w s)){σ τ:Ls}(r:Run gs w σ τ)(h:AllMg σ.hd):AllMg τ.hd:=by
 induction r with
 |refl=>exact h
 |@step σ τ ρ s h' r ih=>
   clear 5 h' k m th e h1 rfl;refine ih λi x hx=>?_;obtain⟨g,ws,v,c,_,h2,h3,h4,rfl,_⟩:=EG h1
   by_cases z:k=i
   .subst z
    by_cases hk:k < σ.hd.length
    .have hx:x∈σ.hd.getD k []++[D.tup [.str (sd s),.str (ws.getD c (Str.ofString "",.nothing,0)).1,v]]:=by
      have:=Cp (a:=σ.hd.getD k []++[D.tup [.str (sd s),.str (ws.getD c (Str.ofString "",.nothing,0)).1,v]]) (d:=[]) hk;rw[<-this];exact hx
     rcases ui6.mp hx with hx|hx
     .exact h k x hx
     .rw[uf5.mp hx];refine⟨s,_,v,rfl,YH (hb s) ((hg g (ud8 h2)).all (.st (sd s) ws) ?_) h4⟩;unfold AA at h3;rw[ua6] at h3
      cases e5:g[σ.st.getD k 0]? with
      |none=>rw[e5] at h3;cases h3
      |some y=>rw[e5,ui3] at h3;rw[<-h3];exact ud8 e5
    .have e0:(σ.go s k (.tup [.str (sd s),.str (ws.getD c (Str.ofString "",.nothing,0)).1,v]) th e).hd=σ.hd:=gg (by lia);rw[e0] at hx;exact h k x hx
   .have e0:(σ.go s k (.tup [.str (sd s),.str (ws.getD c (Str.ofString "",.nothing,0)).1,v]) th e).hd.getD i []=σ.hd.getD i []:=Bn z;rw[e0] at hx;exact h i x hx
theorem End.msgs(hg:∀g∈gs,GOk g)(hb:∀s,Pp (w s))(h:End gs w σ):AllMg σ.hd:=Ur hg hb h.1 λi m hm=>by
 have e0:(ls0 gs).hd.getD i []=[]:=by
  show(gs.map λ_=>[]).getD i []=[];rw[ua6,ug1]
  cases gs[i]?<;>rfl
 rw[e0] at hm
 cases hm
end
variable{H:Nat}{hs:List Nat}{hd:List (List D)}
theorem HrdAt.pairs(h:HrdAt S H hs hd):∃ps:List (Nat×List D),hs.map D.obj=ps.map (λp=>D.obj p.1)/\hd=ps.map (·.2)/\∀p∈ps,S[p.1]?=some (.lst p.2):=by
 refine⟨hs.zip hd,?_,?_,λp hp=>?_⟩
 .have:=gY (List.map D.obj) (List.map_fst_zip (l₁:=hs) (l₂:=hd) (by rw[h.hl];exact un6 _));rw[<-this,un3];rfl
 .exact(List.map_snd_zip (by rw[h.hl];exact un6 _)).symm
 .clear 5(ud2.mp hp)i hi;clear 5(List.getElem?_zip_eq_some.mp hi)h1 h2;have:=h.hh i p.1 h1;rw[ua6,h2] at this;exact this
theorem AllMg.mem{l:List (List D)}(h:AllMg l){x:List D}(hx:x∈l):∀m∈x,MgOk m:=by
 clear 5(ud2.mp hx)i hi;have:=h i;rw[ua6,hi] at this;exact this
theorem NB{l:List D}(h:∀m∈l,MgOk m)(n:Nat):l.map (AT S (4+n))=l:=by
 rw[ue6 λx hx=>O0 (4+n) x (GN (h x hx).nv n),List.map_id']
theorem HrdAt.res(h:HrdAt S H hs hd)(hm:AllMg hd)(n:Nat):AT S (4+n+2) (.obj H)=.lst (hd.map D.lst):=by
 clear 5 h.pairs ps e1 e2 e3;rw[AT,h.ih];dsimp only;rw[e1,e2,un3,un3]
 congr 1
 refine ue6 λp hp=>?_;show AT S (4+n+1) (.obj p.1)=.lst p.2;rw[AT,e3 p hp];dsimp only;rw[NB (hm.mem (by rw[e2];exact List.mem_map_of_mem hp))]
theorem TR(hm:AllMg hd)(hl:hd.length<=1000)(hf:∀i,(hd.getD i []).length<=1000):nvO 6 (.lst (hd.map D.lst))=true:=by
 rw[nvO,uh5,ug8,uh9,ui8];refine⟨hl,λx hx=>?_⟩;clear 5(un2.mp hx)l h1 rfl;rw[nvO,uh5,ug8,uh9];clear 5(ud2.mp h1)i hi;have:=hf i;rw[ua6,hi] at this;exact⟨this,λm h2=>(hm.mem h1 m h2).nv⟩
set_option genInjectivity false in structure Sx where
 rest:Int
 dig:Bool
 cnt:Int
noncomputable def sxL(a b c:D):List (Key×D):=[(.inr (Str.ofString "rest"),a),(.inr (Str.ofString "digits"),b),(.inr (Str.ofString "count"),c)]
def Sx.l(s:Sx):List (Key×D):=sxL (.int s.rest) (.bl s.dig) (.int s.cnt)
def SxB(r:Nat)(s:Sx):Prop:=0<=s.cnt/\s.cnt+r<=1000000000000000000000000000000
theorem Hf:AV xs none (some (n:Int))=xs.take n:=by
 by_cases h:n<=xs.length
 .rw[Tn (by lia) (by lia),ug7]
 .have:HT.sIx xs.length xs.length (some (n:Int))=xs.length:=by simp only[HT.sIx];rw[ia (by lia)];lia
  unfold AV;rw[this];simp only[HT.sIx,uk8,Nat.sub_zero];rw[ui4,uc3 (by lia)]
theorem KG{k:Nat}{lo hi:Option Int}(e:t.S[k]?=some (.lst ds))(h:P (.lst (AV ds lo hi)) t):L2.W (Hy (.obj k) lo hi) t P:=⟨_,_,by simp only[Hy,e],h⟩
theorem Xp{k:Nat}(e:t.S[k]?=some (.lst ds))(h:P (.int (ds.length:Nat)) t):L2.W (AC [.obj k]) t P:=W_len_obj.mpr ⟨ds,e,h⟩
def StK(K r:Nat)(S S':List Ob):Prop:=Kp K S S'/\∃s:Sx,S'[K]?=some (.dct s.l)/\SxB r s
def Fst(gs:List (List GS))(w:Bool->List Nat)(σ:Ls)(S:List Ob)(a b:D):Prop:=match E8 gs w σ with
 |some (s,j)=>a=.non/\b=.tup [.str (sd s),.int (j:Nat)]
 |none=>∃H hs,a=.tup [.obj H,.tup [.int (σ.p true:Nat),.int (σ.p false:Nat)]]/\b=.non/\HrdAt S H hs σ.hd
structure ValC(K r:Nat)(S0:List Ob)(s:Sh)(c:Nat)(v:D)(S':List Ob):Prop where
 fit:Ag s v=true
 len:(As s v).length<=c
 st:StK K r S0 S'
structure GSN(n:Int)(x:GS):Prop where
 ok:GSOk n x
 nm:∀w∈x.ws,w.1.length<=1000
structure GON(g:List GS):Prop where
 ok:GOk g
 nm:∀x∈g,∀w∈x.ws,w.1.length<=1000
local macro_rules | `(tactic| walk_at"y1")=>`(tactic| first
 |walk_at"x1" |clear 31 N1)
noncomputable def gAt(gs:List (List GS))(i:Nat):List GS:=gs.getD i []
noncomputable def hAt(hs:List Nat)(i:Nat):Nat:=hs.getD i 0
def sayD(gs:List (List GS))(hs:List Nat)(i p:Nat)(v:D):D:=.tup [.int (i:Nat),.str (AA (gAt gs i) (hAt hs i)).side,.str (wdAt (gAt gs i) (hAt hs i) p).1,v]
def Zo(gs:List (List GS))(hs:List Nat)(i p:Nat)(v:D):Nat:=(As (wdAt (gAt gs i) (hAt hs i) p).2.1 v).length
inductive Said(gs:List (List GS)):List Nat->List D->Nat->Prop
 |nil:Said gs (List.replicate gs.length 0) [] 0
 |snoc {hs:List Nat}{ds:List D}{n i p:Nat}{v:D}:Said gs hs ds n->i<gs.length->MvOk (gAt gs i) (hAt hs i) p v->Said gs (hs.set i (AZ (gAt gs i) (hAt hs i) p)) (ds++[sayD gs hs i p v]) (n+(2+Zo gs hs i p v))
theorem Cb(h:∀g∈gs,GOk g){i:Nat}(hi:i<gs.length):GOk (gAt gs i):=by
 unfold gAt;rw[ua6,ub2 hi];exact h _ (ui1 hi)
theorem EA(hi:i<gs.length):atI (gs.map λg=>D.lst (g.map GS.d)) (i:Int)=some (.lst ((gAt gs i).map GS.d)):=by
 refine B7 ?_;unfold gAt;rw[ug1,ua6,ub2 hi];rfl
theorem Yo(hi:i<hs.length):atI (nD hs) (i:Int)=some (.int ((hAt hs i:Nat):Int)):=B7 (Il hi)
theorem Said.len(h:Said gs hs ds n):hs.length=gs.length:=by
 induction h with
 |nil=>rw[uc7]
 |snoc _ _ _ ih=>rw[uj3];exact ih
theorem K3{x:Nat}(hi:i<hs.length):hAt (hs.set i x) j=if j=i then x else hAt hs j:=by
 unfold hAt;rw[ua6,ua6]
 by_cases q:j=i
 .subst q;rw[hX rfl,ub9 hi];rfl
 .rw[ia q,ud7 (Ne.symm q)]
theorem Said.lt{gs:List (List GS)}(hg:∀g∈gs,GOk g){hs:List Nat}{ds:List D}{n:Nat}(h:Said gs hs ds n):∀i,i<gs.length->hAt hs i<(gAt gs i).length:=by
 induction h with
 |nil=>
   intro i hi;have e:hAt (List.replicate gs.length 0) i=0:=by
    unfold hAt;rw[ua6,ub3,hX hi];rfl
   rw[e];exact(Cb hg hi).ne
 |@snoc hs ds n i p v h0 hi hm ih=>
   intro j hj;rw[K3 (by rw[h0.len];exact hi)]
   by_cases q:j=i
   .subst q;rw[hX rfl];have hw:=Ec (Cb hg hi) hm.lt hm.pl;have h1:=hw.lo;have h2:=hw.hi;unfold AZ;lia
   .rw[ia q];exact ih j hj
theorem RQ(hs:List Nat)(i x:Nat):(nD hs).set i (.int (x:Int))=nD (hs.set i x):=by
 unfold nD;rw[List.map_set]
inductive SaidF(gs:List (List GS)):List Nat->List D->Nat->List Nat->Prop
 |nil {hs:List Nat}:SaidF gs hs [] 0 hs
 |cons {hs he:List Nat}{ds:List D}{n i p:Nat}{v:D}:hs.length=gs.length->i<gs.length->MvOk (gAt gs i) (hAt hs i) p v->SaidF gs (hs.set i (AZ (gAt gs i) (hAt hs i) p)) ds n he->SaidF gs hs (sayD gs hs i p v::ds) (n+(2+Zo gs hs i p v)) he
theorem Lm{n:Int}{side:Str}{ws:List (Str×Sh×Int)}(h:GSOk n (.st side ws)):∃s,side=sd s:=by
 cases h with
 |st h1 _ _ _ _=>exact h1.elim (λz=>⟨true,z⟩) λz=>⟨false,z⟩
mutual
noncomputable def vz:D->Nat
 |.str x=>1+x.length
 |.lst xs=>1+vzs xs
 |.tup xs=>9+vzs xs
 |_=>9
noncomputable def vzs:List D->Nat
 |[]=>0
 |d::r=>vz d+vzs r
end
structure HsOk(gs:List (List GS))(hs:List Nat):Prop where
 len:hs.length=gs.length
 lt:∀i,i<gs.length->hAt hs i<(gAt gs i).length
theorem Ia(hg:∀g∈gs,GOk g):HsOk gs (List.replicate gs.length 0):=⟨(Said.nil (gs:=gs)).len,(Said.nil (gs:=gs)).lt hg⟩
theorem HsOk.next(hg:∀g∈gs,GOk g)(h:HsOk gs hs){i p:Nat}{v:D}(hi:i<gs.length)(hm:MvOk (gAt gs i) (hAt hs i) p v):HsOk gs (hs.set i (AZ (gAt gs i) (hAt hs i) p)):=by
 refine⟨by rw[uj3];exact h.len,λj hj=>?_⟩;rw[K3 (by rw[h.len];exact hi)]
 by_cases q:j=i
 .subst q;rw[hX rfl];have hw:=Ec (Cb hg hi) hm.lt hm.pl;have h1:=hw.lo;have h2:=hw.hi;unfold AZ;lia
 .rw[ia q];exact h.lt j hj
theorem Sm(a:Int)(n:Nat):AM a (n+1)=.int a::AM (a+1) n:=by
 unfold AM;rw[gi,ul3,un3]
 congr 1
 .simp
 .refine ue6 λk _=>?_;show D.int (a+((k+1:Nat):Int))=.int (a+1+k)
  congr 1
  lia
def isI(l:List D):Prop:=∀x∈l,∃i:Int,x=.int i
theorem cS{g:Bool->Bool}{x d:D}(hx:AT t.S 16 x=d)(hy:AT t.S 16 y=d)(hp:Be d=true)(hr:Rq 16 d)(h:P (.bl (g true)) t):L2.W (eqO g x y) t P:=
 ⟨_,_,by unfold eqO;rw[hx,hy,hp,hr EQD (by decide)];rfl,h⟩
theorem GQ{S:List Ob}{n:Nat}:∀{l:List D},isI l->l.map (AT S n)=l
 |[],_=>rfl
 |x::l,h=>by
   clear 5(h x uf0)i rfl;rw[ul3,GQ λy hy=>h y (ud5 _ hy)]
   congr 1
   cases n<;>rfl
theorem JE:∀{l:List D},isI l->E1 l=true
 |[],_=>rfl
 |x::l,h=>by
   clear 5(h x uf0)i rfl;rw[E1,uh5];exact⟨rfl,JE λy hy=>h y (ud5 _ hy)⟩
theorem O4{l:List D}(h:isI l):Rq (n+1) (.lst l):=GU λx hx=>by clear 5(h x hx)i rfl;exact Iw
noncomputable def vD:Nat->Nat
 |0=>0
 |1=>250
 |m+2=>30+vD (m+1)*3
structure SaidV(gs:List (List GS))(hs:List Nat)(ds:List D)(n:Nat):Prop where
 s:Said gs hs ds n
 k:∀d∈ds,∃i p v hs',d=sayD gs hs' i p v/\i<gs.length/\HsOk gs hs'/\MvOk (gAt gs i) (hAt hs' i) p v/\vz v<=vD 3
abbrev Sy:=Nat×Nat×D
def nxH(gs:List (List GS))(hs:List Nat)(m:Sy):List Nat:=hs.set m.1 (AZ (gAt gs m.1) (hAt hs m.1) m.2.1)
def okS(gs:List (List GS)):List Nat->List Sy->Prop
 |_,[]=>True
 |hs,m::r=>(m.1<gs.length/\MvOk (gAt gs m.1) (hAt hs m.1) m.2.1 m.2.2)/\okS gs (nxH gs hs m) r
def syD(gs:List (List GS))(hs:List Nat)(m:Sy):D:=sayD gs hs m.1 m.2.1 m.2.2
def dsS(gs:List (List GS)):List Nat->List Sy->List D
 |_,[]=>[]
 |hs,m::r=>syD gs hs m::dsS gs (nxH gs hs m) r
def sdS(gs:List (List GS))(hs:List Nat)(m:Sy):Str:=(AA (gAt gs m.1) (hAt hs m.1)).side
def pbS(gs:List (List GS))(hs:List Nat)(m:Sy):List D:=.int m.2.1::As (wdAt (gAt gs m.1) (hAt hs m.1) m.2.1).2.1 m.2.2
def byS(gs:List (List GS))(s:Bool)(hs:List Nat)(m:Sy):List D:=if sdS gs hs m=sd s then .int (m.1:Nat)::pbS gs hs m else []
def wS(gs:List (List GS))(s:Bool):List Nat->List Sy->List D
 |_,[]=>[]
 |hs,m::r=>byS gs s hs m++wS gs s (nxH gs hs m) r
def Ak(gs:List (List GS)):List Nat->List Sy->List Nat
 |hs,[]=>hs
 |hs,m::r=>Ak gs (nxH gs hs m) r
noncomputable def tkS(k:Nat)(ms:List Sy):List Mv:=(ms.filter λm=>m.1==k).map (·.2)
theorem E3(k:Nat):tkS k []=[]:=rfl
variable{m:Sy}
theorem Bs{k:Nat}{r:List Sy}(h:m.1=k):tkS k (m::r)=m.2::tkS k r:=by
 unfold tkS;rw[ub7 (by simp[h]),ul3]
theorem BQ{k:Nat}{r:List Sy}(h:m.1≠k):tkS k (m::r)=tkS k r:=by
 unfold tkS;rw[ub8 (by simp[h])]
theorem CU(k:Nat)(a b:List Sy):tkS k (a++b)=tkS k a++tkS k b:=by unfold tkS;rw[uf7,uj9]
theorem BF(gs:List (List GS))(hs:List Nat)(m:Sy):(nxH gs hs m).length=hs.length:=uj3
theorem D6(h:m.1<hs.length)(k:Nat):hAt (nxH gs hs m) k=if k=m.1 then AZ (gAt gs m.1) (hAt hs m.1) m.2.1 else hAt hs k:=K3 h
theorem A7(h:m.1<hs.length){k:Nat}(n:k≠m.1):hAt (nxH gs hs m) k=hAt hs k:=by rw[D6 h,ia n]
theorem B4{gs:List (List GS)}:∀(ms:List Sy) (hs:List Nat),hs.length=gs.length->(okS gs hs ms↔(∀m∈ms,m.1<gs.length)/\∀k,okQ (gAt gs k) (hAt hs k) (tkS k ms))
 |[],hs,hl=>by
   refine⟨λ_=>⟨λ_ h=>(nomatch h),λk=>?_⟩,λ_=>?_⟩
   .rw[E3];exact trivial
   .exact trivial
 |m::r,hs,hl=>by
   have ih:=B4 r (nxH gs hs m) ((BF ..).trans hl);rw[okS];constructor
   .rintro⟨⟨h1,h2⟩,h3⟩;clear 5(ih.mp h3)h4 h5;refine⟨λx hx=>(ul2.mp hx).elim (λe=>e ▸ h1) (h4 x),λk=>?_⟩
    by_cases q:m.1=k
    .subst q;have:=h5 m.1;rw[D6 (by lia),hX rfl] at this;rw[Bs rfl];exact⟨h2,this⟩
    .have:=h5 k;rw[A7 (by lia) λz=>q z.symm] at this;rw[BQ q];exact this
   .rintro⟨h1,h2⟩;have hm:=h1 m uf0;have h3:=h2 m.1;rw[Bs rfl] at h3;refine⟨⟨hm,h3.1⟩,ih.mpr ⟨λx hx=>h1 x (ud5 _ hx),λk=>?_⟩⟩
    by_cases q:m.1=k
    .subst q;rw[D6 (by lia),hX rfl];exact h3.2
    .have:=h2 k;rw[BQ q] at this;rw[A7 (by lia) λz=>q z.symm];exact this
theorem Op(gs:List (List GS)):∀(a b:List Sy) (hs:List Nat),dsS gs hs (a++b)=dsS gs hs a++dsS gs (Ak gs hs a) b
 |[],b,hs=>rfl
 |m::r,b,hs=>by rw[ui2,dsS,dsS,Ak,Op gs r b,ui2]
theorem Iz(gs:List (List GS))(s:Bool):∀(a b:List Sy) (hs:List Nat),wS gs s hs (a++b)=wS gs s hs a++wS gs s (Ak gs hs a) b
 |[],b,hs=>rfl
 |m::r,b,hs=>by rw[ui2,wS,wS,Ak,Iz gs s r b,ug3]
theorem Ep(gs:List (List GS)):∀(a b:List Sy) (hs:List Nat),okS gs hs (a++b)↔okS gs hs a/\okS gs (Ak gs hs a) b
 |[],b,hs=>by simp[okS,Ak]
 |m::r,b,hs=>by rw[ui2,okS,okS,Ak,Ep gs r b];exact and_assoc.symm
theorem IL(gs:List (List GS)):∀(a:List Sy) (hs:List Nat),(dsS gs hs a).length=a.length
 |[],hs=>rfl
 |m::r,hs=>by rw[dsS,uh1,IL gs r,uh1]
theorem MQ(gs:List (List GS)):∀(a:List Sy) (hs:List Nat),(Ak gs hs a).length=hs.length
 |[],hs=>rfl
 |m::r,hs=>by rw[Ak,MQ gs r,BF]
theorem Ix(hg:∀g∈gs,GOk g){hs:List Nat}{m:Sy}(h:m.1<gs.length/\MvOk (gAt gs m.1) (hAt hs m.1) m.2.1 m.2.2):∃s ws,AA (gAt gs m.1) (hAt hs m.1)=.st (sd s) ws/\m.2.1<ws.length/\ws[m.2.1]?=some (wdAt (gAt gs m.1) (hAt hs m.1) m.2.1)/\(ws.map (·.1)).Nodup/\ws.length<=9:=by
 clear 5 h hi hm;have hgs:=EQ (Cb hg hi) hm.lt;clear 5(Fa hm.pl)side ws egs hp ew;rw[egs] at hgs;clear 5(Lm hgs)s rfl;refine⟨s,ws,egs,hp,ew,?_⟩
 cases hgs with
 |st _ _ h3 h4 _=>exact⟨h4,h3⟩
theorem KF{gs:List (List GS)}(hg:∀g∈gs,GOk g)(g9:gs.length<=9)(s:Bool):∀(ms:List Sy) (hs:List Nat),okS gs hs ms->isB (wS gs s hs ms)
 |[],hs,_=>λd h=>(nomatch h)
 |m::r,hs,⟨h1,h2⟩=>by
   rw[wS];refine K5 ?_ (KF hg g9 s r _ h2);clear 5(Ix hg h1)s' ws egs hp ew nd h9;have hwd:=Ec (Cb hg h1.1) h1.2.lt h1.2.pl;unfold byS
   split
   .exact ER (by lia) (ER (by lia) (FT 3 _ hwd.dep hwd.ok _ h1.2.fit))
   .exact λd h=>(nomatch h)
theorem RJ(hg:GOk g)(hm:MvOk g q p v){side:Str}{ws:List (Str×Sh×Int)}(e:AA g q=.st side ws){w:List Nat}{a:Nat}(h:At w a (.int (p:Nat)::As (wdAt g q p).2.1 v)):Bf side ws w a=(.told v (a+1+(As (wdAt g q p).2.1 v).length),p):=by
 clear 5 h.head h1 h2;have hwd:=Ec hg hm.lt hm.pl;clear 5(Fa hm.pl)side' ws' e' hp ew;rw[e] at e'
 cases e'
 unfold Bf;rw[h1];dsimp only;rw[ew];dsimp only;rw[back 3 _ hwd.dep hwd.ok w v (a+1) hm.fit h2]
theorem La(hg:∀g∈gs,GOk g){w:Bool->List Nat}{σ:Ls}{hs:List Nat}(hst:σ.st=hs){m:Sy}(h1:m.1<gs.length/\MvOk (gAt gs m.1) (hAt hs m.1) m.2.1 m.2.2){s:Bool}{ws:List (Str×Sh×Int)}(egs:AA (gAt gs m.1) (hAt hs m.1)=.st (sd s) ws)(hA:At (w s) (σ.p s) (.int (m.1:Nat)::pbS gs hs m)) :
 σ.nx gs w s=.msg m.1 (Dn (gAt gs m.1) (hAt hs m.1) m.2.1 m.2.2) (AZ (gAt gs m.1) (hAt hs m.1) m.2.1) (σ.p s+1+(pbS gs hs m).length):=by
 clear 5 hA.head hw hA2;have hgx:gs[m.1]?=some (gAt gs m.1):=by unfold gAt;rw[ua6,ub2 h1.1];rfl
 have hst':σ.st.getD m.1 0=hAt hs m.1:=by rw[hst];rfl
 unfold Ls.nx nxR;rw[hw];dsimp only;rw[hgx];dsimp only;rw[hst',egs];dsimp only;rw[hX rfl,RJ (Cb hg h1.1) h1.2 egs hA2];dsimp only;have ew:wdAt (gAt gs m.1) (hAt hs m.1) m.2.1=ws.getD m.2.1 (Str.ofString "",.nothing,0):=by unfold wdAt;rw[egs];rfl
 unfold Dn AZ pbS;rw[egs,ew,uh1]
 congr 1
 lia
theorem Hv{gs:List (List GS)}(hg:∀g∈gs,GOk g){w:Bool->List Nat}:∀(ms:List Sy) (σ:Ls) (hs:List Nat),σ.st=hs->hs.length=gs.length->σ.hd.length=gs.length->okS gs hs ms->(∀s,At (w s) (σ.p s) (wS gs s hs ms))->
 ∃τ,Run gs w σ τ/\(∀s,τ.p s=σ.p s+(wS gs s hs ms).length)/\τ.hd.length=gs.length/\∀k,k<gs.length->τ.hd.getD k []=σ.hd.getD k []++AJ (gAt gs k) (hAt hs k) (tkS k ms)
 |[],σ,hs,_,_,hl,_,_=>⟨σ,.refl _,λs=>rfl,hl,λk hk=>by rw[E3,AJ,uj0]⟩
 |m::r,σ,hs,hst,hhs,hl,⟨h1,h2⟩,hA=>by
   obtain⟨s,ws,egs,hp,ew,nd,_⟩:=Ix hg h1;have es:sdS gs hs m=sd s:=by unfold sdS;rw[egs];rfl
   have hAs:=hA s;rw[wS] at hAs;have eb:byS gs s hs m=.int (m.1:Nat)::pbS gs hs m:=by unfold byS;rw[hX es]
   have eo:∀t,t≠s->byS gs t hs m=[]:=λt ht=>by unfold byS;rw[ia λz=>ht (Fk (es.symm.trans z)).symm]
   rw[eb] at hAs;have hnx:=La hg hst h1 egs hAs.left;obtain⟨τ,a1,a2,a3,a4⟩:=Hv hg r (σ.go s m.1 (Dn (gAt gs m.1) (hAt hs m.1) m.2.1 m.2.2) (AZ (gAt gs m.1) (hAt hs m.1) m.2.1) (σ.p s+1+(pbS gs hs m).length)) (nxH gs hs m) (by unfold Ls.go nxH;dsimp only;rw[hst]) ((BF ..).trans hhs) (by unfold Ls.go;dsimp only;rw[uj3];exact hl) h2 (λt=>by
    show At (w t) (if t=s then _ else σ.p t) _
    by_cases q:t=s
    .subst q;rw[hX rfl];have:=hAs.right;rw[uh1] at this;rw[ul9,um7 1];exact this
    .rw[ia q];have:=hA t;rw[wS,eo t q,uj5] at this;exact this)
   refine⟨τ,.step ⟨_,_,_,_,hnx,rfl⟩ a1,λt=>?_,a3,λk hk=>?_⟩
   .rw[a2 t];show(if t=s then _ else σ.p t)+_=_;rw[wS,uf3]
    by_cases q:t=s
    .subst q;rw[hX rfl,eb,uh1];lia
    .rw[ia q,eo t q,uj7];lia
   .rw[a4 k hk];show(σ.hd.set m.1 _).getD k []++_=_
    by_cases q:m.1=k
    .subst q;rw[Cp (by lia),D6 (by lia),hX rfl,Bs rfl,ug3];rfl
    .rw[Bn q,A7 (by lia) λz=>q z.symm,BQ q]
theorem Tr(hg:∀g∈gs,GOk g){w:Bool->List Nat}{ms:List Sy}(h:okS gs (List.replicate gs.length 0) ms)(hw:∀s,wD (w s)=wS gs s (List.replicate gs.length 0) ms){σ:Ls}(hE:End gs w σ) :
 E8 gs w σ=none/\(∀s,σ.p s=(w s).length)/\σ.hd.length=gs.length/\∀k,k<gs.length->σ.hd.getD k []=AJ (gAt gs k) 0 (tkS k ms):=by
 have h0:(gs.map λ_=>0)=List.replicate gs.length 0:=by rw[uk0]
 clear 5(Hv hg ms (ls0 gs) (List.replicate gs.length 0) h0 uc7 (ui8 ..) h (λs=>⟨[],[],by rw[hw,uj0];rfl,rfl⟩))τ a1 a2 a3 a4;have hp:∀s,τ.p s=(w s).length:=λs=>by
  rw[a2 s,<-hw,D9];show 0+_=_;lia
 have hx:∀s,τ.nx gs w s=.stop:=λs=>by
  unfold Ls.nx;exact Hr (by rw[hp];exact ud3 (un6 _))
 have hT:End gs w τ:=⟨a1,λs k m th e z=>by rw[hx s] at z;cases z⟩
 have e:=hE.eq hT;subst e;refine⟨Jt λs j z=>(by rw[hx s] at z;cases z),hp,a3,λk hk=>?_⟩
 rw[a4 k hk];have e1:(ls0 gs).hd.getD k []=[]:=by
  unfold ls0;dsimp only;rw[ua6,ug1]
  cases gs[k]?<;>rfl
 have e2:hAt (List.replicate gs.length 0) k=0:=by
  unfold hAt;rw[ua6,ub3]
  split<;>rfl
 rw[e1,e2,uj5]
def evS(gs:List (List GS))(s:Bool):List Nat->List Sy->List (Nat×Sy)
 |_,[]=>[]
 |hs,m::r=>(if sdS gs hs m=sd s then [(hAt hs m.1,m)] else [])++evS gs s (nxH gs hs m) r
def byQ(gs:List (List GS))(x:Nat×Sy):List D:=.int (x.2.1:Nat)::.int (x.2.2.1:Nat)::As (wdAt (gAt gs x.2.1) x.1 x.2.2.1).2.1 x.2.2.2
theorem Fd(gs:List (List GS))(s:Bool):∀(ms:List Sy) (hs:List Nat),wS gs s hs ms=(evS gs s hs ms).flatMap (byQ gs)
 |[],hs=>rfl
 |m::r,hs=>by
   rw[wS,evS,List.flatMap_append,Fd gs s r];unfold byS
   split
   .simp[byQ,pbS]
   .simp
theorem GJ(gs:List (List GS))(s:Bool):∀(a b:List Sy) (hs:List Nat),evS gs s hs (a++b)=evS gs s hs a++evS gs s (Ak gs hs a) b
 |[],b,hs=>rfl
 |m::r,b,hs=>by rw[ui2,evS,evS,Ak,GJ gs s r b,ug3]
theorem LJ{gs:List (List GS)}{k:Nat}:∀(a:List Sy) (hs:List Nat),(∀x∈a,x.1<hs.length/\x.1≠k)->hAt (Ak gs hs a) k=hAt hs k
 |[],hs,_=>rfl
 |x::a,hs,h=>by
   have h0:=h x uf0;rw[Ak,LJ a _ λy hy=>by rw[BF];exact h y (ud5 _ hy),A7 h0.1 (Ne.symm h0.2)]
theorem NE{x:Sy}(h:x.1<hs.length)(n:x.1≠m.1):sdS gs (nxH gs hs x) m=sdS gs hs m:=by
 unfold sdS;rw[A7 h (Ne.symm n)]
theorem T7{x:Sy}(h:x.1<hs.length)(h':m.1<hs.length)(n:x.1≠m.1):nxH gs (nxH gs hs x) m=nxH gs (nxH gs hs m) x:=by
 have e1:nxH gs (nxH gs hs x) m=(nxH gs hs x).set m.1 (AZ (gAt gs m.1) (hAt (nxH gs hs x) m.1) m.2.1):=rfl;have e2:nxH gs (nxH gs hs m) x=(nxH gs hs m).set x.1 (AZ (gAt gs x.1) (hAt (nxH gs hs m) x.1) x.2.1):=rfl;rw[e1,e2,A7 h (Ne.symm n),A7 h' n];unfold nxH;exact gL _ _ n
theorem Ts{x:Sy}{r:List Sy}(h:x.1<hs.length)(h':m.1<hs.length)(n:x.1≠m.1){s:Bool}(h1:sdS gs hs x≠sd s)(h2:sdS gs hs m=sd s)(t:Bool):evS gs t hs (m::x::r)=evS gs t hs (x::m::r):=by
 rw[evS,evS,evS,evS,T7 h h' n,NE h n,NE h' (Ne.symm n),A7 h (Ne.symm n),A7 h' n,<-ug3,<-ug3]
 congr 1
 by_cases q:sdS gs hs m=sd t
 .have e:s=t:=Fk (h2.symm.trans q);subst e;rw[ia h1,uj0,uj5]
 .rw[ia q,uj0,uj5]
theorem LG{gs:List (List GS)}{m:Sy}{b:List Sy}{s:Bool}(t:Bool):∀(a:List Sy) (hs:List Nat),(∀x∈a,x.1<hs.length/\x.1≠m.1)->m.1<hs.length->evS gs s hs a=[]->sdS gs hs m=sd s->evS gs t hs (m::(a++b))=evS gs t hs (a++m::b)
 |[],hs,_,_,_,_=>rfl
 |x::a,hs,ha,hm,he,hs'=>by
   have h0:=ha x uf0;rw[evS] at he;clear 5(gk.mp he)e1 e2;have hx:sdS gs hs x≠sd s:=λz=>by rw[hX z] at e1;cases e1
   rw[ui2,Ts h0.1 hm h0.2 hx hs',ui2,evS,LG t a (nxH gs hs x) (λy hy=>by rw[BF];exact ha y (ud5 _ hy)) (by rw[BF];exact hm) e2 ((NE h0.1 h0.2).trans hs')];rfl
theorem HX{gs:List (List GS)}{s:Bool}:∀(ms:List Sy) (hs:List Nat){y:Nat×Sy}{r:List (Nat×Sy)},evS gs s hs ms=y::r->∃a b,ms=a++y.2::b/\evS gs s hs a=[]/\sdS gs (Ak gs hs a) y.2=sd s/\y.1=hAt (Ak gs hs a) y.2.1
 |[],hs,y,r,h=>by cases h
 |m::ms,hs,y,r,h=>by
   rw[evS] at h
   by_cases q:sdS gs hs m=sd s
   .rw[hX q] at h;injection h with h1 h2
    subst h1;exact⟨[],ms,rfl,rfl,q,rfl⟩
   .rw[ia q,uj5] at h;clear 5(HX ms _ h)a b e1 e2 e3 e4;exact⟨m::a,b,by rw[e1];rfl,by rw[evS,ia q,e2];rfl,e3,e4⟩
theorem none_of{gs:List (List GS)}{s:Bool}{k:Nat}{ws:List (Str×Sh×Int)}:∀(a:List Sy) (hs:List Nat),(∀x∈a,x.1<hs.length)->evS gs s hs a=[]->AA (gAt gs k) (hAt hs k)=.st (sd s) ws->∀x∈a,x.1<hs.length/\x.1≠k
 |[],hs,_,_,_=>λx h=>(nomatch h)
 |x::a,hs,hl,he,hk=>by
   rw[evS] at he;clear 5(gk.mp he)e1 e2;have h0:=hl x uf0;have hx:x.1≠k:=λz=>by
    subst z;rw[hX (by unfold sdS;rw[hk];rfl)] at e1
    cases e1
   have ih:=none_of (k:=k) (ws:=ws) a (nxH gs hs x) (λy hy=>by rw[BF];exact hl y (ud5 _ hy)) e2 (by rw[A7 h0 (Ne.symm hx)];exact hk);intro y hy;rcases ul2.mp hy with rfl|hy
   .exact⟨h0,hx⟩
   .have:=ih y hy;rw[BF] at this;exact this
theorem SF{a b:List Sy}(h:∀x∈a,x.1≠m.1)(k:Nat):tkS k (m::(a++b))=tkS k (a++m::b):=by
 by_cases q:m.1=k
 .have ea:tkS k a=[]:=by
   unfold tkS;rw[gl.mpr (λx hx=>by have:=h x hx;simp;lia)];rfl
  rw[Bs q,CU,CU,ea,Bs q];rfl
 .rw[BQ q,CU,CU,BQ q]
structure RdS(gs:List (List GS))(ms:List Sy)(σ:Ls)(a b:List Sy):Prop where
 ok:okS gs (List.replicate gs.length 0) (a++b)
 tk:∀k,tkS k (a++b)=tkS k ms
 ev:∀s,evS gs s (List.replicate gs.length 0) (a++b)=evS gs s (List.replicate gs.length 0) ms
 st:σ.st=Ak gs (List.replicate gs.length 0) a
 ps:∀s,σ.p s=(wS gs s (List.replicate gs.length 0) a).length
 hl:σ.hd.length=gs.length
 hd:∀k,k<gs.length->σ.hd.getD k []=AJ (gAt gs k) 0 (tkS k a)
theorem EN(gs:List (List GS))(m:Sy):∀(b:List Sy) (hs:List Nat),Ak gs hs (b++[m])=nxH gs (Ak gs hs b) m
 |[],hs=>rfl
 |x::b,hs=>EN gs m b _
theorem SS(a:List Sy):(Ak gs (List.replicate gs.length 0) a).length=gs.length:=by rw[MQ,uc7]
variable{ms:List Sy}
theorem RdS.wire{a b:List Sy}(h:RdS gs ms σ a b)(s:Bool):wS gs s (List.replicate gs.length 0) ms=wS gs s (List.replicate gs.length 0) a++wS gs s (Ak gs (List.replicate gs.length 0) a) b:=by
 rw[Fd gs s ms,<-h.ev s,<-Fd,Iz]
theorem RdS.next{a b:List Sy}(h:RdS gs ms σ a b){s:Bool}{y:Nat×Sy}{r:List (Nat×Sy)}(he:evS gs s (Ak gs (List.replicate gs.length 0) a) b=y::r){ws:List (Str×Sh×Int)}(hk:AA (gAt gs y.2.1) (hAt (Ak gs (List.replicate gs.length 0) a) y.2.1)=.st (sd s) ws) :
 ∃b',okS gs (List.replicate gs.length 0) (a++y.2::b')/\(∀k,tkS k (a++y.2::b')=tkS k ms)/\(∀t,evS gs t (List.replicate gs.length 0) (a++y.2::b')=evS gs t (List.replicate gs.length 0) ms)/\y.1=hAt (Ak gs (List.replicate gs.length 0) a) y.2.1:=by
 clear 5(HX _ _ he)a1 b1 e1 e2 e3 e4;subst e1;have hz:(List.replicate gs.length 0).length=gs.length:=uc7;have hlt:=((B4 _ _ hz).mp h.ok).1;have hl:=SS (gs:=gs) a;have hn:=none_of (k:=y.2.1) a1 _ (λx hx=>by rw[hl];exact hlt x (uc6 _ (ud6 _ hx))) e2 hk;have hm:y.2.1<gs.length:=hlt y.2 (uc6 _ (uc6 _ uf0));have hs:sdS gs (Ak gs (List.replicate gs.length 0) a) y.2=sd s:=by unfold sdS;rw[hk];rfl
 have htk:∀k,tkS k (a++y.2::(a1++b1))=tkS k ms:=λk=>by rw[CU,SF (λx hx=>(hn x hx).2),<-CU];exact h.tk k
 refine⟨a1++b1,(B4 _ _ hz).mpr ⟨λx hx=>hlt x ?_,λk=>?_⟩,htk,λt=>?_,?_⟩
 .simp only[ui6,ul2] at hx⊢;rcases hx with z|z|z|z
  .exact .inl z
  .exact .inr (.inr (.inl z))
  .exact .inr (.inl z)
  .exact .inr (.inr (.inr z))
 .rw[htk k,<-h.tk k];exact((B4 _ _ hz).mp h.ok).2 k
 .rw[GJ,LG t a1 _ hn (by rw[hl];exact hm) e2 hs,<-GJ];exact h.ev t
 .rw[e4,LJ a1 _ hn]
theorem RdS.at{a:List Sy}{w:Bool->List Nat}(hw:∀s,wD (w s)=wS gs s (List.replicate gs.length 0) ms){m:Sy}{b':List Sy}{s:Bool}(hev:∀t,evS gs t (List.replicate gs.length 0) (a++m::b')=evS gs t (List.replicate gs.length 0) ms)(hs:sdS gs (Ak gs (List.replicate gs.length 0) a) m=sd s):At (w s) (wS gs s (List.replicate gs.length 0) a).length (.int (m.1:Nat)::pbS gs (Ak gs (List.replicate gs.length 0) a) m):=by
 refine⟨wS gs s (List.replicate gs.length 0) a,wS gs s (nxH gs (Ak gs (List.replicate gs.length 0) a) m) b',?_,rfl⟩;rw[hw,Fd gs s ms,<-hev s,<-Fd,Iz,wS];unfold byS;rw[hX hs]
theorem TQ(k:Nat):∀(ms:List Sy) (hs:List Nat),hs.length=gs.length->(∀m∈ms,m.1<gs.length)->hAt hs k=0->hAt (Ak gs hs ms) k=AB (gAt gs k) 0 (tkS k ms):=by
 have h:∀(ms:List Sy) (hs:List Nat),hs.length=gs.length->(∀m∈ms,m.1<gs.length)->hAt (Ak gs hs ms) k=AB (gAt gs k) (hAt hs k) (tkS k ms):=by
  intro ms
  induction ms with
  |nil=>intro hs _ _;rfl
  |cons m r ih=>
    intro hs hl hm;have h1:=hm m uf0;rw[Ak,ih _ ((BF ..).trans hl) λx hx=>hm x (ud5 _ hx)]
    by_cases q:m.1=k
    .subst q;rw[D6 (by lia),hX rfl,Bs rfl];rfl
    .rw[A7 (by lia) λz=>q z.symm,BQ q]
 intro ms hs h1 h2 h3;rw[h ms hs h1 h2,h3]
theorem RdS.step{gs:List (List GS)}(hg:∀g∈gs,GOk g){ms a b:List Sy}{w:Bool->List Nat}(hw:∀s,wD (w s)=wS gs s (List.replicate gs.length 0) ms){σ τ:Ls}{s:Bool}(h:RdS gs ms σ a b)(st:Stp gs w σ s τ):∃a' b',RdS gs ms τ a' b':=by
 clear 5 st k m th e hnx rfl;clear 5(EG hnx)g ws v c q1 q2 q3 q4 q5;have hz:(List.replicate gs.length 0).length=gs.length:=uc7;have hat:(wD (w s))[σ.p s]?=some (.int (k:Nat)):=by unfold wD;rw[ug1,q1];rfl
 rw[hw s,h.wire s,h.ps s,ua4 (un6 _),un4] at hat
 cases he:evS gs s (Ak gs (List.replicate gs.length 0) a) b with
 |nil=>rw[Fd,he] at hat;cases hat
 |cons y r=>
   rw[Fd,he,List.flatMap_cons] at hat;have ek:y.2.1=k:=by
    have:(some (D.int (y.2.1:Nat)):Option D)=some (.int (k:Nat)):=hat;injection this with this
    injection this with this
    exact Int.ofNat.inj this
   subst ek;have hk:AA (gAt gs y.2.1) (hAt (Ak gs (List.replicate gs.length 0) a) y.2.1)=.st (sd s) ws:=by
    rw[h.st] at q3;unfold gAt hAt;rw[ua6 (l:=gs),q2];exact q3
   clear 5(h.next he hk)b' hok htk hev hq;have hsd:sdS gs (Ak gs (List.replicate gs.length 0) a) y.2=sd s:=by unfold sdS;rw[hk];rfl
   have hA:=RdS.at hw hev hsd;rw[<-h.ps s] at hA;have h1:=((Ep gs a _ _).mp hok).2.1;have hnx2:=La hg h.st h1 hk hA;rw[hnx] at hnx2;injection hnx2 with z1 z2 z3 z4
   subst z2 z3 z4;have hl:=SS (gs:=gs) a;refine⟨a++[y.2],b',?_,?_,?_,?_,λt=>?_,?_,λk hk2=>?_⟩
   .rw[ug3];exact hok
   .intro k;rw[ug3];exact htk k
   .intro t;rw[ug3];exact hev t
   .rw[EN];unfold Ls.go nxH;dsimp only;rw[h.st]
   .show(if t=s then _ else σ.p t)=_;rw[Iz,uf3,wS,wS,uj0];unfold byS
    by_cases q:t=s
    .subst q;rw[hX rfl,hX hsd,uh1,h.ps t];lia
    .rw[ia q,ia λz=>q (Fk (z.symm.trans hsd)),h.ps t];rfl
   .unfold Ls.go;dsimp only;rw[uj3];exact h.hl
   .show(σ.hd.set y.2.1 _).getD k []=_;rw[CU]
    by_cases q:y.2.1=k
    .subst q;rw[Cp (by rw[h.hl];exact hk2),h.hd _ hk2,Bs rfl,E3,Fj];have hlt:=((B4 _ _ hz).mp hok).1;have e5:hAt (Ak gs (List.replicate gs.length 0) a) y.2.1=AB (gAt gs y.2.1) 0 (tkS y.2.1 a):=by
      have:=((B4 _ _ hz).mp hok).2;exact TQ y.2.1 a _ hz (λx hx=>hlt x (ud6 _ hx)) (by unfold hAt;rw[ua6,ub3];split<;>rfl)
     rw[e5];rfl
    .rw[Bn q,h.hd k hk2,BQ q,E3,uj0]
theorem RdS.run(hg:∀g∈gs,GOk g){ms:List Sy}{w:Bool->List Nat}(hw:∀s,wD (w s)=wS gs s (List.replicate gs.length 0) ms){σ τ:Ls}(r:Run gs w σ τ):(∃a b,RdS gs ms σ a b)->∃a b,RdS gs ms τ a b:=by
 induction r with
 |refl _=>exact id
 |step h _ ih=>exact λ⟨a,b,q⟩=>ih (q.step hg hw h)
theorem RdS.zero(hok:okS gs (List.replicate gs.length 0) ms):RdS gs ms (ls0 gs) [] ms:=
 ⟨hok,λ_=>rfl,λ_=>rfl,uk0 ..,λ_=>rfl,ui8 ..,λk hk=>by
  rw[E3];unfold ls0;dsimp only;rw[ua6,ug1]
  cases gs[k]?<;>rfl⟩
theorem At.takeC{c:Nat}(h:At w a xs)(l:a+xs.length<=c):At (w.take c) a xs:=by
 clear 5 h p q e rfl;refine⟨p,q.take (c-(p.length+xs.length)),?_,rfl⟩;have:wD (w.take c)=(wD w).take c:=by unfold wD;rw[ul7]
 rw[this,e,List.take_append,uc3 (by lia),List.take_append,uc3 (by lia)]
 congr 3
 lia
theorem QV(hg:∀g∈gs,GOk g){w v:Bool->List Nat}{ms:List Sy}(hok:okS gs (List.replicate gs.length 0) ms)(hw:∀s,wD (w s)=wS gs s (List.replicate gs.length 0) ms)(ag:∀s,Agr (v s).length (v s) (w s)){τ:Ls}(hE:End gs v τ):E8 gs v τ=none:=by
 have h0:(gs.map λ_=>0)=List.replicate gs.length 0:=by rw[uk0]
 clear 5(Hv hg ms (ls0 gs) (List.replicate gs.length 0) h0 uc7 (ui8 ..) hok (λs=>⟨[],[],by rw[hw,uj0];rfl,rfl⟩))τ' a1 a2 a3 a4;have hp:∀s,τ'.p s=(w s).length:=λs=>by
  rw[a2 s,<-hw,D9];show 0+_=_;lia
 have hx:∀s,τ'.nx gs w s=.stop:=λs=>by
  unfold Ls.nx;exact Hr (by rw[hp];exact ud3 (un6 _))
 have hT:End gs w τ':=⟨a1,λs k m th e z=>by rw[hx s] at z;cases z⟩
 exact(Vm ag hT hE).2 (Jt λs j z=>(by rw[hx s] at z;cases z))
theorem Tm(hg:∀g∈gs,GOk g){w v:Bool->List Nat}{ms:List Sy}(hok:okS gs (List.replicate gs.length 0) ms)(hw:∀s,wD (w s)=wS gs s (List.replicate gs.length 0) ms){c:Bool->Nat}(hv:∀s,v s=(w s).take (c s)){τ:Ls}(hE:End gs v τ) :
 ∃a b,RdS gs ms τ a b/\(∀s,τ.p s<=(v s).length)/\E8 gs v τ=none/\∀s y r ws,evS gs s (Ak gs (List.replicate gs.length 0) a) b=y::r->AA (gAt gs y.2.1) (hAt (Ak gs (List.replicate gs.length 0) a) y.2.1)=.st (sd s) ws->¬(τ.p s+(1+(pbS gs (Ak gs (List.replicate gs.length 0) a) y.2).length)<=(v s).length):=by
 have hp:=λs=>hE.inn s;have ag:∀s,Agr (v s).length (v s) (w s):=λs i hi=>by
  rw[hv s,uh3] at hi;rw[hv s,ub1 (by lia)]
 have hR:Run gs w (ls0 gs) τ:=hE.1.loc λs i hi=>ag s i (ue9 hi (hp s));clear 5(RdS.run hg hw hR ⟨[],ms,.zero hok⟩)a b h;refine⟨a,b,h,hp,?_,λs y r ws he hk hle=>?_⟩
 .exact QV hg hok hw ag hE
 .clear 5(h.next he hk)b' hok' htk hev hq;have hsd:sdS gs (Ak gs (List.replicate gs.length 0) a) y.2=sd s:=by unfold sdS;rw[hk];rfl
  have hA:=RdS.at hw hev hsd;rw[<-h.ps s] at hA;have h1:=((Ep gs a _ _).mp hok').2.1;have hA2:At (v s) (τ.p s) (.int (y.2.1:Nat)::pbS gs (Ak gs (List.replicate gs.length 0) a) y.2):=by
   rw[hv s];rw[hv s,uh3] at hle;exact At.takeC hA (by rw[uh1];lia)
  exact hE.2 s _ _ _ _ (La hg h.st h1 hk hA2)
mutual
noncomputable def Ce:Sh->Bool
 |.number lo hi=>decide (hi-lo<1000000000)
 |.list s _=>Ce s
 |.pair s r=>Ce s&&Ce r
 |.choice ss=>GM ss
 |_=>true
noncomputable def GM:List Sh->Bool
 |[]=>true
 |s::r=>Ce s&&GM r
end
theorem Jm:∀{ss:List Sh},GM ss=true->∀s∈ss,Ce s=true
 |x::r,h,s,m=>by
   rw[GM,uh5] at h;rcases ul2.mp m with e|m
   .subst e;exact h.1
   .exact Jm h.2 s m
mutual
noncomputable def Ek:Sh->Bool
 |.text m=>decide (m<=3)
 |.list s m=>decide (m<=3)&&Ek s
 |.pair s r=>Ek s&&Ek r
 |.choice ss=>Kx ss
 |_=>true
noncomputable def Kx:List Sh->Bool
 |[]=>true
 |s::r=>Ek s&&Kx r
end
theorem LU:∀{ss:List Sh},Kx ss=true->∀s∈ss,Ek s=true
 |x::r,h,s,m=>by
   rw[Kx,uh5] at h;rcases ul2.mp m with e|m
   .subst e;exact h.1
   .exact LU h.2 s m
noncomputable def bt:Nat->Nat
 |0=>4
 |d+1=>1+3*bt d
theorem MB:∀d,4<=bt d
 |0=>un6 _
 |d+1=>by have:=MB d;rw[bt];lia
structure Dr(d:Nat)(s:Sh):Prop where
 ok:wf s=true
 dep:s.depth<=d+1
 nar:Ce s=true
 tin:Ek s=true
 few:∀v,Ag s v=true->(As s v).length<=bt d
theorem Dr.nothing{d:Nat}:Dr d .nothing:=⟨rfl,by rw[Sh.depth];lia,rfl,rfl,λv h=>by
 have:v=.non:=by cases v<;>simp[Ag,FE] at h<;>rfl
 subst this;exact un7 _⟩
theorem Dr.number{d:Nat}{lo w:Int}(h1 : -4<=lo)(h2:lo<=4)(h3:0<=w)(h4:w<=70000):Dr d (.number lo (lo+w)):=by
 refine⟨?_,by rw[Sh.depth];lia,?_,rfl,λv h=>?_⟩
 .simp only[wf,uh5,ug8];lia
 .simp only[Ce,ug8];lia
 .have hb:=MB d;have hw:=KI 3 (lo+w-lo).toNat (by show _<16777216;lia)
  cases v with
  |int i=>rw[As,Nc];lia
  |_=>simp[Ag] at h
theorem Dr.text{d:Nat}{m:Int}(h1:0<=m)(h2:m<=3):Dr d (.text m):=by
 refine⟨?_,by rw[Sh.depth];lia,rfl,?_,λv h=>?_⟩
 .simp only[wf,uh5,ug8];lia
 .simp only[Ek,ug8];lia
 .have hb:=MB d
  cases v with
  |str x=>
    simp only[Ag,uh5,ug8] at h;have h:=h.1;rw[Fi] at h;rw[As,uh1,ui8];lia
  |_=>simp[Ag] at h
theorem Ou{s:Sh}{n:Nat}:∀(ds:List D),(∀d∈ds,(As s d).length<=n)->((ds.map λd=>As s d).flatten).length<=ds.length*n
 |[],_=>un7 _
 |d::r,h=>by
   have h1:=Ou r λx m=>h x (ud5 _ m);have h2:=h d uf0;rw[ul3,ug2,uf3,uh1,Nat.add_mul,Nat.one_mul];lia
theorem Dr.list{d:Nat}{s:Sh}{m:Int}(h:Dr d s)(h1:0<=m)(h2:m<=3):Dr (d+1) (.list s m):=by
 have:=h.dep;refine⟨?_,by rw[Sh.depth];lia,by rw[Ce];exact h.nar,?_,λv hf=>?_⟩
 .simp only[wf,uh5,ug8,h.ok];exact⟨⟨by lia,by lia⟩,trivial⟩
 .simp only[Ek,h.tin,gK,ug8];lia
 .cases v with
  |lst ds=>
    rw[Ag,uh5,ug8,uh9] at hf;have h3:=Ou ds λx m=>h.few x (hf.2 x m);have h4:ds.length*bt d<=3*bt d:=Nat.mul_le_mul_right _ (by lia);rw[As,uh1,bt];lia
  |_=>simp[Ag] at hf
theorem Dr.pair{d:Nat}{s r:Sh}(h:Dr d s)(h':Dr d r):Dr (d+1) (.pair s r):=by
 have:=h.dep;have:=h'.dep;refine⟨by simp only[wf,h.ok,h'.ok,um0],by rw[Sh.depth];lia,by simp only[Ce,h.nar,h'.nar,um0],by simp only[Ek,h.tin,h'.tin,um0],λv hf=>?_⟩;unfold Ag at hf
 split at hf
 .rw[uh5] at hf;have h1:=h.few _ hf.1;have h2:=h'.few _ hf.2;rw[As,uf3,bt];lia
 .cases hf
theorem Dr.choice{d:Nat}{s r:Sh}(h:Dr d s)(h':Dr d r):Dr (d+1) (.choice [s,r]):=by
 have:=h.dep;have:=h'.dep;refine⟨?_,?_,by simp only[Ce,GM,h.nar,h'.nar,um0],by simp only[Ek,Kx,h.tin,h'.tin,um0],λv hf=>?_⟩
 .simp only[wf,wfs,h.ok,h'.ok,um0,gK,uh5,ug8,uh1,uj7];lia
 .rw[Sh.depth,EH,EH,EH];lia
 .unfold Ag at hf
  split at hf
  .next o k x=>
   simp only[uh5,ug8] at hf;clear 5(ub6 hf.1.2.1)j rfl;have hj:j < [s,r].length:=by have:=hf.1.2.2;lia
   have e1:[s,r][j]?=some [s,r][j]:=ub2 hj;have h2:=hf.2;rw[ug7,B0 [s,r] _ _ _ e1] at h2;rw[As,ug7,El [s,r] _ _ _ e1,uh1,bt];have hm:[s,r][j]=s\/[s,r][j]=r:=by
    match j,hj with
    |0,_=>exact .inl rfl
    |1,_=>exact .inr rfl
   rcases hm with e|e
   .rw[e] at h2⊢;have:=h.few x h2;lia
   .rw[e] at h2⊢;have:=h'.few x h2;lia
  .cases hf
def GG(f:Fn)(d:Nat):Prop:=∀(cell:Int) (S:List Ob),Wf f [.int cell,.int d] S λr S'=>S'=S/\∃(s:Sh) (l:Int),r=.tup [s.d,.int l]/\Dr d s
theorem YG(c:Int):c%7=0\/c%7=1\/c%7=2\/c%7=3\/c%7=4\/c%7=5\/c%7=6:=by lia
theorem w5(i:Int):∃w:Int,atI [D.int 0,.int 3,.int 255,.int 256,.int 70000] (i%5)=some (.int w)/\0<=w/\w<=70000:=by
 have:i%5=0\/i%5=1\/i%5=2\/i%5=3\/i%5=4:=by lia
 rcases this with h|h|h|h|h<;>rw[h]
 .exact⟨0,rfl,by decide⟩
 .exact⟨3,rfl,by decide⟩
 .exact⟨255,rfl,by decide⟩
 .exact⟨256,rfl,by decide⟩
 .exact⟨70000,rfl,by decide⟩
theorem Uz:GG (fnOf 2 7 (Cd c)) 0:=by
 intro cell S;refine Ap rfl ?_;unfold Cd;clear 5(w5 (cell/7/9))w hw w0 w1;have num:Dr 0 (.number (cell/7%9-4) (cell/7%9-4+w)):=.number (by lia) (by lia) w0 w1;rcases YG cell with h|h|h|h|h|h|h
 .right;rw[h];right;exact⟨rfl,.nothing,_,rfl,.nothing⟩
 .right;rw[h];right;refine AR hw ?_;right;exact⟨rfl,_,_,rfl,num⟩
 .right;rw[h];right;refine AR hw ?_;right;exact⟨rfl,_,_,rfl,num⟩
 .right;rw[h];right;exact⟨rfl,.text (cell/7%4),_,rfl,.text (by lia) (by lia)⟩
 .right;rw[h];right;refine AR hw ?_;right;exact⟨rfl,_,_,rfl,num⟩
 .right;rw[h];right;refine AR hw ?_;right;exact⟨rfl,_,_,rfl,num⟩
 .right;rw[h];right;refine AR hw ?_;right;exact⟨rfl,_,_,rfl,num⟩
theorem UA{d:Nat}(hc:GG c d):GG (fnOf 2 7 (Cd c)) (d+1):=by
 intro cell S;refine Ap rfl ?_;unfold Cd;clear 5(w5 (cell/7/9))w hw w0 w1;have num:Dr (d+1) (.number (cell/7%9-4) (cell/7%9-4+w)):=.number (by lia) (by lia) w0 w1;have hd0:(((d+1:Nat):Int)==0)=false:=by rw[gp];lia
 have hd1:((d+1:Nat):Int)-1=(d:Nat):=by lia
 rcases YG cell with h|h|h|h|h|h|h
 .right;rw[h];right;exact⟨rfl,.nothing,_,rfl,.nothing⟩
 .right;rw[h];right;refine AR hw ?_;right;exact⟨rfl,_,_,rfl,num⟩
 .right;rw[h];right;refine AR hw ?_;right;exact⟨rfl,_,_,rfl,num⟩
 .right;rw[h];right;exact⟨rfl,.text (cell/7%4),_,rfl,.text (by lia) (by lia)⟩
 .right;rw[h];right;rw[hd1];refine(hc _ S).mono λr S' z9=>?_;clear 5 z9 e s l er hs;subst e er;right;exact⟨rfl,.list s (l%4),_,rfl,hs.list (by lia) (by lia)⟩
 .right;rw[h];right;rw[hd1];refine(hc _ S).mono λr S' z9=>?_;clear 5 z9 e s l er hs;subst e er;right;rw[hd1];refine(hc _ _).mono λr S' z9=>?_;clear 5 z9 e s2 l2 er hs2;subst e er;right;exact⟨rfl,.choice [s,s2],_,rfl,hs.choice hs2⟩
 .right;rw[h];right;rw[hd1];refine(hc _ S).mono λr S' z9=>?_;clear 5 z9 e s l er hs;subst e er;right;rw[hd1];refine(hc _ _).mono λr S' z9=>?_;clear 5 z9 e s2 l2 er hs2;subst e er;right;exact⟨rfl,.pair s s2,_,rfl,hs.pair hs2⟩
def IH(f:Fn)(n:Nat):Prop:=∀(s:Sh),s.depth<=n->wf s=true->Ce s=true->Ek s=true->∀(cell:Int) (S:List Ob),Wf f [s.d,.int cell] S λr S'=>S'=S/\∃(v:D) (l:Int),r=.tup [v,.int l]/\Ag s v=true
noncomputable def sg4(i:Int):Nat:=[32,97,126,122].getD i.toNat 32
theorem Zs(i:Int):atI (Str.ofString " a~z").cps.toList (i%4)=some (sg4 (i%4)):=by
 have e:(Str.ofString " a~z").cps.toList=[32,97,126,122]:=by decide +kernel
 rw[e];have:i%4=0\/i%4=1\/i%4=2\/i%4=3:=by lia
 rcases this with h|h|h|h<;>rw[h]<;>rfl
theorem Uy(i:Int):BC (sg4 (i%4))=true:=by
 have:i%4=0\/i%4=1\/i%4=2\/i%4=3:=by lia
 rcases this with h|h|h|h<;>rw[h]<;>decide
noncomputable def p4(k:Int):Int:=if k=0 then 1 else if k=1 then 4 else 16
theorem ao{k:Int}(h0:0<=k)(h1:k<3):atI [D.int 1,.int 4,.int 16] k=some (.int (p4 k)):=by
 have:k=0\/k=1\/k=2:=by lia
 rcases this with rfl|rfl|rfl<;>rfl
theorem UX(k:Int):0<p4 k/\p4 k<1073741824:=by unfold p4;split<;>(try split)<;>lia
theorem da{i:Int}(h:x.length<=LIM)(e:atI x.cps.toList i=some n)(p:P (.str ⟨#[n]⟩) t):W (ixD (.str x) (.int i)) t P:=W_ix_str.mpr ⟨h,n,e,p⟩
def ch4(l:Int)(d:D):Nat:=match d with
 |.int k=>sg4 (l/p4 k%4)
 |_=>32
theorem UG{f:Fn}:IH f 0:=λs h=>absurd s.depth_pos (by lia)
theorem O3{d:D}(h:d∈AM 0 n):∃k:Int,d=.int k/\0<=k/\k<n:=by
 clear 5(List.getElem_of_mem h)j hj e;have e1:d::(AM 0 n).drop (j+1)=(AM 0 n).drop j:=by rw[<-e];exact(ua9 hj).symm
 obtain⟨rfl,_,hlt⟩:=E2 e1;exact⟨0+j,rfl,by lia,by lia⟩
theorem ZF(hc:IH c n):IH (fnOf 2 10 (Ej c)) (n+1):=by
 intro s hs hw hn ht cell S;have hL:LIM=100000:=rfl;refine Ap rfl ?_;unfold Ej
 cases s with
 |nothing=>
   rw[Sh.d];right;exact⟨rfl,_,_,rfl,rfl⟩
 |number lo hi=>
   simp only[wf,uh5,ug8] at hw;simp only[Ce,ug8] at hn;rw[Sh.d];right;refine Fz (by lia) ?_;right;refine GB (by lia) (by lia) ?_;right;refine⟨rfl,_,_,rfl,?_⟩;have h1:=uk1 cell (b:=hi-lo+1) (by lia);have h2:=uf8 cell (b:=hi-lo+1) (by lia);simp only[Ag,uh5,ug8];lia
 |text m=>
   simp only[wf,uh5,ug8] at hw;simp only[Ek,ug8] at ht;rw[Sh.d];right;refine Fz (by lia) ?_;have h1:=uk1 cell (b:=m+1) (by lia);have h2:=uf8 cell (b:=m+1) (by lia);right;refine GB (by lia) (by lia) ?_;right;refine bc ?_;right;refine FA (Bg (by lia) (by lia)) ?_;refine(HJ (f:=λd=>.str ⟨#[ch4 (cell/(m+1)) d]⟩) (fr:=[vw (.int (cell/(m+1)))]) ?_).mono ?_
   .intro d hd;clear 5(O3 hd)k rfl k0 k1;right;refine AR (ao k0 (by lia)) ?_;refine GB (UX k).1 (UX k).2 ?_;right;refine da (by decide +kernel) (Zs _) ?_;exact⟨rfl,rfl⟩
   .rintro xs t' ⟨rfl,hS⟩;refine Bb (by rw[ui8,CH,hL];lia) ?_;right;have e1:(AM 0 (cell%(m+1)).toNat).map (λd=>D.str ⟨#[ch4 (cell/(m+1)) d]⟩)=((AM 0 (cell%(m+1)).toNat).map (ch4 (cell/(m+1)))).map λn=>D.str ⟨#[n]⟩:=by rw[un3];rfl
    refine⟨_,_,_,rfl,rfl,by rw[e1];exact Iy _,⟨by decide +kernel,by rw[ui8,ui8,CH];lia⟩,?_⟩;right;refine⟨hS,_,_,rfl,?_⟩;simp only[Ag,uh5,ug8];rw[Fi,P2,ui8,CH];refine⟨by lia,?_⟩;rw[uh9];intro z hz;clear 5(un2.mp hz)d hd rfl;obtain⟨k,rfl,_,_⟩:=O3 hd;exact Uy _
 |list s m=>
   rw[Sh.depth] at hs;simp only[wf,uh5,ug8] at hw;rw[Ce] at hn;simp only[Ek,uh5,ug8] at ht;rw[Sh.d];right;refine Fz (by lia) ?_;have h1:=uk1 cell (b:=m+1) (by lia);have h2:=uf8 cell (b:=m+1) (by lia);right;refine GB (by lia) (by lia) ?_;right;refine FA (Bg (by lia) (by lia)) ?_;refine BX (λr t=>∃(l:Int) (ds:List D) (e6 e7 e8 e9:Option Sl),ds.length+r.length=(cell%(m+1)).toNat/\(∀d∈ds,Ag s d=true)/\t=⟨[vw (.tup [.str "list",s.d,.int m]),vw (.int cell),vw (.str "list"),vw (.int (cell%(m+1))),vw (.int l),some (.own ds),e6,e7,e8,e9],S⟩) _ _ ⟨_,[],none,none,none,none,by rw[CH];simp,by simp,rfl⟩ ?_ ?_
   .rintro d r t ⟨l,ds,e6,e7,e8,e9,hl,hf,rfl⟩ _;rw[uh1] at hl;right;refine(hc s (by lia) hw.2 hn ht.2 l S).mono λr' S' z9=>?_;clear 5 z9 e v l2 er hv;subst e er;right;refine Bb (by rw[hL];lia) ?_;refine⟨l2,ds++[v],_,_,_,_,by rw[uf3];simp only[uh1,uj7];lia,?_,rfl⟩;intro d hd;rcases ui6.mp hd with h|h
    .exact hf d h
    .rw[uf5] at h;subst h;exact hv
   .rintro t ⟨l,ds,e6,e7,e8,e9,hl,hf,rfl⟩;rw[uj7] at hl;right;refine⟨rfl,_,_,rfl,?_⟩;simp only[Ag,uh5,ug8,uh9];exact⟨by lia,hf⟩
 |pair s r=>
   rw[Sh.depth] at hs;simp only[wf,uh5] at hw;simp only[Ce,uh5] at hn;simp only[Ek,uh5] at ht;rw[Sh.d];right;refine(hc s (by lia) hw.1 hn.1 ht.1 cell S).mono λr' S' z9=>?_;clear 5 z9 e v l2 er hv;subst e er;right;refine(hc r (by lia) hw.2 hn.2 ht.2 l2 _).mono λr' S' z9=>?_;clear 5 z9 e v' l3 er hv';subst e er;right;exact⟨rfl,_,_,rfl,by rw[Ag,hv,hv'];rfl⟩
 |choice ss=>
   rw[Sh.depth] at hs;simp only[wf,uh5,ug8] at hw;rw[Ce] at hn;rw[Ek] at ht;have h1:=uk1 cell (b:=(ss.length:Int)) (by lia);have h2:=uf8 cell (b:=(ss.length:Int)) (by lia);have hk:(cell%(ss.length:Int)).toNat<ss.length:=by lia
   have e1:ss[(cell%(ss.length:Int)).toNat]?=some ss[(cell%(ss.length:Int)).toNat]:=ub2 hk;have ea:atI (shD ss) (cell%(ss.length:Int))=some (ss[(cell%(ss.length:Int)).toNat]).d:=by
    unfold atI;rw[BP h1 (by rw[DQ];exact h2)];show(shD ss)[(cell%(ss.length:Int)).toNat]?=_;rw[GW,e1];rfl
   rw[Sh.d];right;rw[DQ];refine Fz (by lia) ?_;right;refine E4 ea ?_;right;rw[DQ];refine GB (by lia) (by lia) ?_;right;refine(hc _ (um5 (B1 ss _ _ e1) (by lia)) (DS hw.2 _ (ui1 hk)) (Jm hn _ (ui1 hk)) (LU ht _ (ui1 hk)) _ _).mono λr' S' z9=>?_;clear 5 z9 e v l2 er hv;subst e er;right;have ho:Ic (Str.ofString "of")=true:=by decide +kernel
   exact⟨rfl,_,_,rfl,by simp only[Ag,ho,h1,h2,decide_true,um0,ul8,B0 ss _ _ _ e1,hv]⟩
theorem FI{i j:Int}(h1 : -18446744073709551616<j)(h2:j<18446744073709551616)(h:P (.int (i*j)) t):W (DI (.int i) (.int j)) t P:=QA (OK h1 h2) h
def XC(f:Fn):Prop:=∀(cell k:Int) (S:List Ob),0<=k->k<=40->Wf f [.int cell,.int k] S λr S'=>S'=S/\∃n:Int,r=.int n
theorem YF:XC (fnOf 2 3 Ee):=by
 intro cell k S k0 k1;refine Ap rfl ?_;unfold Ee;right;refine DT (λq=>?_) λq=>?_
 .right;exact⟨rfl,_,rfl⟩
 .right;refine FI (by decide) (by decide) ?_;right;refine FI (by lia) (by lia) ?_;right;refine FI (by lia) (by lia) ?_;right;refine FI (by lia) (by lia) ?_;right;have b0:=uk1 (cell*48271+7919*k*k+104729*k+13) (b:=2147483647) (by decide);have b1:=uf8 (cell*48271+7919*k*k+104729*k+13) (b:=2147483647) (by decide);generalize (cell*48271+7919*k*k+104729*k+13)%2147483647=x at b0 b1;refine FI (by lia) (by lia) ?_;right;have d0:=uk1 (x*x) (b:=2147483629) (by decide);have d1:=uf8 (x*x) (b:=2147483629) (by decide);generalize x*x%2147483629=y at d0 d1;refine FI (by lia) (by lia) ?_;right;refine FI (by lia) (by lia) ?_;right;refine FI (by lia) (by lia) ?_;right;exact⟨rfl,_,rfl⟩
def Tin(x:GS):Prop:=∀w∈x.ws,Dr 2 w.2.1
def StC(f:Fn):Prop:=∀(cell k many:Int) (S:List Ob),0<=k->k<=40->1<=many->many<=30->Wf f [.int cell,.int k,.int many] S λr S'=>S'=S/\∃x:GS,r=x.d/\GSOk many x/\Tin x
noncomputable def names3:List Str:=[Str.ofString "go",Str.ofString "no",Str.ofString "ask"]
theorem names3_nd:names3.Nodup:=by decide +kernel
theorem RU:∀x∈names3,x.length<=90000:=by decide +kernel
theorem bS(i:Int):AV (names3.map D.str) none (some (1+i%3))=(names3.take (1+i%3).toNat).map D.str:=by
 have:i%3=0\/i%3=1\/i%3=2:=by lia
 rcases this with h|h|h<;>rw[h]<;>rfl
theorem aD(i:Int):∃s:Str,atI [D.str (Str.ofString "left"),.str (Str.ofString "right")] (i%2)=some (.str s)/\(s=Str.ofString "left"\/s=Str.ofString "right"):=by
 have:i%2=0\/i%2=1:=by lia
 rcases this with h|h<;>rw[h]
 .exact⟨_,rfl,.inl rfl⟩
 .exact⟨_,rfl,.inr rfl⟩
def LL(Cn:Fn):M Out:=
 (Ae (C9 4 (AK Ad))
 (Ae (An 5 (Ac (Ax (AK (Ab (fC (.str "left")) (Ab (fC (.str "right")) Ad)))) (Ac (Ac (Aa 3) (fb 5) AQ) (fb 2) AX) ixD))
 (Ae (An 6 (Ac (fb 1) (Ac (Ac (Aa 3) (fb 10) AQ) (fb 3) AX) AD))
 (Ae (An 3 (Ac (Aa 3) (fb 30) AQ))
 (Ae (Bq (Ck (fSl (Ax (AK (Ab (fC (.str "go")) (Ab (fC (.str "no")) (Ab (fC (.str "ask")) Ad))))) fNo (BO (Aa 6)) Ci)) (Ao 7)
   (Ae (Cy (Ah Cn (Ab (Aa 3) (Ab (fb 2) Ad))) (unS 2 (Ay (Ao 8) (Ay (Ao 3) Bc))))
 (Ae (ownM 4 BR (Ab (AI (Ab (Aa 7) (Ab (Aa 8) (Ab (Ac (Aa 3) (Aa 2) AX) Ad)))) Ad))
 (An 3 (Ac (Aa 3) (Aa 2) AQ)))))
 (Al (AI (Ab (Aa 5) (Ab (Aa 4) Ad)))))))))
theorem Pd{cs:Fn}(hs:GG cs 2){cell k many n:Int}{S:List Ob}(m0:1<=many)(m1:many<=30):W (LL cs) ⟨[vw (.int cell),vw (.int k),vw (.int many),vw (.int n),none,none,none,none,none],S⟩ λo t=>∃x:GS,o=.ret x.d/\t.S=S/\GSOk many x/\Tin x:=by
 have hL:LIM=100000:=rfl;clear 5(aD (n/5))side hsd hside;unfold LL;right;refine AR hsd ?_;right;show W (Cl _ _ (AV (names3.map D.str) none (some (1+n/10%3)))) _ _;rw[bS];refine BX (λr t=>∃(ws:List (Str×Sh×Int)) (rs:List Str) (l:Int) (e7 e8:Option Sl),r=rs.map D.str/\ws.map (·.1)++rs=names3.take (1+n/10%3).toNat/\(∀w∈ws,WOk many w/\Dr 2 w.2.1)/\t=⟨[vw (.int cell),vw (.int k),vw (.int many),vw (.int l),some (.own (ws.map wdD)),vw (.str side),vw (.int (1+n/10%3)),e7,e8],S⟩) _ _ ⟨[],names3.take (1+n/10%3).toNat,_,none,none,rfl,rfl,by simp,rfl⟩ ?_ ?_
 .rintro d r t ⟨ws,rs,l,e7,e8,hr,hn,hw,rfl⟩ _
  cases rs with
  |nil=>cases hr
  |cons nm rs=>
    rw[ul3] at hr;injection hr with h1 h2
    subst h1 h2;have hl:ws.length<=3:=by
     have:=gY List.length hn;rw[uf3,ui8,uh3] at this;have:names3.length=3:=rfl;lia
    have hmem:nm∈names3:=ud9 (by rw[<-hn];simp);right;refine(hs _ S).mono λr' S' z9=>?_;clear 5 z9 e s l2 er hd;subst e er;right;refine Fz (by lia) ?_;right;refine Bb (by rw[ui8,hL];lia) ?_;right;refine GB (by lia) (by lia) ?_;refine⟨ws++[(nm,s,l2%many)],rs,_,_,_,rfl,by rw[uj9,ug3];exact hn,?_,by rw[uj9];rfl⟩;intro w hw';rcases ui6.mp hw' with h|h
    .exact hw w h
    .rw[uf5] at h;subst h;exact⟨⟨hd.ok,hd.dep,uk1 _ (by lia),uf8 _ (by lia),RU nm hmem⟩,hd⟩
 .rintro t ⟨ws,rs,l,e7,e8,hr,hn,hw,rfl⟩
  cases rs with
  |cons _ _=>cases hr
  |nil=>
    rw[uj0] at hn;have hl:=gY List.length hn;rw[ui8,uh3] at hl;have hl3:names3.length=3:=rfl;right;refine⟨.st side ws,rfl,rfl,.st hside (by lia) (by lia) (by rw[hn];exact names3_nd.sublist (List.take_sublist _ _)) λw h=>(hw w h).1,λw h=>(hw w h).2⟩
theorem ck{cs:Fn}(hs:GG cs 2)(hm:XC cm):StC (fnOf 3 9 (Eg cs cm)):=by
 intro cell k many S k0 k1 m0 m1;refine Ap rfl ?_;unfold Eg;right;refine(hm cell k S k0 k1).mono λr S' z9=>?_;clear 5 z9 e n er;subst e er;right;refine DT (λq=>?_) λq=>?_
 .right;refine DT (λq2=>?_) λq2=>?_
  .right;exact⟨rfl,.fin,rfl,.fin,λw h=>by cases h⟩
  .right;refine DT (λq3=>?_) λq3=>?_
   .right;exact⟨rfl,.fin,rfl,.fin,λw h=>by cases h⟩
   .refine QB (Bj ?_);exact(Pd hs m0 m1).mono λo t ⟨x,eo,es,h1,h2⟩=>by subst eo;exact⟨es,x,rfl,h1,h2⟩
 .refine Cc rfl (QB (Bj ?_));exact(Pd hs m0 m1).mono λo t ⟨x,eo,es,h1,h2⟩=>by subst eo;exact⟨es,x,rfl,h1,h2⟩
variable{Q:List D->T->Prop}
theorem Vb{f:M (List D)}(h:W f t λds t1=>∃xs,ds=[.lst xs]/\Q (BG 0 xs) t1):W (IP f) t Q:=CJ (h.mono λds t1 ⟨xs,e,q⟩=>by subst e;exact⟨_,_,rfl,q⟩)
def GrC(f:Fn):Prop:=∀(cells:List Int) (S:List Ob),1<=cells.length->cells.length<=30->Wf f [.lst (cells.map .int)] S λr S'=>S'=S/\∃g:List GS,r=.lst (g.map GS.d)/\GOk g/\∀x∈g,Tin x
theorem bZ{cs:Fn}(hs:StC cs):GrC (fnOf 1 1 (DF cs)):=by
 intro cells S h1 h2;have hL:LIM=100000:=rfl;refine Ap rfl ?_;unfold DF;right;refine Vb ?_;right;refine⟨_,rfl,?_⟩;refine(JO (P:=λxs t'=>t'.S=S/\∃g:List GS,xs=g.map GS.d/\g.length=cells.length/\∀x∈g,GSOk cells.length x/\Tin x) (λacc r t=>∃(g:List GS) (cs:List Int) (e0 e1:Option Sl),acc=g.map GS.d/\r=BG g.length (cs.map .int)/\g.length+cs.length=cells.length/\(∀x∈g,GSOk cells.length x/\Tin x)/\t=⟨[e0,e1,vw (.lst (cells.map .int))],S⟩) (BG 0 (cells.map .int)) [] _ ⟨[],cells,none,none,rfl,rfl,by simp,by simp,rfl⟩ ?_ ?_).mono ?_
 .rintro acc d r t ⟨g,cs',e0,e1,ha,hr,hl,hg,rfl⟩ _
  cases cs' with
  |nil=>cases hr
  |cons c cs'=>
    rw[ul3,BG] at hr;injection hr with q1 q2
    subst q1 q2;rw[uh1] at hl;right;rw[hX rfl];right;rw[ui8];refine(hs c _ _ S (by lia) (by lia) (by lia) (by lia)).mono λr' S' z9=>?_;clear 5 z9 e x er hx ht;subst e er ha;refine⟨g++[x],cs',_,_,by rw[uj9];rfl,by rw[uf3];rfl,by rw[uf3];simp only[uh1,uj7];lia,?_,rfl⟩;intro y hy;rcases ui6.mp hy with h|h
    .exact hg y h
    .rw[uf5] at h;subst h;exact⟨hx,ht⟩
 .rintro acc t ⟨g,cs',e0,e1,ha,hr,hl,hg,rfl⟩
  cases cs' with
  |cons _ _=>cases hr
  |nil=>exact⟨rfl,g,ha,by simpa using hl,hg⟩
 .rintro xs t' ⟨hS,g,rfl,hl,hg⟩;refine Bb (by rw[ui8,hL];lia) ?_;exact⟨hS,g,rfl,⟨by lia,by lia,λx h=>by rw[hl];exact(hg x h).1⟩,λx h=>(hg x h).2⟩
def L8(f:Fn):Prop:=∀(ns:List Int) (k:Int),0<=k->k<=1000->∃c:Int,Pure1 f [.scr ns,.int k] (.int c)
theorem QS:L8 (fnOf 2 2 Ds):=by
 intro ns k h0 h1
 by_cases z:k<ns.length
 .have hk:k.toNat<ns.length:=by lia
  refine⟨ns[k.toNat],λS=>Ap rfl ?_⟩;unfold Ds;right;refine ES (ul0 (by lia)) ?_;right;refine W_ix_scr.mpr ⟨ns[k.toNat],?_,?_⟩
  .unfold atI;rw[BP h0 (by lia)];show ns[k.toNat]?=_;rw[ub2 hk]
  .right;exact⟨rfl,rfl⟩
 .refine⟨0,λS=>Ap rfl ?_⟩;unfold Ds;right;refine Cc (uk3 (by lia)) ?_;right;exact⟨rfl,rfl⟩
theorem MZ(hq:q<g.length):AA g q∈g:=by
 unfold AA;rw[ua6,ub2 hq];exact ui1 hq
structure GT(gs:List (List GS)):Prop where
 ok:∀g∈gs,GOk g
 n9:gs.length<=9
 tin:∀g∈gs,∀x∈g,Tin x
def ST(f:Fn):Prop:=∀(ns:List Int) (S:List Ob),Wf f [.scr ns] S λr S'=>S'=S/\∃gs:List (List GS),r=gsD gs/\GT gs/\1<=gs.length
theorem bR(c:Int):∃n:Int,atI [D.int (1+c%4),.int (1+c%9)] (c/36%2)=some (.int n)/\1<=n/\n<=9:=by
 have:c/36%2=0\/c/36%2=1:=by lia
 rcases this with h|h<;>rw[h]
 .exact⟨_,rfl,by lia,by lia⟩
 .exact⟨_,rfl,by lia,by lia⟩
theorem b7{cg:Fn}(hg:GrC cg)(hc:L8 cc):ST (fnOf 1 9 (Dm cg cc)):=by
 intro ns S;have hL:LIM=100000:=rfl;clear 5(hc ns 0 (by decide) (by decide))c hc0;clear 5(bR c)n hn n1 n9;refine Ap rfl ?_;unfold Dm;right;refine hc0.use ?_;right;refine AR hn ?_;right;refine FA (Bg (by lia) (by lia)) ?_;refine BX (λr t=>∃(gs:List (List GS)) (pl:Int) (e5 e6 e7 e8:Option Sl),gs.length<=n.toNat/\r=(AM 0 n.toNat).drop gs.length/\1<=pl/\pl<=1+30*(gs.length:Int)/\(∀g∈gs,GOk g/\∀x∈g,Tin x)/\t=⟨[vw (.scr ns),some (.own (gs.map λg=>.lst (g.map GS.d))),vw (.int pl),vw (.int c),vw (.int n),e5,e6,e7,e8],S⟩) _ _ ⟨[],1,none,none,none,none,un7 _,rfl,by decide,by decide,by simp,rfl⟩ ?_ ?_
 .rintro d r t ⟨gs,pl,e5,e6,e7,e8,hl,hr,p1,p2,hgs,rfl⟩ _;clear 5(E2 hr)rfl hr' hjn;have hn36:4<=36/n/\36/n<=36:=by
   have:n=1\/n=2\/n=3\/n=4\/n=5\/n=6\/n=7\/n=8\/n=9:=by lia
   rcases this with h|h|h|h|h|h|h|h|h<;>rw[h]<;>decide
  right;refine FI (by lia) (by lia) ?_;right;refine GB (by lia) (by lia) ?_;right;refine GB (by lia) (by lia) ?_;right;have hm30:1<=(if 36/n<30 then 36/n else 30)/\(if 36/n<30 then 36/n else 30)<=30:=by split<;>lia
  generalize (if 36/n<30 then 36/n else 30)=m at hm30;refine Fz (by lia) ?_;have q0:=uk1 (c/72/(4*(0+(gs.length:Int))+1)) (b:=m) (by lia);have q1:=uf8 (c/72/(4*(0+(gs.length:Int))+1)) (b:=m) (by lia);generalize c/72/(4*(0+(gs.length:Int))+1)%m=y at q0 q1;right;refine UJ (by rw[Bg (by lia) (by lia),Bg (by lia) (by lia)];rfl) ?_;refine Bj ?_;refine BX (λr t=>∃(cs:List Int) (e8:Option Sl),cs.length<=(pl+(1+y)-pl).toNat/\r=(AM pl (pl+(1+y)-pl).toNat).drop cs.length/\t=⟨[vw (.scr ns),some (.own (gs.map λg=>.lst (g.map GS.d))),vw (.int pl),vw (.int c),vw (.int n),vw (.int (0+(gs.length:Int))),vw (.int (1+y)),some (.own (cs.map D.int)),e8],S⟩) _ _ ⟨[],e8,un7 _,rfl,rfl⟩ ?_ ?_
  .rintro d r t ⟨cs,e8,hl2,hr2,rfl⟩ _;clear 5(E2 hr2)rfl hr2' hjn2;clear 5(hc ns (1+(pl+(cs.length:Int))%17) (by lia) (by lia))c1 hc1;right;refine hc1.use ?_;right;refine GB (by lia) (by lia) ?_;right;refine Bb (by rw[ui8,hL];lia) ?_;refine⟨cs++[c1/(1+(pl+(cs.length:Int))/17)],_,by rw[uf3];exact hjn2,by rw[uf3];exact hr2',by rw[uj9];rfl⟩
  .rintro t ⟨cs,e8,hl2,hr2,rfl⟩;have hz:=gY List.length hr2;rw[uj7,uh4,CH] at hz;right;refine(hg cs S (by lia) (by lia)).mono ?_;rintro r S' ⟨e,g,rfl,hgo,hti⟩;have e:=e.symm;subst e;right;refine Bb (by rw[ui8,hL];lia) ?_;right;refine⟨gs++[g],pl+(1+y),vw (.int (0+(gs.length:Int))),vw (.int (1+y)),vw (.lst (cs.map D.int)),e8,by rw[uf3];exact hjn,by rw[uf3];exact hr',by lia,?_,?_,by rw[uj9];rfl⟩
   .rw[uf3];simp only[uh1,uj7];lia
   .intro g' hg';rcases ui6.mp hg' with h|h
    .exact hgs g' h
    .rw[uf5] at h;subst h;exact⟨hgo,hti⟩
 .rintro t ⟨gs,pl,e5,e6,e7,e8,hl,hr,p1,p2,hgs,rfl⟩;have:=gY List.length hr;rw[uj7,uh4,CH] at this;right;exact⟨rfl,gs,rfl,⟨λg h=>(hgs g h).1,by lia,λg h=>(hgs g h).2⟩,by lia⟩
abbrev z9(gs:List (List GS)):List Nat:=List.replicate gs.length 0
theorem Jw{gs:List (List GS)}(hg:∀g∈gs,GOk g):∀(ms:List Sy) (hs:List Nat),HsOk gs hs->okS gs hs ms->HsOk gs (Ak gs hs ms)
 |[],hs,h,_=>h
 |m::r,hs,h,⟨h1,h2⟩=>Jw hg r _ (h.next hg h1.1 h1.2) h2
theorem HZ(h:GT gs){k q p:Nat}{v:D}(hk:k<gs.length)(hm:MvOk (gAt gs k) q p v):(As (wdAt (gAt gs k) q p).2.1 v).length<=52:=by
 clear 5(Fa hm.pl)side ws egs hp ew;have hx:AA (gAt gs k) q∈gAt gs k:=MZ hm.lt;have hgk:gAt gs k∈gs:=by
  unfold gAt;rw[ua6,ub2 hk];exact ui1 hk
 have ht:=h.tin _ hgk _ hx;rw[egs] at ht;have:=(ht _ (ud8 ew)).few v hm.fit;have e:bt 2=40:=rfl;lia
theorem Qr{cv:Fn}(hv:IH cv 3){gs:List (List GS)}(hT:GT gs)(g1:1<=gs.length){ms:List Sy}{S:List Ob}{a1 e5 e6 e7 e8 e9:Option Sl}{c:Int}(hok:okS gs (z9 gs) ms)(hl:ms.length<=50) :
 L2.W (ND cv) ⟨[vw (gsD gs),a1,some (.own (nD (Ak gs (z9 gs) ms))),some (.own (dsS gs (z9 gs) ms)),vw (.int c),e5,e6,e7,e8,e9],S⟩ λo t=>o=.next/\∃ms' e4 e5 e6 e7 e8 e9,okS gs (z9 gs) ms'/\ms'.length<=ms.length+1/\t=⟨[vw (gsD gs),a1,some (.own (nD (Ak gs (z9 gs) ms'))),some (.own (dsS gs (z9 gs) ms')),e4,e5,e6,e7,e8,e9],S⟩:=by
 have hL:LIM=100000:=rfl;have hg:=hT.ok;have g9:=hT.n9;have ho:HsOk gs (Ak gs (z9 gs) ms):=Jw hg ms _ (Ia hg) hok;have hlen:=ho.len;have hdl:=IL gs ms (z9 gs);have i0:=uk1 c (b:=(gs.length:Int)) (by lia);have i1:=uf8 c (b:=(gs.length:Int)) (by lia);unfold ND gsD;symm;rw[ui8];refine Fz (by lia) ?_;clear 5(ub6 i0)i ei;rw[ei] at i1⊢;have hi:i<gs.length:=by lia
 have hlt:=ho.lt i hi;have hgo:=Cb hg hi;have hgs:=EQ hgo hlt;symm;refine AR (EA hi) ?_;symm;refine KD rfl ?_;symm;refine⟨_,_,_,rfl,rfl,Yo (by lia),?_⟩;refine AR (Ed hlt) ?_;symm
 cases egs:AA (gAt gs i) (hAt (Ak gs (z9 gs) ms) i) with
 |fin=>
   rw[GS.d];symm;exact⟨rfl,ms,_,_,_,_,_,_,hok,by lia,rfl⟩
 |st side ws=>
   rw[egs] at hgs;obtain⟨w0,w9⟩:0<ws.length/\ws.length<=9:=by
    cases hgs with
    |st _ h2 h3 _ _=>exact⟨h2,h3⟩
   rw[GS.d];symm;rw[ui8];have p0:=uk1 (c/4) (b:=(ws.length:Int)) (by lia);have p1:=uf8 (c/4) (b:=(ws.length:Int)) (by lia);refine Fz (by lia) ?_;clear 5(ub6 p0)p ep;rw[ep] at p1⊢;have hp:p<(AA (gAt gs i) (hAt (Ak gs (z9 gs) ms) i)).ws.length:=by rw[egs];show p<ws.length;lia
   clear 5(Fa hp)side' ws' e1 hp' ew;rw[egs] at e1;injection e1 with e1 e2
   subst e1 e2;have hw:=Ec hgo hlt hp;have hdr:Dr 2 (wdAt (gAt gs i) (hAt (Ak gs (z9 gs) ms) i) p).2.1:=by
    have hgk:gAt gs i∈gs:=by
     unfold gAt;rw[ua6,ub2 hi];exact ui1 hi
    have ht:=hT.tin _ hgk _ (MZ hlt);rw[egs] at ht;exact ht _ (ud8 ew)
   refine AR (IB ew) ?_;unfold wdD;symm;refine(hv _ hdr.dep hdr.ok hdr.nar hdr.tin (c/12) S).mono λr S' z9=>?_;clear 5 z9 e v l er hf;have e:=e.symm;subst e er;have hm:MvOk (gAt gs i) (hAt (Ak gs (z9 gs) ms) i) p v:=⟨hlt,hp,hf⟩;symm;refine Bb (by lia) ?_;symm;refine SN rfl ?_;symm;refine⟨_,_,i,rfl,rfl,BP (by lia) (by unfold nD;rw[ui8];lia),?_⟩;refine⟨rfl,ms++[(i,p,v)],vw (.int c),vw (.int (i:Nat)),vw (.tup [.str side,.lst (ws.map wdD)]),vw (.str (wdAt (gAt gs i) (hAt (Ak gs (z9 gs) ms) i) p).1),some (.val (wdAt (gAt gs i) (hAt (Ak gs (z9 gs) ms) i) p).2.1.d),vw (.int (wdAt (gAt gs i) (hAt (Ak gs (z9 gs) ms) i) p).2.2),(Ep gs ms _ _).mpr ⟨hok,⟨hi,hm⟩,trivial⟩,by rw[uf3];exact un6 _,?_⟩;have e3:(nD (Ak gs (z9 gs) ms)).set i (.int (wdAt (gAt gs i) (hAt (Ak gs (z9 gs) ms) i) p).2.2)=nD (nxH gs (Ak gs (z9 gs) ms) (i,p,v)):=by
    unfold nxH;rw[<-RQ];unfold AZ
    congr 2
    have:=hw.lo;dsimp only;lia
   have e4:syD gs (Ak gs (z9 gs) ms) (i,p,v)=.tup [.int (i:Nat),.str side,.str (wdAt (gAt gs i) (hAt (Ak gs (z9 gs) ms) i) p).1,v]:=by unfold syD sayD;rw[egs];rfl
   rw[Op,EN,dsS,dsS,e4,<-e3];rfl
def QH(f:Fn):Prop:=∀(gs:List (List GS)) (cells:List Int) (S:List Ob),GT gs->1<=gs.length->cells.length<=40->Wf f [gsD gs,.lst (cells.map D.int)] S λr S'=>S'=S/\∃ms,r=.lst (dsS gs (z9 gs) ms)/\okS gs (z9 gs) ms/\ms.length<=40
theorem YD{cv:Fn}(hv:IH cv 3):QH (fnOf 2 10 (EC cv)):=by
 intro gs cells S hT g1 hc;have hL:LIM=100000:=rfl;have g9:=hT.n9;refine Ap rfl ?_;unfold EC;symm;unfold gsD;symm;refine(FC (l:=gs) (f:=λ_=>.int 0) (fr:=[]) ?_).mono ?_
 .intro g _;symm;exact⟨rfl,rfl⟩
 rintro xs tc ⟨rfl,hS⟩;refine Bb (by rw[ui8,hL];lia) ?_;rw[hS];have ez:(gs.map λ_=>D.int 0)=nD (z9 gs):=by
  unfold nD;rw[List.map_replicate,<-List.map_const];rfl
 rw[ez];symm;refine BX (λr t=>∃(ms:List Sy) (rs:List Int) (e4 e5 e6 e7 e8 e9:Option Sl),r=rs.map D.int/\ms.length+rs.length<=40/\okS gs (z9 gs) ms/\t=⟨[vw (gsD gs),vw (.lst (cells.map D.int)),some (.own (nD (Ak gs (z9 gs) ms))),some (.own (dsS gs (z9 gs) ms)),e4,e5,e6,e7,e8,e9],S⟩) _ _ ⟨[],cells,none,none,none,none,none,none,rfl,by rw[uj7];lia,trivial,rfl⟩ ?_ ?_
 .rintro d r t ⟨ms,rs,e4,e5,e6,e7,e8,e9,hr,hl,hok,rfl⟩ _
  cases rs with
  |nil=>cases hr
  |cons c rs=>
    rw[ul3] at hr;injection hr with h1 h2
    subst h1 h2;rw[uh1] at hl;refine E5 ?_;refine(Qr hv hT g1 (c:=c) hok (by lia)).mono λo t z9=>?_;clear 5 z9 z1 ms' f4 f5 f6 f7 f8 f9 z2 z3 z4;subst z1 z4;exact⟨ms',rs,_,_,_,_,_,_,rfl,by lia,z2,rfl⟩
 .rintro t ⟨ms,rs,e4,e5,e6,e7,e8,e9,hr,hl,hok,rfl⟩;symm;exact⟨rfl,ms,rfl,hok,by lia⟩
def TL(S:List Ob)(d:D)(xs:List D):Prop:=d=.lst xs\/∃K,d=.obj K/\S[K]?=some (.lst xs)
theorem TL.gr{d:D}(h:TL S d xs)(g:Gr S S'):TL S' d xs:=h.imp id λ⟨K,e,q⟩=>⟨K,e,g.get q⟩
theorem SM{d:D}(h:TL t.S d xs)(p:P (.int xs.length) t):L2.W (AC [d]) t P:=by
 rcases h with rfl|⟨K,rfl,e⟩
 .exact Mo p
 .exact Fc e p
theorem KB{d:D}{i:Int}(h:TL t.S d xs)(e:atI xs i=some y)(p:P y t):L2.W (ixD d (.int i)) t P:=by
 rcases h with rfl|⟨K,rfl,e0⟩
 .exact AR e p
 .exact W_ix_obj.mpr ⟨_,e0,_,e,p⟩
def JM(f:Fn):Prop:=∀(g:List GS) (mv:List Mv) (S:List Ob) (d:D),GOk g->okQ g 0 mv->mv.length<=60000->TL S d (AJ g 0 mv)->PureS S f [.lst (g.map GS.d),d] (.lst (Bk g 0 mv))
theorem Xg(hn:FP cn)(hp:GZ cp):JM (fnOf 2 7 (Hm cn cp)):=by
 intro g mv S dd hg hk hl hT;have hL:LIM=100000:=rfl;refine Ap rfl ?_;unfold Hm;left;refine SM hT ?_;left;rw[CV];refine FA (Bg (by lia) (by lia)) ?_;refine BX (λr t=>∃(j:Nat) (e4 e5 e6:Option Sl),j<=mv.length/\r=(AM 0 ((mv.length:Nat):Int).toNat).drop j/\t=⟨[vw (.lst (g.map GS.d)),vw dd,vw (.int (AB g 0 (mv.take j))),some (.own (Bk g 0 (mv.take j))),e4,e5,e6],S⟩) _ _ ⟨0,none,none,none,un7 _,rfl,rfl⟩ ?_ ?_
 .rintro d' r t ⟨j,e4,e5,e6,hj,hr,rfl⟩ _;clear 5(E2 hr)rfl hr' hjm;rw[ug7] at hjm;rw[un5];have hlt:=OF hg hg.ne (T9 hk j);obtain⟨p,v,hpv⟩:∃p v,mv[j]=(p,v):=⟨_,_,rfl⟩;have em:mv[j]?=some (p,v):=by rw[ub2 hjm,hpv]
  have hmv:=OM hk em;have hmsg:atI (AJ g 0 mv) (j:Int)=some (Dn g (AB g 0 (mv.take j)) p v):=by
   unfold atI;rw[BP (by lia) (by rw[CV];lia)];show(AJ g 0 mv)[(j:Int).toNat]?=_;rw[ug7,Ik g 0 mv j p v em]
  have htk:mv.take (j+1)=mv.take j++[(p,v)]:=by rw[List.take_succ_eq_append_getElem hjm,hpv]
  left;refine AR (Ed hlt) ?_;left;refine KB hT hmsg ?_;left;refine(hp g _ p v hg hmv).use ?_;left;refine Bb (by rw[EI,uh3,hL];lia) ?_;left;refine(hn g _ p hg hlt hmv.pl).use ?_;left;refine⟨j+1,_,_,_,hjm,hr',t7 ?_ ?_⟩
  .rw[htk,Ig];rfl
  .rw[htk,Hz];rfl
 .rintro t ⟨j,e4,e5,e6,hj,hr,rfl⟩;have hz:=gY List.length hr;rw[uj7,uh4,CH,ug7] at hz;have hje:j=mv.length:=by lia
  subst hje;rw[ui4];left;exact⟨rfl,rfl⟩
def GH(f:Fn):Prop:=∀(g:List GS) (mv:List Mv) (S:List Ob) (dd:D),TL S dd (AJ g 0 mv)->GOk g->okQ g 0 mv->mv.length<=60000->(AE g sL 0 mv).length<=25000->(AE g sR 0 mv).length<=25000->Wf f [.lst (g.map GS.d),dd] S λr S'=>∃K A B,r=.tup [.obj A,.obj B]/\Wr K A B S' (AE g sL 0 mv) (AE g sR 0 mv)/\Gr S S'/\S.length<=A/\S.length<=B
theorem Xv{cs:Fn}(hm:IF cm)(hs:JM cs):GH (fnOf 2 6 (Hn cm cs)):=by
 intro g mv S dd hT hg hk hlen hll hlr;have hL:LIM=100000:=rfl;refine Ap rfl ?_;unfold Hn;left;refine Va ?_;refine FJ ?_;left;refine FJ ?_;left;refine LX ?_;refine⟨by simp,by show 2<=15;decide,?_⟩;obtain⟨S1,hS1⟩:∃S1:List Ob,S1=(S++[Ob.dct []]++[Ob.lst []]++[Ob.lst []]).set S.length (.dct (Eo [(kL,.obj (S++[Ob.dct []]).length),(kRt,.obj (S++[Ob.dct []]++[Ob.lst []]).length)])):=⟨_,rfl⟩;have w0:Wr S.length (S++[Ob.dct []]).length (S++[Ob.dct []]++[Ob.lst []]).length S1 [] []:=by
  rw[hS1,M5];refine⟨IR (o:=.dct []) (by simp),?_,?_,by simp,by simp,by simp⟩
  .rw[ud7 (by simp)];simp
  .rw[ud7 (by simp)];simp
 have hFS:Gr S S1:=by
  rw[hS1];exact Gr.set ((Gr.app.trans Gr.app).trans Gr.app) (un6 _)
 have hne:S.length<=(S++[Ob.dct []]).length/\S.length<=(S++[Ob.dct []]++[Ob.lst []]).length:=by
  simp only[uf3,uh1,uj7];exact⟨by lia,by lia⟩
 refine Bj ?_;show W _ ⟨[vw (.lst (g.map GS.d)),vw dd,vw (.obj S.length),none,none,none],(S++[Ob.dct []]++[Ob.lst []]++[Ob.lst []]).set S.length (.dct (Eo [(kL,.obj (S++[Ob.dct []]).length),(kRt,.obj (S++[Ob.dct []]++[Ob.lst []]).length)]))⟩ _;rw[<-hS1];clear hS1;generalize (S++[Ob.dct []]++[Ob.lst []]).length=B at w0 hne;generalize (S++[Ob.dct []]).length=A at w0 hne;generalize hSK:S.length=K at w0⊢;left;refine(hs g mv S1 dd hg hk (by lia) (hT.gr hFS)).use ?_;left;rw[EI];refine FA (Bg (by lia) (by lia)) ?_;refine BX (λr t=>∃(j:Nat) (S':List Ob) (e4 e5:Option Sl),j<=mv.length/\r=(AM 0 ((mv.length:Nat):Int).toNat).drop j/\Wr K A B S' (AE g sL 0 (mv.take j)) (AE g sR 0 (mv.take j))/\Gr S S'/\t=⟨[vw (.lst (g.map GS.d)),vw dd,vw (.obj K),vw (.lst (Bk g 0 mv)),e4,e5],S'⟩) _ _ ⟨0,S1,none,none,by lia,rfl,w0,hFS,rfl⟩ ?_ ?_
 .rintro d' r t ⟨j,S',e4,e5,hjl,hr,hw,hF',rfl⟩ _;clear 5(E2 hr)rfl hr' hjn;rw[ug7] at hjn;rw[un5]
  cases em:mv[j]? with
  |none=>rw[ub0] at em;lia
  |some x=>
  clear 5 x p v;have hm':=OM hk em;have htk:mv.take (j+1)=mv.take j++[(p,v)]:=by
   rw[List.take_succ,em];rfl
  have hsi:atI (Bk g 0 mv) j=some (.tup [.int (AB g 0 (mv.take j)),.int p]):=by
   unfold atI;rw[BP (by lia) (by rw[EI];lia)];show(Bk g 0 mv)[(j:Int).toNat]?=_;rw[ug7,Ks g 0 mv j p v em]
  have hmi:atI (AJ g 0 mv) j=some (Dn g (AB g 0 (mv.take j)) p v):=by
   unfold atI;rw[BP (by lia) (by rw[CV];lia)];show(AJ g 0 mv)[(j:Int).toNat]?=_;rw[ug7,Ik g 0 mv j p v em]
  have hside:=Pb hg hm';have lA:=Go g sL mv j;have lB:=Go g sR mv j;have lA':=Go g sL mv (j+1);have lB':=Go g sR mv (j+1);have nA:AE g sL 0 (mv.take (j+1))=AE g sL 0 (mv.take j)++(if (AA g (AB g 0 (mv.take j))).side=sL then D.int p::As (wdAt g (AB g 0 (mv.take j)) p).2.1 v else []):=by
   rw[htk,Fm,AE,AE,uj0]
  have nB:AE g sR 0 (mv.take (j+1))=AE g sR 0 (mv.take j)++(if (AA g (AB g 0 (mv.take j))).side=sR then D.int p::As (wdAt g (AB g 0 (mv.take j)) p).2.1 v else []):=by
   rw[htk,Fm,AE,AE,uj0]
  have hbd:(As (wdAt g (AB g 0 (mv.take j)) p).2.1 v).length<=25000:=by
   rcases hside with h|h
   .rw[nA,hX h,uf3,uh1] at lA';lia
   .rw[nB,hX h,uf3,uh1] at lB';lia
  generalize hq:AB g 0 (mv.take j)=q at *;have hix:∀(t:T) (P:D->T->Prop),P (.str (AA g q).side) t->W (ixD (AA g q).d (.int 0)) t P:=λt P h=>by
   cases e:AA g q with
   |fin=>rw[e] at h;rw[GS.d];exact E4 II h
   |st s w=>rw[e] at h;rw[GS.d];exact E4 II h
  left;refine AR hsi ?_;left;refine AR (Ed hm'.lt) ?_;left;obtain⟨C,xs,hCn,hC,hxl,hget,hnew⟩:∃(C:Nat) (xs:List D),S.length<=C/\S'[C]?=some (.lst xs)/\xs.length<=25000/\Ct [(kL,.obj A),(kRt,.obj B)] (.inr (AA g q).side)=some (.obj C)/\Wr K A B (S'.set C (.lst (xs++D.int p::As (wdAt g q p).2.1 v))) (AE g sL 0 (mv.take (j+1))) (AE g sR 0 (mv.take (j+1))):=by
   rcases hside with h|h
   .refine⟨A,_,hne.1,hw.a,by lia,by rw[h];exact K6,?_⟩;rw[nA,nB,hX h,ia (by rw[h];exact sLR),uj0];exact hw.setA
   .refine⟨B,_,hne.2,hw.b,by lia,by rw[h];exact K7,?_⟩;rw[nA,nB,hX h,ia (by rw[h];exact Ne.symm sLR),uj0];exact hw.setB
  refine Je (k:=C) ?_;left;refine hix _ _ ?_;refine Du hw.k hget ?_;refine⟨rfl,_,hC,?_⟩;left;refine AR hsi ?_;left;refine KB (hT.gr hF') hmi ?_;unfold Dn;left;refine(hm g q p v hg hm' (by lia)).use ?_;left;refine⟨xs,_,hC,hX (by rw[hL,uh1];lia),?_⟩;exact⟨j+1,_,_,_,hjn,hr',hnew,hF'.set hCn,rfl⟩
 .rintro t ⟨j,S',e4,e5,hjl,hr,hw,hF',rfl⟩;have hj':j=mv.length:=by
   have:=gY List.length hr;rw[uj7,uh4,CH,ug7] at this;lia
  subst hj';rw[ui4] at hw;left;refine Du hw.k K6 ?_;left;refine Du hw.k K7 ?_;left;exact⟨K,A,B,rfl,hw,hF',by rw[<-hSK];exact hne.1,by rw[<-hSK];exact hne.2⟩
noncomputable def Lf(s:Str)(w:List D×List D)(l:List D):List D×List D:=if s=sL then(w.1++l,w.2) else(w.1,w.2++l)
structure WSl(S:List Ob)(W A B N:Nat)(hs:List Nat)(w:List D×List D)(S':List Ob):Prop where
 gr:Gr S S'
 low:S.length<=W/\S.length<=A/\S.length<=B/\S.length<=N
 ne:A≠B/\N≠A/\N≠B/\N≠W/\W≠A/\W≠B
 w0:S'[W]?=some (.dct (lr (.obj A) (.obj B)))
 a0:S'[A]?=some (.lst w.1)
 b0:S'[B]?=some (.lst w.2)
 n0:S'[N]?=some (.lst (nD hs))
def IG(f:Fn):Prop:=∀(gs:List (List GS)) (hs:List Nat) (S:List Ob) (K:Nat) (m:Sy),(∀g∈gs,GOk g)->gs.length<=9->hs.length=gs.length->m.1<gs.length/\MvOk (gAt gs m.1) (hAt hs m.1) m.2.1 m.2.2->S[K]?=some (.lst (nD hs))->PureS S f [gsD gs,.obj K,syD gs hs m] (.int (m.2.1:Nat))
theorem Qi{cs:Fn}(hs0:GZ cs)(hw:FR cw):IG (fnOf 3 4 (EW cs cw)):=by
 intro gs hs S K m hg g9 hlen h1 hK;have hL:LIM=100000:=rfl;refine Ap rfl ?_;unfold EW syD sayD;symm;unfold gsD;symm;rw[ui8];refine(hw (.int (m.1:Nat)) 0 _ rfl).use ?_;symm;refine Cc (by simp[E6];lia) ?_;symm;refine AR (EA h1.1) ?_;symm;refine N0 hK (Il (by lia)) ?_;refine AR (Ed h1.2.lt) ?_;symm;refine(hs0 (gAt gs m.1) (hAt hs m.1) m.2.1 m.2.2 (Cb hg h1.1) h1.2).use ?_;symm;exact⟨rfl,rfl⟩
theorem UL(hn:FP cn)(hm:IF cm)(hp:IG cp){gs:List (List GS)}{ds:List D}{sd0:D}{S S':List Ob}{W A B N j:Nat}{hs:List Nat}{w:List D×List D}{i p:Nat}{v:D}{e5 e6 e7:Option Sl}(hg:∀g∈gs,GOk g)(g9:gs.length<=9)(ho:HsOk gs hs)(hi:i<gs.length)(hmv:MvOk (gAt gs i) (hAt hs i) p v)(hsd:TL S sd0 ds)(hd:ds[j]?=some (syD gs hs (i,p,v)))(hw:WSl S W A B N hs w S')(hT:GT gs)(hsz:w.1.length+w.2.length+54<=80000) :
 L2.W (N3 cn cm cp) ⟨[vw (gsD gs),vw sd0,vw (.obj W),vw (.obj N),vw (.int (j:Nat)),e5,e6,e7],S'⟩ λo t=>o=.next/\∃S'' f5 f6 f7,WSl S W A B N (nxH gs hs (i,p,v)) (Lf (sdS gs hs (i,p,v)) w (.int (i:Nat)::pbS gs hs (i,p,v))) S''/\t=⟨[vw (gsD gs),vw sd0,vw (.obj W),vw (.obj N),vw (.int (j:Nat)),f5,f6,f7],S''⟩:=by
 have hL:LIM=100000:=rfl;have hd:ds[j]?=some (.tup [.int (i:Nat),.str (AA (gAt gs i) (hAt hs i)).side,.str (wdAt (gAt gs i) (hAt hs i) p).1,v]):=hd;unfold N3;symm;refine KB (hsd.gr hw.gr) (B7 hd) ?_;symm;refine(hp gs hs S' N (i,p,v) hg g9 ho.len ⟨hi,hmv⟩ hw.n0).use ?_;have hgo:=Cb hg hi;have hlt:=ho.lt i hi;have hgs:=EQ hgo hlt;have hwd:=Ec hgo hlt hmv.pl;clear 5(Fa hmv.pl)side ws egs hp' ew;rw[egs] at hgs;clear 5(Lm hgs)s rfl;have hbl:(As (wdAt (gAt gs i) (hAt hs i) p).2.1 v).length<=52:=HZ hT hi hmv;have hgget:=Ed hlt;rw[egs,GS.d] at hgget;have hmb:=hm (gAt gs i) (hAt hs i) p v hgo hmv (by lia);rw[egs,GS.d] at hmb;have hnx:=hn (gAt gs i) (hAt hs i) p hgo hlt hmv.pl;show Hx _ _ .next ⟨[vw (gsD gs),_,_,_,_,vw (.int (p:Nat)),_,_],S'⟩;unfold gsD;symm;refine KB (hsd.gr hw.gr) (B7 hd) ?_;symm;refine AR (EA hi) ?_;symm;refine N0 hw.n0 (Il (by rw[ho.len];exact hi)) ?_;refine AR hgget ?_;symm;refine Je (k:=if s=true then A else B) ?_;symm;refine Du hw.w0 (lrF (λs=>.obj (if s=true then A else B)) s) ?_;have hAB:S'[if s=true then A else B]?=some (.lst (if s=true then w.1 else w.2)):=by cases s;exact hw.b0;exact hw.a0
 refine⟨rfl,_,hAB,?_⟩;symm;refine KB (hsd.gr hw.gr) (B7 hd) ?_;symm;refine hmb.use ?_;symm;refine Bb (by show 1+(_+1)<=_;lia) ?_;symm;have hle:(if s=true then w.1 else w.2).length+(As (wdAt (gAt gs i) (hAt hs i) p).2.1 v).length+2<=LIM:=by
  rw[hL]
  cases s
  .show w.2.length+_+2<=_;lia
  .show w.1.length+_+2<=_;lia
 refine⟨_,(if s=true then w.1 else w.2)++(.int (i:Nat)::.int (p:Nat)::As (wdAt (gAt gs i) (hAt hs i) p).2.1 v),hAB,?_,?_⟩
 .show(if _ then _ else _)=_;rw[hX (by show _+(_+1+1)<=_;lia)];rfl
 have n1:N≠if s=true then A else B:=by cases s;exact hw.ne.2.2.1;exact hw.ne.2.1
 have hW':=Ai (o:=.lst ((if s=true then w.1 else w.2)++(.int (i:Nat)::.int (p:Nat)::As (wdAt (gAt gs i) (hAt hs i) p).2.1 v))) hw.w0 (by cases s;exact Ne.symm hw.ne.2.2.2.2.2;exact Ne.symm hw.ne.2.2.2.2.1:(if s=true then A else B)≠W);have hN':=Ai (o:=.lst ((if s=true then w.1 else w.2)++(.int (i:Nat)::.int (p:Nat)::As (wdAt (gAt gs i) (hAt hs i) p).2.1 v))) hw.n0 (Ne.symm n1);have hlo:S.length<=if s=true then A else B:=by cases s;exact hw.low.2.2.1;exact hw.low.2.1
 have key:WSl S W A B N hs (Lf (sd s) w (.int (i:Nat)::.int (p:Nat)::As (wdAt (gAt gs i) (hAt hs i) p).2.1 v)) (S'.set (if s=true then A else B) (.lst ((if s=true then w.1 else w.2)++(.int (i:Nat)::.int (p:Nat)::As (wdAt (gAt gs i) (hAt hs i) p).2.1 v)))):=by
  refine⟨hw.gr.set hlo,hw.low,hw.ne,hW',?_,?_,hN'⟩
  .cases s
   .rw[show Lf (sd false) w _=(w.1,w.2++_) from rfl];exact Ai hw.a0 (Ne.symm hw.ne.1)
   .exact A8 hw.a0
  .cases s
   .exact A8 hw.b0
   .rw[show Lf (sd true) w _=(w.1++_,w.2) from rfl];exact Ai hw.b0 hw.ne.1
 generalize S'.set (if s=true then A else B) (.lst ((if s=true then w.1 else w.2)++(.int (i:Nat)::.int (p:Nat)::As (wdAt (gAt gs i) (hAt hs i) p).2.1 v)))=S2 at key⊢;refine Bj ?_;symm;refine AR (EA hi) ?_;symm;refine N0 key.n0 (Il (by rw[ho.len];exact hi)) ?_;symm;refine hnx.use ?_;symm;refine bx key.n0 (BP (by lia) (by unfold nD;rw[ui8,ho.len];lia)) ?_;rw[ug7,RQ];have es:sdS gs hs (i,p,v)=sd s:=by unfold sdS;rw[egs];rfl
 refine⟨rfl,_,_,_,_,⟨key.gr.set hw.low.2.2.2,hw.low,hw.ne,Ai key.w0 hw.ne.2.2.2.1,?_,?_,A8 key.n0⟩,rfl⟩
 .rw[es];exact Ai key.a0 hw.ne.2.1
 .rw[es];exact Ai key.b0 hw.ne.2.2.1
theorem WM(hg:∀g∈gs,GOk g){hs:List Nat}{m:Sy}(h:m.1<gs.length/\MvOk (gAt gs m.1) (hAt hs m.1) m.2.1 m.2.2)(w:List D×List D):Lf (sdS gs hs m) w (.int (m.1:Nat)::pbS gs hs m)=(w.1++byS gs true hs m,w.2++byS gs false hs m):=by
 obtain⟨s,ws,egs,_⟩:=Ix hg h;have es:sdS gs hs m=sd s:=by unfold sdS;rw[egs];rfl
 unfold byS Lf;rw[es]
 cases s with
 |true=>rw[hX (show sd true=sL from rfl),hX rfl,ia (by decide),uj0]
 |false=>rw[ia (show sd false≠sL by decide),ia (by decide),hX rfl,uj0]
theorem Pm{cn cm cp:Fn}(hn:FP cn)(hm:IF cm)(hp:IG cp){gs:List (List GS)}{ds:List D}{sd0:D}{S:List Ob}{W A B N:Nat}(hT:GT gs)(hsd:TL S sd0 ds)(hg:∀g∈gs,GOk g)(g9:gs.length<=9):∀(r:List Sy) (j:Nat) (hs:List Nat) (w:List D×List D) (S':List Ob) (e4 e5 e6 e7:Option Sl),ds.drop j=dsS gs hs r->okS gs hs r->HsOk gs hs->WSl S W A B N hs w S'->w.1.length+w.2.length+r.length*54<=80000->
 L2.W (Cl (Ao 4) (N3 cn cm cp) (AM (j:Int) r.length)) ⟨[vw (gsD gs),vw sd0,vw (.obj W),vw (.obj N),e4,e5,e6,e7],S'⟩ λo t=>o=.next/\∃hs' S'' e4 e5 e6 e7,WSl S W A B N hs' (w.1++wS gs true hs r,w.2++wS gs false hs r) S''/\t=⟨[vw (gsD gs),vw sd0,vw (.obj W),vw (.obj N),e4,e5,e6,e7],S''⟩
 |[],j,hs,w,S',e4,e5,e6,e7,hd,hok,ho,hw,hsz=>W_forL_nil.mpr ⟨rfl,hs,S',e4,e5,e6,e7,by rw[wS,wS,uj0,uj0];exact hw,rfl⟩
 |(i,p,v)::r,j,hs,w,S',e4,e5,e6,e7,hd,⟨h1,h2⟩,ho,hw,hsz=>by
   have hj:ds[j]?=some (syD gs hs (i,p,v)):=by rw[<-uk2,hd];rfl
   have hd2:ds.drop (j+1)=dsS gs (nxH gs hs (i,p,v)) r:=by rw[<-uk9,hd];rfl
   rw[uh1,Nat.succ_mul] at hsz;rw[uh1,Sm,E7];refine E5 ?_;refine(UL (v:=v) hn hm hp hg g9 ho h1.1 h1.2 hsd hj hw hT (by lia)).mono λo t z9=>?_;clear 5 z9 e1 S'' f5 f6 f7 hw2 e2;subst e1 e2;rw[WM hg h1] at hw2;have hwd:=Ec (Cb hg h1.1) h1.2.lt h1.2.pl;have hbl:(As (wdAt (gAt gs i) (hAt hs i) p).2.1 v).length<=52:=HZ hT h1.1 h1.2;have hln:(byS gs true hs (i,p,v)).length+(byS gs false hs (i,p,v)).length<=54:=by
    unfold byS pbS
    by_cases q:sdS gs hs (i,p,v)=sd true
    .rw[hX q,ia (by rw[q];decide)];simp only[uh1,uj7];lia
    .rw[ia q]
     split
     .simp only[uh1,uj7];lia
     .simp
   have:=Pm hn hm hp hT hsd hg g9 r (j+1) _ _ S'' (vw (.int (j:Nat))) f5 f6 f7 hd2 h2 (ho.next hg h1.1 h1.2) hw2 (by rw[uf3,uf3];lia);rw[show((j+1:Nat):Int)=(j:Int)+1 by lia] at this;dsimp only at this;rw[ug3,ug3] at this;exact this
def WBl(f:Fn):Prop:=∀(gs:List (List GS)) (ms:List Sy) (S:List Ob) (sd0:D),GT gs->okS gs (z9 gs) ms->ms.length<=40->TL S sd0 (dsS gs (z9 gs) ms)->Wf f [gsD gs,sd0] S λq S'=>Gr S S'/\∃A B,A≠B/\S.length<=A/\S.length<=B/\q=.tup [.obj A,.obj B]/\S'[A]?=some (.lst (wS gs true (z9 gs) ms))/\S'[B]?=some (.lst (wS gs false (z9 gs) ms))
theorem ZU(hn:FP cn)(hm:IF cm)(hp:IG cp):WBl (fnOf 2 8 (DZ cn cm cp)):=by
 intro gs ms S sd0 hT hok hq hsd;have hg:=hT.ok;have g9:=hT.n9;have hL:LIM=100000:=rfl;refine Ap rfl ?_;unfold DZ;symm;refine Lq ?_;symm;refine⟨by simp,?_⟩;symm;unfold gsD;symm;refine(FC (l:=gs) (f:=λ_=>.int 0) (fr:=[]) ?_).mono ?_
 .intro g _;symm;exact⟨rfl,rfl⟩
 rintro xs tc ⟨rfl,hS⟩;refine Bb (by rw[ui8,hL];lia) ?_;rw[hS];have ez:(gs.map λ_=>D.int 0)=nD (List.replicate gs.length 0):=by
  unfold nD;rw[List.map_replicate,<-List.map_const];rfl
 rw[ez];symm;refine SM (hsd.gr ((((Gr.app.trans Gr.app).trans Gr.app).set (un6 _)).trans Gr.app)) ?_;symm;refine FA (Bg (by lia) (by rw[IL];lia)) ?_;rw[ug7,IL];show L2.W (Cl (Ao 4) (N3 cn cm cp) (AM ((0:Nat):Int) ms.length)) ⟨[vw (gsD gs),vw sd0,vw (.obj S.length),vw (.obj ((S++[Ob.dct []]++[Ob.lst []]++[Ob.lst []]).set S.length (.dct (lr (.obj (S++[Ob.dct []]).length) (.obj (S++[Ob.dct []]++[Ob.lst []]).length)))).length),none,none,none,none],(S++[Ob.dct []]++[Ob.lst []]++[Ob.lst []]).set S.length (.dct (lr (.obj (S++[Ob.dct []]).length) (.obj (S++[Ob.dct []]++[Ob.lst []]).length)))++[.lst (nD (List.replicate gs.length 0))]⟩ _;have lA:(S++[Ob.dct []]).length=S.length+1:=by simp
 have lB:(S++[Ob.dct []]++[Ob.lst []]).length=S.length+2:=by simp
 have lN:((S++[Ob.dct []]++[Ob.lst []]++[Ob.lst []]).set S.length (.dct (lr (.obj (S++[Ob.dct []]).length) (.obj (S++[Ob.dct []]++[Ob.lst []]).length)))).length=S.length+3:=by simp
 have g0:(S++[Ob.dct []]++[Ob.lst []]++[Ob.lst []])[S.length]?=some (.dct []):=by simp
 have gA:(S++[Ob.dct []]++[Ob.lst []]++[Ob.lst []])[S.length+1]?=some (.lst []):=by simp
 have gB:(S++[Ob.dct []]++[Ob.lst []]++[Ob.lst []])[S.length+2]?=some (.lst []):=by simp
 have h0:WSl S S.length (S.length+1) (S.length+2) (S.length+3) (List.replicate gs.length 0) ([],[]) ((S++[Ob.dct []]++[Ob.lst []]++[Ob.lst []]).set S.length (.dct (lr (.obj (S.length+1)) (.obj (S.length+2))))++[.lst (nD (List.replicate gs.length 0))]):=by
  refine⟨(((Gr.app.trans Gr.app).trans Gr.app).set (un6 _)).trans Gr.app,⟨by lia,by lia,by lia,by lia⟩,⟨by lia,by lia,by lia,by lia,by lia,by lia⟩,Gr.app.get (A8 g0),Gr.app.get (Ai gA (by lia)),Gr.app.get (Ai gB (by lia)),?_⟩;rw[ua4 (by rw[uj3];simp)];rw[uj3];simp
 rw[lN,lA,lB];refine(Pm hn hm hp hT hsd hg g9 ms 0 _ ([],[]) _ none none none none rfl hok (Ia hg) h0 (by show 0+0+_<=_;lia)).mono λo t z9=>?_;clear 5 z9 q1 hs' S'' e4 e5 e6 e7 hw q2;subst q1 q2;symm;refine Du hw.w0 (lrF (λs=>.obj (if s=true then S.length+1 else S.length+2)) true) ?_;symm;refine Du hw.w0 (lrF (λs=>.obj (if s=true then S.length+1 else S.length+2)) false) ?_;symm;exact⟨hw.gr,_,_,hw.ne.1,hw.low.2.1,hw.low.2.2.1,rfl,hw.a0,hw.b0⟩
def IC(f:Fn):Prop:=∀(g:List GS) (mv:List Mv) (S:List Ob) (d:D),GOk g->okQ g 0 mv->mv.length<=60000->TL S d (AJ g 0 mv)->PureS S f [.lst (g.map GS.d),d] (.int (AB g 0 mv))
theorem Ta{cs:Fn}(hn:FP cn)(hs:JM cs):IC (fnOf 2 3 (EX cn cs)):=by
 intro g mv S dd hg hk hl hT;refine Ap rfl ?_;unfold EX;left;refine(hs g mv S dd hg hk (by lia) hT).use ?_;left;rw[EI];refine DT (λq=>?_) λq=>?_
 .have:mv=[]:=by
   have:(mv.length:Int)=0:=by simpa using q
   exact List.length_eq_zero_iff.mp (by lia)
  subst this;left;exact⟨rfl,rfl⟩
 .have hne:mv≠[]:=by intro z;subst z;simp at q
  obtain⟨mv',x,rfl⟩:∃l x,mv=l++[x]:=⟨mv.dropLast,mv.getLast hne,(List.dropLast_concat_getLast hne).symm⟩;clear 5 x p v;rw[EY] at hk;have hm:=hk.2.1;have hst:Bk g 0 (mv'++[(p,v)])=Bk g 0 mv'++[.tup [.int (AB g 0 mv'),.int p]]:=by rw[Hz];rfl
  rw[hst];have hlast:atI (Bk g 0 mv'++[D.tup [.int (AB g 0 mv'),.int p]]) (-1)=some (.tup [.int (AB g 0 mv'),.int p]):=by
   unfold atI ixN;simp only[uf3,uh1,uj7];rw[ia (by lia),hX (by lia)];rw[show(-1+((Bk g 0 mv').length+(0+1):Nat):Int).toNat=(Bk g 0 mv').length by lia];simp
  left;refine AR hlast ?_;left;refine(hn g _ p hg hm.lt hm.pl).use ?_;rw[Ig];left;exact⟨rfl,rfl⟩
abbrev z0(gs:List (List GS)):List Nat:=List.replicate gs.length 0
structure GdS(ms:List Sy):Prop where
 len:ms.length<=25
 vz:∀m∈ms,LW.vz m.2.2<=2370
structure WS(S:List Ob)(W A B N:Nat)(hs:List Nat)(w:List D×List D)(S':List Ob):Prop where
 gr:Gr S S'
 low:S.length<=W/\S.length<=A/\S.length<=B/\S.length<=N
 ne:A≠B/\N≠A/\N≠B/\N≠W/\W≠A/\W≠B
 w0:S'[W]?=some (.dct (lr (.obj A) (.obj B)))
 a0:S'[A]?=some (.lst w.1)
 b0:S'[B]?=some (.lst w.2)
 n0:S'[N]?=some (.lst (nD hs))
structure TkO(S:List Ob)(gs:List (List GS))(n0:Nat)(f:Nat->Ob):Prop where
 at':∀k,k<gs.length->S[n0+k]?=some (f k)
theorem Sn{k:Nat}(h:k<n):atI ((List.range' n0 n).map D.obj) (k:Int)=some (.obj (n0+k)):=by
 refine B7 ?_;rw[ug1,List.getElem?_range' h];simp
theorem K2{gs:List (List GS)}(k:Nat):∀(ms:List Sy) (hs:List Nat),hs.length=gs.length->(∀m∈ms,m.1<gs.length)->hAt (Ak gs hs ms) k=AB (gAt gs k) (hAt hs k) (tkS k ms)
 |[],hs,_,_=>rfl
 |m::r,hs,hl,hm=>by
   have h1:=hm m uf0;rw[Ak,K2 k r _ ((BF ..).trans hl) λx hx=>hm x (ud5 _ hx)]
   by_cases q:m.1=k
   .subst q;rw[D6 (by lia),hX rfl,Bs rfl];rfl
   .rw[A7 (by lia) λz=>q z.symm,BQ q]
theorem CS(hl:hs.length=gs.length)(h:okS gs hs ms):∀m∈ms,m.1<gs.length:=((B4 ms hs hl).mp h).1
theorem R4{a:List Sy}{r:List Sy}(h:okS gs hs (a++m::r)):m.1<gs.length/\MvOk (gAt gs m.1) (hAt (Ak gs hs a) m.1) m.2.1 m.2.2:=((Ep gs a _ hs).mp h).2.1
theorem FK(gs:List (List GS))(k:Nat):hAt (z0 gs) k=0:=by
 unfold hAt;rw[ua6,ub3]
 split<;>rfl
theorem Rh{k:Nat}(h:Gr S S')(hk:S.length<=k):Gr S (S'.set k o):=⟨by rw[uj3];exact h.1,λi hi=>by rw[ud7 (by lia)];exact h.2 i hi⟩
def rtI(s:Bool):Int:=if id (sd s==Str.ofString "right")=true then 1 else 0
theorem Ko(F:Bool->D)(s:Bool):atI [F true,F false] (rtI s)=some (F s):=by cases s<;>rfl
theorem ai{l:List D}(h:isB l):isI l:=λx hx=>by obtain⟨n,e,_⟩:=h x hx;exact⟨_,e⟩
theorem Pi(gs:List (List GS))(s:Bool)(hs:List Nat)(a:List Sy)(m:Sy):wS gs s hs (a++[m])=wS gs s hs a++byS gs s (Ak gs hs a) m:=by
 rw[Iz,wS,wS,uj0]
theorem J4:AV xs (some (n:Int)) none=xs.drop n:=by
 by_cases h:n<=xs.length
 .have e1:HT.sIx xs.length 0 (some (n:Int))=n:=by simp only[HT.sIx];rw[ia (by lia)];lia
  unfold AV;rw[e1];simp only[HT.sIx];rw[uc3 (by rw[uh4];lia)]
 .have e1:HT.sIx xs.length 0 (some (n:Int))=xs.length:=by simp only[HT.sIx];rw[ia (by lia)];lia
  unfold AV;rw[e1];simp only[HT.sIx];rw[gm (un6 _),gm (by lia),List.take_nil]
theorem Qz{g:Bool->Bool}{l:List D}(hr:Rq n (.lst l))(hn:n<=EQD)(h:P (.bl (g true)) t):L2.W (eqS g (.lst l) (.lst l)) t P:=⟨_,_,by unfold eqS;rw[hr EQD hn];rfl,h⟩
section
variable{gs:List (List GS)}{h:List Nat}{m1 m2:Sy}
end
structure Alk(gs:List (List GS))(ms ms':List Sy):Prop where
 ok:okS gs (z0 gs) ms'
 gd:GdS ms'
 w:∀s,wS gs s (z0 gs) ms'=wS gs s (z0 gs) ms
abbrev fl(out:Nat)(ms:List Sy):List Sy:=ms.filter λm=>!(m.1==out)
def tks(gs:List (List GS))(ms:List Sy):List (List D):=(List.range gs.length).map λk=>AJ (gAt gs k) 0 (tkS k ms)
theorem Ja(gs:List (List GS))(ms:List Sy):(tks gs ms).length=gs.length:=by unfold tks;rw[ui8,ug6]
theorem Rk(hl:hd.length=gs.length)(h:∀k,k<gs.length->hd.getD k []=AJ (gAt gs k) 0 (tkS k ms)):hd=tks gs ms:=by
 refine List.ext_getElem? λk=>?_;unfold tks;rw[ug1]
 by_cases q:k<gs.length
 .have:=h k q;rw[ua6,ub2 (by lia)] at this;rw[ue7 q,ub2 (by lia)];exact gY some this
 .rw[ud3 (by lia),ud3 (by rw[ug6];lia)];rfl
theorem exW(hg:∀g∈gs,GOk g)(g9:gs.length<=9){ms:List Sy}(hok:okS gs (z0 gs) ms)(hl:∀s,(wS gs s (z0 gs) ms).length<=25000):∃w:Bool->List Nat,(∀s,wD (w s)=wS gs s (z0 gs) ms)/\Ok2 gs w/\∀s,Pp (w s):=by
 clear 5(M0 (KF hg g9 true ms _ hok))a ea ba;clear 5(M0 (KF hg g9 false ms _ hok))b eb bb;have e:∀s:Bool,wD (if s=true then a else b)=wS gs s (z0 gs) ms:=λs=>by cases s;exact eb.symm;exact ea.symm
 refine⟨λs=>if s=true then a else b,e,⟨hg,g9,λs=>?_⟩,λs=>by cases s;exact bb;exact ba⟩;have:=hl s;rw[<-e s,D9] at this;exact this
theorem aC(n:Nat):AM 0 n=(List.range n).map λk:Nat=>D.int (k:Int):=by
 unfold AM;refine ue6 λk _=>?_
 congr 1
 lia
theorem Jd{k:Nat}(e:t.S[k]?=some (.lst ds))(h:Q ds t):L2.W (DU [.obj k]) t Q:=⟨_,_,by simp only[DU,e],h⟩
def tcT:M Bool:=Aj (Ac (Ac (Aa 0) (fb 0) ixD) (Aa 1) (eqS id))
def tcE:M D:=fSl (Aa 0) (BO (fb 1)) fNo Ci
theorem Lo{gs:List (List GS)}{k:Nat}{S:List Ob}:∀(r:List Sy) (hs:List Nat) (z:Option Sl),hs.length=gs.length->(∀m∈r,m.1<gs.length)->L2.W (Bl (Ao 0) tcT tcE (dsS gs hs r)) ⟨[z,vw (.int (k:Nat))],S⟩ λxs t'=>xs=AJ (gAt gs k) (hAt hs k) (tkS k r)/\t'.S=S
 |[],hs,z,_,_=>W_compL_nil.mpr ⟨rfl,rfl⟩
 |m::r,hs,z,hl,hm=>by
   have h1:=hm m uf0;rw[dsS,CK];unfold tcT tcE syD sayD;symm
   by_cases q:m.1=k
   .subst q;refine ES (by simp) ?_;symm;refine(Lo r (nxH gs hs m) _ ((BF ..).trans hl) λx hx=>hm x (ud5 _ hx)).mono λxs t' z9=>?_;clear 5 z9 e1 e2;subst e1;refine⟨?_,e2⟩;rw[D6 (by lia),hX rfl,Bs rfl];rfl
   .refine Cc (by simp;lia) ?_;refine(Lo r (nxH gs hs m) _ ((BF ..).trans hl) λx hx=>hm x (ud5 _ hx)).mono λxs t' z9=>?_;clear 5 z9 e1 e2;subst e1;refine⟨?_,e2⟩;rw[A7 (by lia) λz=>q z.symm,BQ q]
def Oe(f:Fn):Prop:=∀(gs:List (List GS)) (ms:List Sy) (S:List Ob),GT gs->okS gs (z9 gs) ms->ms.length<=40->Wf f [gsD gs,.lst (dsS gs (z9 gs) ms)] S λr S'=>S'=S/\r=.lst ((List.range gs.length).map λk=>.lst (AJ (gAt gs k) 0 (tkS k ms)))
theorem V5:Oe (fnOf 2 2 Ei):=by
 intro gs ms S hT hok hl;have hL:LIM=100000:=rfl;have g9:=hT.n9;refine Ap rfl ?_;unfold Ei;symm;unfold gsD;symm;rw[ui8];refine FA (Bg (by lia) (by lia)) ?_;rw[ug7,aC];refine(FC (l:=List.range gs.length) (f:=λk=>.lst (AJ (gAt gs k) 0 (tkS k ms))) (fr:=[vw (.lst (dsS gs (z9 gs) ms))]) ?_).mono ?_
 .intro k hk;symm;refine(Lo (k:=k) ms (z9 gs) _ uc7 (CS uc7 hok)).mono λxs t' z9=>?_;clear 5 z9 e1 e2;subst e1;refine Bb ?_ ?_
  .rw[CV,hL];unfold tkS;rw[ui8];have:=ud4 (λx:Sy=>x.1==k) ms;lia
  .rw[FK];exact⟨rfl,by rw[e2]⟩
 .rintro xs t' ⟨rfl,e2⟩;refine Bb (by rw[ui8,ug6,hL];lia) ?_;exact⟨e2,rfl⟩
theorem Gn{gs:List (List GS)}(hT:GT gs){k:Nat}(hk:k<gs.length)(s:Str):∀(mv:List Mv) (q:Nat),okQ (gAt gs k) q mv->(AE (gAt gs k) s q mv).length<=53*mv.length
 |[],q,_=>un7 _
 |(p,v)::r,q,⟨h1,h2⟩=>by
   have ih:=Gn hT hk s r _ h2;have:=HZ hT hk h1;rw[AE,uf3,uh1];have:(if (AA (gAt gs k) q).side=s then D.int (p:Nat)::As (wdAt (gAt gs k) q p).2.1 v else []).length<=53:=by
    split
    .rw[uh1];lia
    .exact un7 _
   lia
def FL(f:Fn):Prop:=∀(gs:List (List GS)) (k:Nat) (mv:List Mv) (p:Nat) (v d:D) (S:List Ob),GT gs->k<gs.length->okQ (gAt gs k) 0 (mv++[(p,v)])->mv.length<=41->TL S d (AJ (gAt gs k) 0 mv)->Wf f [gsD gs,d,.int (k:Nat),Dn (gAt gs k) (AB (gAt gs k) 0 mv) p v] S λr S'=>Gr S S'/\r=.lst (.int (k:Nat)::.int (p:Nat)::As (wdAt (gAt gs k) (AB (gAt gs k) 0 mv) p).2.1 v)
theorem ZG{d:D}(e:TL t.S d xs)(l:xs.length+ys.length<=LIM)(h:Q (xs++ys) t):L2.W (JZ d (.lst ys)) t Q:=by
 refine⟨_,_,?_,h⟩;unfold JZ;rcases e with rfl|⟨K,rfl,e⟩
 .show lim _ _ t=_;unfold lim;rw[hX l]
 .simp only[D1,e];unfold lim;rw[hX l]
theorem V1(hw:GH cw):FL (fnOf 4 6 (Ef cw)):=by
 intro gs k mv p v d S hT hk hok hl hd;have hL:LIM=100000:=rfl;have hg:=Cb hT.ok hk;obtain⟨ho1,ho2,_⟩:=(EY _ 0 mv _).mp hok;have hside:=Pb hg ho2;have hf1:∀s,(AE (gAt gs k) s 0 mv).length<=25000:=λs=>by have:=Gn hT hk s mv 0 ho1;lia
 have hf2:∀s,(AE (gAt gs k) s 0 (mv++[(p,v)])).length<=25000:=λs=>by
  have:=Gn hT hk s _ 0 hok;rw[uf3,uc9] at this;lia
 have hfw:=HZ hT hk ho2;obtain⟨s,es⟩:∃s,(AA (gAt gs k) (AB (gAt gs k) 0 mv)).side=sd s:=by
  rcases hside with h|h
  .exact⟨true,h⟩
  .exact⟨false,h⟩
 refine Ap rfl ?_;unfold Ef gsD Dn;rw[es];symm;refine AR (EA hk) ?_;symm;refine(hw (gAt gs k) mv S d hd hg ho1 (by lia) (hf1 _) (hf1 _)).mono λr S1 z9=>?_;clear 5 z9 K A B e1 w1 G1 lA lB;subst e1;symm;refine E4 (Ko (λs=>.obj (if s=true then A else B)) s) ?_;symm;refine AR (EA hk) ?_;symm;refine ZG (hd.gr G1) (by rw[CV,hL];show _+1<=_;lia) ?_;symm;have em:AJ (gAt gs k) 0 mv++[D.tup [.str (sd s),.str (wdAt (gAt gs k) (AB (gAt gs k) 0 mv) p).1,v]]=AJ (gAt gs k) 0 (mv++[(p,v)]):=by
  rw[Fj,<-es];rfl
 rw[em];refine(hw (gAt gs k) (mv++[(p,v)]) S1 (.lst (AJ (gAt gs k) 0 (mv++[(p,v)]))) (.inl rfl) hg hok (by rw[uf3];show _+1<=_;lia) (hf2 _) (hf2 _)).mono λr S2 z9=>?_;clear 5 z9 K' A' B' e2 w2 G2 lA' lB';subst e2;have X1:S2[if s=true then A else B]?=some (.lst (AE (gAt gs k) (sd s) 0 mv)):=by cases s;exact G2.get w1.b;exact G2.get w1.a
 have X2:S2[if s=true then A' else B']?=some (.lst (AE (gAt gs k) (sd s) 0 (mv++[(p,v)]))):=by cases s;exact w2.b;exact w2.a
 symm;refine E4 (Ko (λs=>.obj (if s=true then A' else B')) s) ?_;symm;refine Xp X1 ?_;symm;refine KG X2 ?_;have hdr:AV (AE (gAt gs k) (sd s) 0 (mv++[(p,v)])) (some ((AE (gAt gs k) (sd s) 0 mv).length:Int)) none=.int (p:Nat)::As (wdAt (gAt gs k) (AB (gAt gs k) 0 mv) p).2.1 v:=by
  rw[J4,Fm,List.drop_left,AE,AE,hX es,uj0]
 rw[hdr];symm;refine Bb (by show 1+(_+1)<=_;lia) ?_;symm;exact⟨G1.trans G2,rfl⟩
theorem Oj(hT:GT gs){hs:List Nat}{m:Sy}(h:m.1<gs.length/\MvOk (gAt gs m.1) (hAt hs m.1) m.2.1 m.2.2)(s:Bool):(byS gs s hs m).length<=54:=by
 have:=HZ hT h.1 h.2;unfold byS pbS
 split
 .rw[uh1,uh1];lia
 .exact un7 _
theorem IA{gs:List (List GS)}(hT:GT gs)(s:Bool):∀(ms:List Sy) (hs:List Nat),okS gs hs ms->(wS gs s hs ms).length<=54*ms.length
 |[],hs,_=>un7 _
 |m::r,hs,⟨h1,h2⟩=>by
   have ih:=IA hT s r _ h2;have:=Oj hT h1 s;rw[wS,uf3,uh1];lia
theorem WT(F:Bool->D)(s:Bool)(d:D):∃n,ixN 2 (rtI s)=some n/\[F true,F false].set n d=[if s=true then d else F true,if s=true then F false else d]:=by cases s;exact⟨1,rfl,rfl⟩;exact⟨0,rfl,rfl⟩
theorem Tq(hp:FL cp){gs:List (List GS)}{n0:Nat}{S0 S:List Ob}{a r:List Sy}{m:Sy}{a1 e5:Option Sl}(hT:GT gs)(h0:n0=S0.length)(hok:okS gs (z9 gs) (a++m::r))(hl:a.length+r.length<40)(hG:Gr S0 S)(hK:TkO S gs n0 λk=>.lst (AJ (gAt gs k) 0 (tkS k a))) :
 L2.W (PL cp) ⟨[vw (gsD gs),a1,vw (.lst ((List.range' n0 gs.length).map D.obj)),some (.own [.lst (wS gs true (z9 gs) a),.lst (wS gs false (z9 gs) a)]),vw (syD gs (Ak gs (z9 gs) a) m),e5],S⟩ λo t=>o=.next/\∃S' e4 e5,Gr S0 S'/\(TkO S' gs n0 λk=>.lst (AJ (gAt gs k) 0 (tkS k (a++[m]))))/\t=⟨[vw (gsD gs),a1,vw (.lst ((List.range' n0 gs.length).map D.obj)),some (.own [.lst (wS gs true (z9 gs) (a++[m])),.lst (wS gs false (z9 gs) (a++[m]))]),e4,e5],S'⟩:=by
 have hL:LIM=100000:=rfl;have hg:=hT.ok;have h1:=R4 hok;have hz:(z9 gs).length=gs.length:=uc7;have hlt:=CS hz hok;have hokA:=((Ep gs a _ _).mp hok).1;have hcur:hAt (Ak gs (z9 gs) a) m.1=AB (gAt gs m.1) 0 (tkS m.1 a):=by
  rw[K2 m.1 a _ hz (λx hx=>hlt x (ud6 _ hx)),FK]
 have hq:okQ (gAt gs m.1) 0 (tkS m.1 a++[m.2]):=by
  have:=((B4 _ _ hz).mp hok).2 m.1;rw[CU,Bs rfl,FK,List.append_cons] at this;exact((EY _ 0 _ _).mp this).1
 have htl:(tkS m.1 a).length<=a.length:=by
  unfold tkS;rw[ui8];exact ud4 _ _
 obtain⟨s,ws,egs,hpl,ew,nd,_⟩:=Ix hg h1;have es:sdS gs (Ak gs (z9 gs) a) m=sd s:=by unfold sdS;rw[egs];rfl
 have eside:(AA (gAt gs m.1) (hAt (Ak gs (z9 gs) a) m.1)).side=sd s:=by rw[egs];rfl
 have hS:=hK.at' m.1 h1.1;have emsg:Dn (gAt gs m.1) (AB (gAt gs m.1) 0 (tkS m.1 a)) m.2.1 m.2.2=.tup [.str (sd s),.str (wdAt (gAt gs m.1) (hAt (Ak gs (z9 gs) a) m.1) m.2.1).1,m.2.2]:=by
  unfold Dn;rw[<-hcur,eside]
 have wl:=λs=>IA hT s a _ hokA;have bl:=Oj hT h1 s;have eb:byS gs s (Ak gs (z9 gs) a) m=.int (m.1:Nat)::pbS gs (Ak gs (z9 gs) a) m:=by unfold byS;rw[hX es]
 have eo:byS gs (!s) (Ak gs (z9 gs) a) m=[]:=by unfold byS;rw[ia λz=>by have:=Fk (es.symm.trans z);cases s<;>cases this]
 unfold PL syD sayD;rw[eside];symm;refine AR (Sn h1.1) ?_;symm;rw[show AV [D.int (m.1:Nat),D.str (sd s),D.str (wdAt (gAt gs m.1) (hAt (Ak gs (z9 gs) a) m.1) m.2.1).1,m.2.2] (some 1) none=[D.str (sd s),D.str (wdAt (gAt gs m.1) (hAt (Ak gs (z9 gs) a) m.1) m.2.1).1,m.2.2] from rfl,<-emsg];refine(hp gs m.1 (tkS m.1 a) m.2.1 m.2.2 (.obj (n0+m.1)) S hT h1.1 hq (by lia) (.inr ⟨_,rfl,hS⟩)).mono λq S1 z9=>?_;clear 5 z9 G1 e1;subst e1;rw[<-hcur];symm;refine KD rfl ?_;symm;refine⟨_,_,_,rfl,rfl,Ko (λs=>.lst (wS gs s (z9 gs) a)) s,?_⟩;symm;have wls:=wl s;rw[eb,uh1] at bl;refine Bb (by rw[uh1];show _+((pbS gs (Ak gs (z9 gs) a) m).length+1)<=_;lia) ?_;refine SN rfl ?_;symm;clear 5(WT (λs=>.lst (wS gs s (z9 gs) a)) s (.lst (wS gs s (z9 gs) a++.int (m.1:Nat)::pbS gs (Ak gs (z9 gs) a) m)))n hn1 hn2;refine⟨_,_,n,rfl,rfl,hn1,?_⟩;refine Bj ?_;symm;refine Je (k:=n0+m.1) ?_;symm;refine AR (Sn h1.1) ?_;refine⟨rfl,_,G1.get hS,?_⟩;symm;rw[show AV [D.int (m.1:Nat),D.str (sd s),D.str (wdAt (gAt gs m.1) (hAt (Ak gs (z9 gs) a) m.1) m.2.1).1,m.2.2] (some 1) none=[D.str (sd s),D.str (wdAt (gAt gs m.1) (hAt (Ak gs (z9 gs) a) m.1) m.2.1).1,m.2.2] from rfl,<-emsg];refine⟨_,_,G1.get hS,by unfold BR;exact hX (by rw[CV,hL];lia),?_⟩;refine⟨rfl,S1.set (n0+m.1) (.lst (AJ (gAt gs m.1) 0 (tkS m.1 a)++[Dn (gAt gs m.1) (AB (gAt gs m.1) 0 (tkS m.1 a)) m.2.1 m.2.2])),vw (.tup [.int (m.1:Nat),.str (sd s),.str (wdAt (gAt gs m.1) (hAt (Ak gs (z9 gs) a) m.1) m.2.1).1,m.2.2]),vw (.lst (.int (m.1:Nat)::pbS gs (Ak gs (z9 gs) a) m)),Rh (hG.trans G1) (by lia),⟨λk hk=>?_⟩,?_⟩
 .rw[CU]
  by_cases q:m.1=k
  .subst q;rw[A8 (G1.get hS),Bs rfl,E3,Fj];rfl
  .rw[ud7 (by lia),BQ q,E3,uj0];exact G1.get (hK.at' k hk)
 .have e7:[D.lst (wS gs true (z9 gs) (a++[m])),.lst (wS gs false (z9 gs) (a++[m]))]=[D.lst (wS gs true (z9 gs) a),.lst (wS gs false (z9 gs) a)].set n (.lst (wS gs s (z9 gs) a++.int (m.1:Nat)::pbS gs (Ak gs (z9 gs) a) m)):=by
   rw[hn2,Pi,Pi]
   cases s
   .rw[show byS gs true (Ak gs (z9 gs) a) m=[] from eo,uj0,eb];rfl
   .rw[show byS gs false (Ak gs (z9 gs) a) m=[] from eo,uj0,eb];rfl
  rw[e7];rfl
def UO(f:Fn):Prop:=∀(gs:List (List GS)) (ms:List Sy) (S:List Ob),GT gs->okS gs (z9 gs) ms->ms.length<=40->Wf f [gsD gs,.lst (dsS gs (z9 gs) ms)] S λr S'=>Gr S S'/\r=.tup [.lst (wS gs true (z9 gs) ms),.lst (wS gs false (z9 gs) ms)]
theorem aj(hp:FL cp):UO (fnOf 2 6 (EU cp)):=by
 intro gs ms S hT hok hl;have hL:LIM=100000:=rfl;have g9:=hT.n9;refine Ap rfl ?_;unfold EU;symm;unfold gsD;symm;refine(Hd (λg:List GS=>D.lst (g.map GS.d)) gs S _).mono λr t' z9=>?_;clear 5 z9 e1 e2;subst e1;refine Bb (by rw[ui8,uf6,hL];lia) ?_;rw[e2];symm;refine BX (λr t=>∃(a b:List Sy) (S':List Ob) (e4 e5:Option Sl),ms=a++b/\r=dsS gs (Ak gs (z9 gs) a) b/\Gr S S'/\(TkO S' gs S.length λk=>.lst (AJ (gAt gs k) 0 (tkS k a)))/\t=⟨[vw (gsD gs),vw (.lst (dsS gs (z9 gs) ms)),vw (.lst ((List.range' S.length gs.length).map D.obj)),some (.own [.lst (wS gs true (z9 gs) a),.lst (wS gs false (z9 gs) a)]),e4,e5],S'⟩) _ _ ⟨[],ms,_,none,none,rfl,rfl,⟨by rw[uf3];lia,λi hi=>ua8 hi⟩,⟨λk hk=>by
  rw[ua4 (by lia),Nat.add_sub_cancel_left,ub3,hX hk];rfl⟩,rfl⟩ ?_ ?_
 .rintro d r t ⟨a,b,S',e4,e5,e0,hr,hG,hK,rfl⟩ _
  cases b with
  |nil=>cases hr
  |cons m b=>
    rw[dsS] at hr;injection hr with h1 h2
    subst h1 h2;have hl2:a.length+b.length<40:=by
     have:=gY List.length e0;rw[uf3,uh1] at this;lia
    refine E5 ?_;refine(Tq hp hT rfl (e0 ▸ hok) hl2 hG hK).mono λo t z9=>?_;clear 5 z9 z1 S'' f4 f5 z2 z3 z4;subst z1 z4;exact⟨a++[m],b,S'',f4,f5,by rw[e0,ug3];rfl,by rw[EN],z2,z3,rfl⟩
 .rintro t ⟨a,b,S',e4,e5,e0,hr,hG,hK,rfl⟩
  cases b with
  |cons m b=>cases hr
  |nil=>
    rw[uj0] at e0;subst e0;symm;refine KD rfl ?_;symm;refine⟨_,_,_,rfl,rfl,II,?_⟩;symm;refine KD rfl ?_;symm;refine⟨_,_,_,rfl,rfl,rfl,?_⟩;symm;exact⟨hG,rfl⟩
def NT(gs:List (List GS))(k q p:Nat)(v:D):D:=.tup [.int (k:Nat),.str (AA (gAt gs k) q).side,.str (wdAt (gAt gs k) q p).1,v]
def psS(gs:List (List GS)):List Nat->List Sy->List (Sy×D)
 |_,[]=>[]
 |hs,m::r=>(m,syD gs hs m)::psS gs (nxH gs hs m) r
def tpS(gs:List (List GS))(k:Nat):Nat->List Mv->List (Sy×D)
 |_,[]=>[]
 |q,x::r=>((k,x),NT gs k q x.1 x.2)::tpS gs k (AZ (gAt gs k) q x.1) r
theorem OU(gs:List (List GS)):∀(ms:List Sy) (hs:List Nat),(psS gs hs ms).map (·.2)=dsS gs hs ms
 |[],hs=>rfl
 |m::r,hs=>by rw[psS,ul3,OU gs r,dsS]
theorem Kj(gs:List (List GS))(k:Nat):∀(ms:List Sy) (hs:List Nat),(∀m∈ms,m.1<hs.length)->(psS gs hs ms).filter (λx=>x.1.1==k)=tpS gs k (hAt hs k) (tkS k ms)
 |[],hs,_=>rfl
 |m::r,hs,h=>by
   have h1:=h m uf0;have ih:=Kj gs k r (nxH gs hs m) λx hx=>by rw[BF];exact h x (ud5 _ hx)
   rw[psS]
   by_cases q:m.1=k
   .subst q;rw[ub7 (by simp),ih,D6 h1,hX rfl,Bs rfl];rfl
   .rw[ub8 (by simpa using q),ih,A7 h1 λz=>q z.symm,BQ q]
theorem Sg{gs:List (List GS)}:∀(L:List (Sy×D)) (hs:List Nat) (T:Nat->List Mv),(∀x∈L,x.1.1<hs.length)->(∀k,L.filter (λx=>x.1.1==k)=tpS gs k (hAt hs k) (T k))->L=psS gs hs (L.map (·.1))/\∀k,tkS k (L.map (·.1))=T k
 | [],hs,T,_,h=>⟨rfl,λk=>by
   have:=h k
   cases e:T k with
   |nil=>rfl
   |cons x r=>rw[e] at this;cases this⟩
 |x::L,hs,T,hl,h=>by
   have h1:=hl x uf0;have hk:=h x.1.1;rw[ub7 (by simp)] at hk
   cases e:T x.1.1 with
   |nil=>rw[e] at hk;cases hk
   |cons y r=>
     rw[e,tpS] at hk;injection hk with hx hr
     have ex:x.1=(x.1.1,y):=gY Prod.fst hx;have ed:x.2=NT gs x.1.1 (hAt hs x.1.1) y.1 y.2:=gY Prod.snd hx;have ey:x.1.2=y:=gY Prod.snd ex;obtain⟨i1,i2⟩:=Sg L (nxH gs hs x.1) (λj=>if j=x.1.1 then r else T j) (λz hz=>by rw[BF];exact hl z (ud5 _ hz)) λj=>by
      by_cases q:j=x.1.1
      .subst q;rw[hX rfl,hr,D6 h1,hX rfl,ey]
      .have:=h j;rw[ub8 (by simpa using λz=>q z.symm)] at this;rw[ia q,this,A7 h1 q]
     refine⟨?_,λj=>?_⟩
     .rw[ul3,psS,<-i1]
      congr 1
      refine Prod.ext rfl ?_;rw[ed,<-ey];rfl
     .rw[ul3]
      by_cases q:x.1.1=j
      .subst q;rw[Bs rfl,i2,hX rfl,e,ey]
      .rw[BQ q,i2,ia λz=>q z.symm]
theorem P0{L:List (Sy×D)}{x:Sy×D}(h:∀y∈L.drop n,y.1.1≠x.1.1)(k:Nat):(L.take n++x::L.drop n).filter (λy=>y.1.1==k)=L.filter (λy=>y.1.1==k)++(if x.1.1=k then [x] else []):=by
 rw[uf7]
 conv=>rhs;rw[<-ud1 n L,uf7]
 by_cases q:x.1.1=k
 .have e:(L.drop n).filter (λy=>y.1.1==k)=[]:=gl.mpr λy hy=>by have:=h y hy;simp;lia
  rw[ub7 (by simpa using q),e,hX q,uj0]
 .rw[ub8 (by simpa using q),ia q,uj0]
theorem Gq{g:Gd}{st:D->M Unit}{b:M Out}{P:Out->T->Prop}(h:Gon g t.S)(q:P .next t):L2.W (forG g st b []) t P:=by
 unfold forG;exact W_bnd.mpr ⟨_,_,J0 h,W_ret.mpr q⟩
theorem FQ{g:Gd}{st:D->M Unit}{b:M Out}{d:D}{P:Out->T->Prop}(h:Gon g t.S)(q:L2.W (st d) t λ_ t1=>L2.W b t1 λo t2=>o=.next/\L2.W (forG g st b r) t2 P):L2.W (forG g st b (d::r)) t P:=by
 rw[forG];refine W_bnd.mpr ⟨_,_,J0 h,W_bnd.mpr (q.mono λ_ t1 q=>W_bnd.mpr (q.mono λo t2 q=>?_))⟩;clear 5 q rfl q;exact q
theorem Lr{f:M (Gd×List D)}{st:D->M Unit}{b:M Out}{P:Out->T->Prop}(h:L2.W f t λp t1=>L2.W (forG p.1 st b p.2) t1 P):L2.W (E9 f st b) t P:=W_bnd.mpr h
def P5:M Out:=
 (ifS (Aj (Ac (Ac (Aa 7) (fb 0) ixD) (Ac (Aa 4) (fb 0) ixD) (eqS id)))
 (An 5 (Ac (Aa 6) (fb 1) AD))
 Aq)
def hd9(k:Nat)(d:D):Prop:=∃a b c,d=.tup [.int (k:Nat),a,b,c]
theorem Ph{Q:Gd×List D->T->Prop}(e:t.S[K]?=some (.lst xs))(h:Q (some (K,xs),BG 0 xs) t):L2.W (Mc [.obj K]) t Q:=⟨_,_,by simp only[Mc,e],h⟩
theorem Jx{L0:List D}{K k:Nat}{a0 a1 a3:Option Sl}{d:D}{S:List Ob}(hd:hd9 k d)(hK:S[K]?=some (.lst L0))(hl:L0.length<=50):∀(r:List (Sy×D)) (j n:Nat) (e6 e7:Option Sl),(∀x∈r,hd9 x.1.1 x.2)->j+r.length=L0.length->n<=j->
 L2.W (forG (some (K,L0)) (unS 2 (Ay (Ao 6) (Ay (Ao 7) Bc))) P5 (BG j (r.map (·.2)))) ⟨[a0,a1,vw (.obj K),a3,vw d,vw (.int (n:Nat)),e6,e7],S⟩ λo t=>o=.next/\∃(n':Nat) (e6 e7:Option Sl),n'<=j+r.length/\((n'=n/\∀x∈r,x.1.1≠k)\/(j<n'/\∀x∈r.drop (n'-j),x.1.1≠k))/\t=⟨[a0,a1,vw (.obj K),a3,vw d,vw (.int (n':Nat)),e6,e7],S⟩
 |[],j,n,e6,e7,_,_,hn=>Gq (DC hK) ⟨rfl,n,e6,e7,by rw[uj7];lia,.inl ⟨rfl,λx h=>(nomatch h)⟩,rfl⟩
 |x::r,j,n,e6,e7,hx,hj,hn=>by
   clear 5(hx x uf0)b1 b2 b3 eb;clear 5 hd c1 c2 c3 rfl;rw[uh1] at hj;rw[ul3,BG];refine FQ (DC hK) ?_;unfold P5;rw[eb];symm
   by_cases q:x.1.1=k
   .refine ES (by simp[q]) ?_;symm;refine⟨rfl,?_⟩;refine(Jx (k:=k) ⟨c1,c2,c3,rfl⟩ hK hl r (j+1) (j+1) _ _ (λy hy=>hx y (ud5 _ hy)) (by lia) (un6 _)).mono ?_;rintro o t ⟨z1,n',f6,f7,z2,z3,z4⟩;refine⟨z1,n',f6,f7,by rw[uh1];lia,.inr ?_,z4⟩;rcases z3 with⟨y1,y2⟩|⟨y1,y2⟩
    .exact⟨by lia,by rw[y1,show j+1-j=1 by lia];exact y2⟩
    .exact⟨by lia,by rw[show n'-j=n'-(j+1)+1 by lia];exact y2⟩
   .refine Cc (by simp;lia) ?_;symm;refine⟨rfl,?_⟩;refine(Jx (k:=k) ⟨c1,c2,c3,rfl⟩ hK hl r (j+1) n _ _ (λy hy=>hx y (ud5 _ hy)) (by lia) (by lia)).mono ?_;rintro o t ⟨z1,n',f6,f7,z2,z3,z4⟩;refine⟨z1,n',f6,f7,by rw[uh1];lia,?_,z4⟩;rcases z3 with⟨y1,y2⟩|⟨y1,y2⟩
    .exact .inl ⟨y1,λy hy=>(ul2.mp hy).elim (λz=>by rw[z];exact q) (y2 y)⟩
    .exact .inr ⟨by lia,by rw[show n'-j=n'-(j+1)+1 by lia];exact y2⟩
theorem OT(gs:List (List GS)):∀(a b:List Sy) (hs:List Nat),psS gs hs (a++b)=psS gs hs a++psS gs (Ak gs hs a) b
 |[],b,hs=>rfl
 |m::r,b,hs=>by rw[ui2,psS,psS,Ak,OT gs r b,ui2]
theorem Rj(gs:List (List GS))(hs:List Nat)(m:Sy):hd9 m.1 (syD gs hs m):=⟨_,_,_,rfl⟩
structure TrS(gs:List (List GS))(a:List Sy)(L:List (Sy×D)):Prop where
 len:L.length=a.length
 fl:∀k,L.filter (λx=>x.1.1==k)=(psS gs (z9 gs) a).filter (λx=>x.1.1==k)
 hd:∀x∈L,hd9 x.1.1 x.2
 lt:∀x∈L,x.1.1<gs.length
theorem SJ{a:List Sy}{L:List (Sy×D)}{c:Int}{e5 e6 e7:Option Sl}(hm:m.1<gs.length)(h:TrS gs a L)(hl:a.length<=40)(hK:S[K]?=some (.lst (L.map (·.2)))) :
 L2.W Qw ⟨[a0,a1,vw (.obj K),vw (.int c),vw (syD gs (Ak gs (z9 gs) a) m),e5,e6,e7],S⟩ λo t=>o=.next/\∃(L':List (Sy×D)) (e3 e4 e5 e6 e7:Option Sl) (c':Int),TrS gs (a++[m]) L'/\e3=vw (.int c')/\t=⟨[a0,a1,vw (.obj K),e3,e4,e5,e6,e7],S.set K (.lst (L'.map (·.2)))⟩:=by
 have hL:LIM=100000:=rfl;have hlen:=h.len;unfold Qw;symm;refine Lr ?_;refine W_bnd.mpr ?_;symm;refine Ph hK ?_;show L2.W (forG _ _ P5 _) _ _;refine(Jx (k:=m.1) (Rj ..) hK (by rw[ui8];lia) L 0 0 _ _ h.hd (by rw[ui8];lia) (un6 _)).mono ?_;rintro o t ⟨z1,n,f6,f7,z2,z3,z4⟩;subst z1 z4;rw[um9] at z2;have hn:∀x∈L.drop n,x.1.1≠m.1:=by
  rcases z3 with⟨y1,y2⟩|⟨y1,y2⟩
  .exact λx hx=>y2 x (ue0 hx)
  .exact y2
 refine Bj ?_;symm;refine Je (k:=K) ?_;symm;refine⟨rfl,_,hK,?_⟩;symm;refine Fc hK ?_;symm;have hb:(1:Int)<=((L.map (·.2)).length:Int)-(n:Int)+1:=by rw[ui8];lia
 refine Fz (by lia) ?_;have p0:=uk1 c (b:=((L.map (·.2)).length:Int)-(n:Int)+1) (by lia);have p1:=uf8 c (b:=((L.map (·.2)).length:Int)-(n:Int)+1) (by lia);generalize c%(((L.map (·.2)).length:Int)-(n:Int)+1)=y at p0 p1;rw[ui8] at p1;symm;have hy:((n:Int)+y).toNat=n+y.toNat:=by lia
 refine⟨_,_,hK,by unfold K4;exact hX ⟨by lia,by rw[ui8];lia,by rw[ui8,hL];lia⟩,?_⟩;symm;rw[hy];refine⟨rfl,L.take (n+y.toNat)++(m,syD gs (Ak gs (z9 gs) a) m)::L.drop (n+y.toNat),vw (.int (c/5)),vw (syD gs (Ak gs (z9 gs) a) m),vw (.int (n:Nat)),f6,f7,c/5,⟨?_,λk=>?_,λx hx=>?_,λx hx=>?_⟩,rfl,?_⟩
 .rw[uf3,uh1,uh3,uh4,uf3,uc9];lia
 .rw[P0 (λx hx=>hn x (by rw[<-List.drop_drop] at hx;exact ue0 hx)) k,OT,uf7,h.fl k]
  congr 1
  by_cases q:m.1=k
  .rw[hX q,psS,psS,ub7 (by simpa using q)];rfl
  .rw[ia q,psS,psS,ub8 (by simpa using q)];rfl
 .rcases ui6.mp hx with z|z
  .exact h.hd x (ud9 z)
  .rcases ul2.mp z with z|z
   .rw[z];exact Rj ..
   .exact h.hd x (ue0 z)
 .rcases ui6.mp hx with z|z
  .exact h.lt x (ud9 z)
  .rcases ul2.mp z with z|z
   .rw[z];exact hm
   .exact h.lt x (ue0 z)
 .rw[uj9,ul3,ul7,List.map_drop];rfl
def QI(f:Fn):Prop:=∀(gs:List (List GS)) (ms:List Sy) (c:Int) (S:List Ob),okS gs (z9 gs) ms->ms.length<=40->Wf f [.lst (dsS gs (z9 gs) ms),.int c] S λr S'=>Gr S S'/\∃K ms',r=.obj K/\S'[K]?=some (.lst (dsS gs (z9 gs) ms'))/\okS gs (z9 gs) ms'/\ms'.length=ms.length/\∀k,tkS k ms'=tkS k ms
theorem YE:QI (fnOf 2 8 DW):=by
 intro gs ms c S hok hl;have hz:(z9 gs).length=gs.length:=uc7;have hlt:=CS hz hok;refine Ap rfl ?_;unfold DW;symm;refine BX (λr t=>∃(a b:List Sy) (L:List (Sy×D)) (c':Int) (e4 e5 e6 e7:Option Sl),ms=a++b/\r=dsS gs (Ak gs (z9 gs) a) b/\TrS gs a L/\t=⟨[vw (.lst (dsS gs (z9 gs) ms)),vw (.int c),vw (.obj S.length),vw (.int c'),e4,e5,e6,e7],S++[.lst (L.map (·.2))]⟩) _ _ ⟨[],ms,[],c,none,none,none,none,rfl,rfl,⟨rfl,λ_=>rfl,λx h=>(nomatch h),λx h=>(nomatch h)⟩,rfl⟩ ?_ ?_
 .rintro d r t ⟨a,b,L,c',e4,e5,e6,e7,e0,hr,hT,rfl⟩ _
  cases b with
  |nil=>cases hr
  |cons m b=>
    rw[dsS] at hr;injection hr with h1 h2
    subst h1 h2;have hl2:a.length<=40:=by
     have:=gY List.length e0;rw[uf3,uh1] at this;lia
    refine E5 ?_;refine(SJ (hlt m (by rw[e0];simp)) hT hl2 DK).mono ?_;rintro o t ⟨z1,L',f3,f4,f5,f6,f7,c2,z2,z3,z4⟩;subst z1 z3 z4;refine⟨a++[m],b,L',c2,f4,f5,f6,f7,by rw[e0,ug3];rfl,by rw[EN],z2,?_⟩;rw[List.set_append_right _ _ (un6 _),un4];rfl
 .rintro t ⟨a,b,L,c',e4,e5,e6,e7,e0,hr,hT,rfl⟩
  cases b with
  |cons m b=>cases hr
  |nil=>
    rw[uj0] at e0;subst e0;obtain⟨i1,i2⟩:=Sg (gs:=gs) L (z9 gs) (λk=>tkS k ms) (λx hx=>by rw[hz];exact hT.lt x hx) λk=>by
     rw[hT.fl k,Kj gs k ms _ (λx hx=>by rw[hz];exact hlt x hx)]
    symm;refine⟨Gr.app,S.length,L.map (·.1),rfl,?_,?_,by rw[ui8];exact hT.len,i2⟩
    .rw[DK,<-OU,<-i1]
    .refine(B4 _ _ hz).mpr ⟨λx hx=>?_,λk=>?_⟩
     .clear 5(un2.mp hx)y hy rfl;exact hT.lt y hy
     .rw[i2 k];exact((B4 _ _ hz).mp hok).2 k
noncomputable def sm9:Nat->(Nat->Nat)->Nat
 |0,_=>0
 |n+1,f=>sm9 n f+f n
theorem Es{f g:Nat->Nat}:∀(n:Nat),(∀k,k<n->f k=g k)->sm9 n f=sm9 n g
 |0,_=>rfl
 |n+1,h=>by rw[sm9,sm9,Es n λk hk=>h k (by lia),h n (by lia)]
theorem Ln{f g:Nat->Nat}{j c:Nat}:∀(n:Nat),j<n->f j=c+g j->(∀k,k<n->k≠j->f k=g k)->sm9 n f=c+sm9 n g
 |0,h,_,_=>by lia
 |n+1,h,h1,h2=>by
   rw[sm9,sm9]
   by_cases q:j=n
   .subst q;rw[Es j λk hk=>h2 k (by lia) (by lia),h1];lia
   .rw[Ln n (by lia) h1 λk hk=>h2 k (by lia),h2 n (by lia) λz=>q z.symm];lia
theorem JG{f:Nat->Nat}:∀(n:Nat),(∀k,k<n->f k=0)->sm9 n f=0
 |0,_=>rfl
 |n+1,h=>by rw[sm9,JG n λk hk=>h k (by lia),h n (by lia)]
def twt(gs:List (List GS))(s:Bool)(φ:Nat×Sy->Nat)(k:Nat):Nat->List Mv->Nat
 |_,[]=>0
 |q,x::r=>(if (AA (gAt gs k) q).side=sd s then φ (q,(k,x)) else 0)+twt gs s φ k (AZ (gAt gs k) q x.1) r
theorem twt_sum{gs:List (List GS)}(s:Bool)(φ:Nat×Sy->Nat):∀(ms:List Sy) (hs:List Nat),hs.length=gs.length->(∀m∈ms,m.1<gs.length)->sm9 gs.length (λk=>twt gs s φ k (hAt hs k) (tkS k ms))=((evS gs s hs ms).map φ).sum
 |[],hs,_,_=>JG _ λk _=>rfl
 |m::r,hs,hl,hm=>by
   have h1:=hm m uf0;have ih:=twt_sum s φ r (nxH gs hs m) ((BF ..).trans hl) λx hx=>hm x (ud5 _ hx);rw[evS,uj9,List.sum_append,<-ih];rw[Ln (g:=λk=>twt gs s φ k (hAt (nxH gs hs m) k) (tkS k r)) (c:=if sdS gs hs m=sd s then φ (hAt hs m.1,m) else 0) gs.length h1]
   .congr 1
    split<;>simp
   .show twt gs s φ m.1 (hAt hs m.1) (tkS m.1 (m::r))=_+twt gs s φ m.1 (hAt (nxH gs hs m) m.1) (tkS m.1 r);rw[Bs rfl,twt,D6 (by lia),hX rfl];rfl
   .intro k _ hk;show twt gs s φ k (hAt hs k) (tkS k (m::r))=twt gs s φ k (hAt (nxH gs hs m) k) (tkS k r);rw[BQ λz=>hk z.symm,A7 (by lia) hk]
theorem twt_wire{gs:List (List GS)}(s:Bool)(k:Nat):∀(mv:List Mv) (q:Nat),(AE (gAt gs k) (sd s) q mv).length+twt gs s (λ_=>1) k q mv=twt gs s (λx=>(byQ gs x).length) k q mv
 |[],q=>rfl
 |(p,v)::r,q=>by
   have ih:=twt_wire (gs:=gs) s k r (AZ (gAt gs k) q p);rw[AE,twt,twt,uf3];dsimp only
   by_cases e:(AA (gAt gs k) q).side=sd s
   .rw[hX e,hX e,hX e];have eb:(byQ gs (q,k,p,v)).length=(As (wdAt (gAt gs k) q p).2.1 v).length+1+1:=rfl;rw[uh1,eb];lia
   .rw[ia e,ia e,ia e,uj7];lia
theorem I9{α:Type}(f:α->List D):∀(l:List α),(l.flatMap f).length=(l.map λx=>(f x).length).sum
 |[]=>rfl
 |a::l=>by rw[List.flatMap_cons,uf3,ul3,List.sum_cons,I9 f l]
theorem Pe{α:Type}:∀(l:List α),(l.map λ_=>1).sum=l.length
 |[]=>rfl
 |a::l=>by rw[ul3,List.sum_cons,Pe l,uh1];lia
theorem FV{gs:List (List GS)}{k h:Nat}{s:Bool}{ds0:List D}{S:List Ob}{fr:List (Option Sl)}{tst:M Bool}(hh:S[h]?=some (.lst ds0))(ht:∀(x:Str) (a b:D),L2.W tst ⟨vw (.tup [.str x,a,b])::fr,S⟩ λr t=>r=decide (x=sd s)/\t=⟨vw (.tup [.str x,a,b])::fr,S⟩):∀(mv:List Mv) (q:Nat) (z:Option Sl),L2.W (compG (some (h,ds0)) (Ao 0) tst (fb 1) (AJ (gAt gs k) q mv)) ⟨z::fr,S⟩ λxs t=>xs.length=twt gs s (λ_=>1) k q mv/\t.S=S
 |[],q,z=>N4 (DC hh) ⟨rfl,rfl⟩
 |(p,v)::r,q,z=>by
   rw[AJ];refine Mx (DC hh) ?_;unfold Dn;refine E5 ?_;refine(ht _ _ _).mono λb t z9=>?_;clear 5 z9 e1 e2;subst e1 e2
   by_cases e:(AA (gAt gs k) q).side=sd s
   .rw[hX (by simpa using e)];symm;refine(FV hh ht r (AZ (gAt gs k) q p) _).mono λxs t z9=>?_;clear 5 z9 e1 e2;refine⟨?_,e2⟩;rw[uh1,e1,twt,hX e];exact um7 _ _
   .rw[ia (by simpa using e)];refine(FV hh ht r (AZ (gAt gs k) q p) _).mono λxs t z9=>?_;clear 5 z9 e1 e2;refine⟨?_,e2⟩;rw[e1,twt,ia e];exact(um9 _).symm
theorem twt_le{gs:List (List GS)}(s:Bool)(k:Nat):∀(mv:List Mv) (q:Nat),twt gs s (λ_=>1) k q mv<=mv.length
 |[],q=>un6 _
 |x::r,q=>by
   have:=twt_le (gs:=gs) s k r (AZ (gAt gs k) q x.1);rw[twt,uh1]
   split<;>lia
structure Told(S:List Ob)(gs:List (List GS))(H:Nat)(hs:List Nat)(a:List Sy):Prop where
 ih:S[H]?=some (.lst (hs.map .obj))
 hl:hs.length=gs.length
 hh:∀(i h:Nat),hs[i]?=some h->S[h]?=some (.lst (AJ (gAt gs i) 0 (tkS i a)))
theorem Told.gr{a:List Sy}(t:Told S gs H hs a)(g:Gr S S'):Told S' gs H hs a:=⟨g.get t.ih,t.hl,λi h e=>g.get (t.hh i h e)⟩
theorem Ky(k:Nat)(a:List Sy):(tkS k a).length<=a.length:=by
 unfold tkS;rw[ui8];exact ud4 _ _
def Pt(f:Fn):Prop:=∀(gs:List (List GS)) (a:List Sy) (S:List Ob) (H:Nat) (hs:List Nat),GT gs->okS gs (z9 gs) a->a.length<=40->Told S gs H hs a->Wf f [gsD gs,.obj H] S λr S'=>Gr S S'/\r=.tup [.int ((wS gs true (z9 gs) a).length:Nat),.int ((wS gs false (z9 gs) a).length:Nat)]
theorem Mn{k:Nat}{P:Gd×List D->T->Prop}(e:t.S[k]?=some (.lst ds))(h:P (some (k,ds),ds) t):L2.W (Ke (.obj k)) t P:=⟨_,_,by simp only[Ke,e],h⟩
def lw9(gs:List (List GS))(a:List Sy)(s:Bool)(k:Nat):Nat:=twt gs s (λx=>(byQ gs x).length) k 0 (tkS k a)
theorem ZA(s:Bool)(x:Str)(a b:D):L2.W (Aj (Ac (Ac (Aa 0) (fb 0) ixD) (fC (.str (sd s))) (eqS id))) ⟨[vw (.tup [.str x,a,b])],S⟩ λr t=>r=decide (x=sd s)/\t=⟨[vw (.tup [.str x,a,b])],S⟩:=by
 symm;exact⟨by by_cases e:x=sd s<;>simp[e],rfl⟩
theorem TW(hw:GH cw){gs:List (List GS)}{a:List Sy}{S:List Ob}{H h k n m:Nat}{e6 e7:Option Sl}(hT:GT gs)(hk:k<gs.length)(hok:okS gs (z9 gs) a)(hl:a.length<=40)(hh:S[h]?=some (.lst (AJ (gAt gs k) 0 (tkS k a)))) :
 L2.W (P7 cw) ⟨[vw (gsD gs),vw (.obj H),vw (.int (n:Nat)),vw (.int (m:Nat)),vw (.int (k:Nat)),vw (.obj h),e6,e7],S⟩ λo t=>o=.next/\∃S' e6 e7,Gr S S'/\t=⟨[vw (gsD gs),vw (.obj H),vw (.int ((n+lw9 gs a true k:Nat):Int)),vw (.int ((m+lw9 gs a false k:Nat):Int)),vw (.int (k:Nat)),vw (.obj h),e6,e7],S'⟩:=by
 have hL:LIM=100000:=rfl;have hz:(z9 gs).length=gs.length:=uc7;have hq:okQ (gAt gs k) 0 (tkS k a):=by
  have:=((B4 _ _ hz).mp hok).2 k;rw[FK] at this;exact this
 have htl:=Ky k a;have hf:∀s,(AE (gAt gs k) s 0 (tkS k a)).length<=25000:=λs=>by have:=Gn hT hk s _ 0 hq;lia
 have e9:∀s,((AE (gAt gs k) (sd s) 0 (tkS k a)).length:Int)+(twt gs s (λ_=>1) k 0 (tkS k a):Nat)=(lw9 gs a s k:Nat):=λs=>by have:=twt_wire (gs:=gs) s k (tkS k a) 0;unfold lw9;lia
 have t9:=λs=>twt_le (gs:=gs) s k (tkS k a) 0;unfold P7 gsD;symm;refine AR (EA hk) ?_;symm;refine(hw (gAt gs k) (tkS k a) S (.obj h) (.inr ⟨h,rfl,hh⟩) (Cb hT.ok hk) hq (by lia) (hf _) (hf _)).mono λr S1 z9=>?_;clear 5 z9 K A B e1 w1 G1 lA lB;subst e1;have hh1:=G1.get hh;symm;refine Fc w1.a ?_;symm;refine NZ ?_;refine W_bnd.mpr ?_;symm;refine Mn hh1 ?_;refine(FV (gs:=gs) (k:=k) (s:=true) (fr:=[]) hh1 (ZA true) (tkS k a) 0 _).mono λxs t z9=>?_;clear 5 z9 x1 x2;refine Bb (by rw[x1,hL];have:=t9 true;lia) ?_;rw[x2];symm;refine Fc w1.b ?_;symm;refine NZ ?_;refine W_bnd.mpr ?_;symm;refine Mn hh1 ?_;refine(FV (gs:=gs) (k:=k) (s:=false) (fr:=[]) hh1 (ZA false) (tkS k a) 0 _).mono λys t z9=>?_;clear 5 z9 y1 y2;refine Bb (by rw[y1,hL];have:=t9 false;lia) ?_;rw[y2];symm;refine⟨rfl,S1,vw (.obj A),vw (.obj B),G1,?_⟩;have q1:(n:Int)+((AE (gAt gs k) sL 0 (tkS k a)).length:Int)+(xs.length:Int)=((n+lw9 gs a true k:Nat):Int):=by
  have:=e9 true;rw[x1];have e:sd true=sL:=rfl;rw[e] at this;lia
 have q2:(m:Int)+((AE (gAt gs k) sR 0 (tkS k a)).length:Int)+(ys.length:Int)=((m+lw9 gs a false k:Nat):Int):=by
  have:=e9 false;rw[y1];have e:sd false=sR:=rfl;rw[e] at this;lia
 rw[<-q1,<-q2];rfl
theorem OG{cw:Fn}(hw:GH cw){gs:List (List GS)}{a:List Sy}{S0:List Ob}{H:Nat}{hs:List Nat}(hT:GT gs)(hok:okS gs (z9 gs) a)(hl:a.length<=40)(ht:Told S0 gs H hs a):∀(r:List Nat) (j:Nat) (S:List Ob) (e4 e5 e6 e7:Option Sl),hs.drop j=r->Gr S0 S->
 L2.W (forG (some (H,hs.map D.obj)) (unS 2 (Ay (Ao 4) (Ay (Ao 5) Bc))) (P7 cw) (BG j (r.map D.obj))) ⟨[vw (gsD gs),vw (.obj H),vw (.int (sm9 j (lw9 gs a true):Nat)),vw (.int (sm9 j (lw9 gs a false):Nat)),e4,e5,e6,e7],S⟩ λo t=>o=.next/\∃S' e4 e5 e6 e7,Gr S0 S'/\t=⟨[vw (gsD gs),vw (.obj H),vw (.int (sm9 (j+r.length) (lw9 gs a true):Nat)),vw (.int (sm9 (j+r.length) (lw9 gs a false):Nat)),e4,e5,e6,e7],S'⟩
 |[],j,S,e4,e5,e6,e7,_,hG=>Gq (DC (hG.get ht.ih)) ⟨rfl,S,e4,e5,e6,e7,hG,rfl⟩
 |h::r,j,S,e4,e5,e6,e7,hd,hG=>by
   have hj:hs[j]?=some h:=by rw[<-uk2,hd];rfl
   have hd2:hs.drop (j+1)=r:=by rw[<-uk9,hd];rfl
   have hjl:j<gs.length:=by rw[<-ht.hl];exact(ua7.mp hj).1
   rw[ul3,BG];refine FQ (DC (hG.get ht.ih)) ?_;symm;refine(TW hw hT hjl hok hl (hG.get (ht.hh j h hj))).mono ?_;rintro o t ⟨z1,S',f6,f7,z2,z3⟩;subst z1 z3;refine⟨rfl,?_⟩;have:=OG hw hT hok hl ht r (j+1) S' (vw (.int (j:Nat))) (vw (.obj h)) f6 f7 hd2 (hG.trans z2);rw[show j+1+r.length=j+(h::r).length by rw[uh1];lia] at this;exact this
theorem ak(hw:GH cw):Pt (fnOf 2 8 (DG cw)):=by
 intro gs a S H hs hT hok hl ht;have hz:(z9 gs).length=gs.length:=uc7;refine Ap rfl ?_;unfold DG;symm;refine Lr ?_;refine W_bnd.mpr ?_;symm;refine Ph ht.ih ?_;refine(OG hw hT hok hl ht hs 0 S none none none none rfl ⟨un6 _,λ_ _=>rfl⟩).mono ?_;rintro o t ⟨z1,S',f4,f5,f6,f7,z2,z3⟩;subst z1 z3;refine Bj ?_;symm;refine⟨z2,?_⟩;have e:∀s,sm9 (0+hs.length) (lw9 gs a s)=(wS gs s (z9 gs) a).length:=λs=>by
  rw[um9,ht.hl,Fd,I9,<-twt_sum s _ a (z9 gs) hz (CS hz hok)];exact Es _ λk _=>by rw[FK];rfl
 rw[e,e]
theorem Vf{ms2:List Sy}(h:∀k,tkS k ms2=tkS k ms)(h1:∀m∈ms,m.1<gs.length)(h2:∀m∈ms2,m.1<gs.length)(s:Bool):(wS gs s (z9 gs) ms2).length=(wS gs s (z9 gs) ms).length:=by
 have hz:(z9 gs).length=gs.length:=uc7;rw[Fd,I9,<-twt_sum s _ ms2 (z9 gs) hz h2,Fd,I9,<-twt_sum s _ ms (z9 gs) hz h1];exact Es _ λk _=>by rw[h k]
theorem M3{n:Nat}:∀(ms:List Sy),(∀m∈ms,m.1<n)->ms.length=sm9 n (λk=>(tkS k ms).length)
 |[],_=>(JG n λk _=>rfl).symm
 |m::r,h=>by
   have ih:=M3 r λx hx=>h x (ud5 _ hx);rw[Ln (g:=λk=>(tkS k r).length) (c:=1) n (h m uf0),<-ih,uh1,um7]
   .show(tkS m.1 (m::r)).length=_;rw[Bs rfl,uh1,um7]
   .intro k _ hk;show(tkS k (m::r)).length=_;rw[BQ λz=>hk z.symm]
def tuQ(gs:List (List GS))(x:Nat×Sy):D:=NT gs x.2.1 x.1 x.2.2.1 x.2.2.2
def ahB:M Out:=(Dq (objM BR (Ac (Aa 5) (fB (Ab (Ac (Ac (Aa 6) (fb 1) ixD) (fC (.str "right")) (eqS id)) Ad) Gu) ixD) (Ab (Aa 6) Ad)))
noncomputable def sI(s:Bool):Int:=if s=true then 0 else 1
theorem Ml(F:Bool->D)(s:Bool):atI [F true,F false] (sI s)=some (F s):=by cases s<;>rfl
theorem cJ(s:Bool)(x:Str)(a b:D):L2.W (Aj (Ac (Ac (Aa 0) (fb 0) ixD) (Ac (Ax (AK (Ab (fC (.str "left")) (Ab (fC (.str "right")) Ad)))) (Aa 1) ixD) (eqS id))) ⟨[vw (.tup [.str x,a,b]),vw (.int (sI s))],S⟩ λr t=>r=decide (x=sd s)/\t=⟨[vw (.tup [.str x,a,b]),vw (.int (sI s))],S⟩:=by
 symm;refine AR (Ml (λs=>.str (sd s)) s) ?_;symm;exact⟨by by_cases e:x=sd s<;>simp[e],rfl⟩
theorem OP{gs:List (List GS)}{a:List Sy}{S:List Ob}{H:Nat}{hs:List Nat}{s:Bool}{a0 a2 a3 a4 a5 a6 e10 e11 e12 e13:Option Sl}(hl:a.length<=40)(ht:Told S gs H hs a):∀(r:List Nat) (j:Nat) (e9:Option Sl),hs.drop j=r->
 L2.W (forG (some (H,hs.map D.obj)) (Ao 9) (An 8 (Ac (Aa 8) (fB (Ab (Ax (Ey 1 [7] (Js (Aa 9)) (Ao 0) (Aj (Ac (Ac (Aa 0) (fb 0) ixD) (Ac (Ax (AK (Ab (fC (.str "left")) (Ab (fC (.str "right")) Ad)))) (Aa 1) ixD) (eqS id))) (fb 1))) Ad) AC) AD)) (r.map D.obj)) ⟨[a0,vw (.obj H),a2,a3,a4,a5,a6,vw (.int (sI s)),vw (.int (sm9 j (λk=>twt gs s (λ_=>1) k 0 (tkS k a)):Nat)),e9,e10,e11,e12,e13],S⟩ λo t=>o=.next/\∃e9,t=⟨[a0,vw (.obj H),a2,a3,a4,a5,a6,vw (.int (sI s)),vw (.int (sm9 (j+r.length) (λk=>twt gs s (λ_=>1) k 0 (tkS k a)):Nat)),e9,e10,e11,e12,e13],S⟩
 |[],j,e9,_=>Gq (DC ht.ih) ⟨rfl,e9,rfl⟩
 |h::r,j,e9,hd=>by
   have hL:LIM=100000:=rfl;have hj:hs[j]?=some h:=by rw[<-uk2,hd];rfl
   have hd2:hs.drop (j+1)=r:=by rw[<-uk9,hd];rfl
   have hh:=ht.hh j h hj;rw[ul3];refine FQ (DC ht.ih) ?_;symm;refine NZ ?_;refine W_bnd.mpr ?_;symm;refine Mn hh ?_;refine(FV (gs:=gs) (k:=j) (s:=s) (fr:=[vw (.int (sI s))]) hh (cJ s) (tkS j a) 0 _).mono λxs t z9=>?_;clear 5 z9 x1 x2;refine Bb (by rw[x1,hL];have:=twt_le (gs:=gs) s j (tkS j a) 0;have:=Ky j a;lia) ?_;rw[x2];symm;refine⟨rfl,?_⟩;have:=OP (gs:=gs) (s:=s) (a0:=a0) (a2:=a2) (a3:=a3) (a4:=a4) (a5:=a5) (a6:=a6) (e10:=e10) (e11:=e11) (e12:=e12) (e13:=e13) hl ht r (j+1) (vw (.obj h)) hd2;rw[show j+1+r.length=j+(h::r).length by rw[uh1];lia] at this;have e:((sm9 j (λk=>twt gs s (λ_=>1) k 0 (tkS k a)):Nat):Int)+(xs.length:Int)=((sm9 (j+1) (λk=>twt gs s (λ_=>1) k 0 (tkS k a)):Nat):Int):=by rw[sm9,x1];lia
   rw[<-e] at this;exact this
theorem Ku(hp:FL cp)(hb:IC cb){gs:List (List GS)}{ms a b:List Sy}{σ:Ls}{S:List Ob}{H A B:Nat}{hs:List Nat}{W:Bool->List D}{s:Bool}{a4 a6 e8 e9 e10 e11 e12 e13:Option Sl}(hT:GT gs)(hR:RdS gs ms σ a b)(hl:(a++b).length<=40)(ht:Told S gs H hs a)(hst:∀y r ws,evS gs s (Ak gs (z9 gs) a) b=y::r->AA (gAt gs y.2.1) (hAt (Ak gs (z9 gs) a) y.2.1)=.st (sd s) ws->¬(σ.p s+(1+(pbS gs (Ak gs (z9 gs) a) y.2).length)<=(W s).length))
 (hA:∀s,S[if s=true then A else B]?=some (.lst ((evS gs s (z9 gs) ms).map (tuQ gs)))) :
 L2.W (Kt cp cb) ⟨[vw (gsD gs),vw (.obj H),vw (.tup [.int (σ.p true:Nat),.int (σ.p false:Nat)]),vw (.tup [.lst (W true),.lst (W false)]),a4,vw (.lst [.obj A,.obj B]),a6,vw (.int (sI s)),e8,e9,e10,e11,e12,e13],S⟩ λo t=>o=.next/\∃S' e8 e9 e10 e11 e12 e13,Gr S S'/\t=⟨[vw (gsD gs),vw (.obj H),vw (.tup [.int (σ.p true:Nat),.int (σ.p false:Nat)]),vw (.tup [.lst (W true),.lst (W false)]),a4,vw (.lst [.obj A,.obj B]),a6,vw (.int (sI s)),e8,e9,e10,e11,e12,e13],S'⟩:=by
 have hL:LIM=100000:=rfl;have hg:=hT.ok;have hz:(z9 gs).length=gs.length:=uc7;have hokA:okS gs (z9 gs) a:=((Ep gs a b _).mp hR.ok).1;have hlA:a.length<=40:=by rw[uf3] at hl;lia
 have ho:HsOk gs (Ak gs (z9 gs) a):=Jw hg a _ (Ia hg) hokA;have gr0:Gr S S:=⟨un6 _,λ_ _=>rfl⟩;have esum:sm9 (0+hs.length) (λk=>twt gs s (λ_=>1) k 0 (tkS k a))=(evS gs s (z9 gs) a).length:=by
  rw[um9,ht.hl,<-Pe (evS gs s (z9 gs) a),<-twt_sum s _ a (z9 gs) hz (CS hz hokA)];exact Es _ λk _=>by rw[FK]
 have ecut:AV ((evS gs s (z9 gs) ms).map (tuQ gs)) (some (((evS gs s (z9 gs) a).length:Nat):Int)) none=(evS gs s (Ak gs (z9 gs) a) b).map (tuQ gs):=by
  have e1:evS gs s (z9 gs) ms=evS gs s (z9 gs) a++evS gs s (Ak gs (z9 gs) a) b:=by rw[<-GJ];exact(hR.ev s).symm
  rw[J4,e1,uj9,List.drop_left' (by rw[ui8])]
 unfold Kt;symm;refine Lr ?_;refine W_bnd.mpr ?_;symm;refine Mn ht.ih ?_;refine(OP (gs:=gs) (s:=s) hlA ht hs 0 _ rfl).mono ?_;rintro o t ⟨z1,f9,z2⟩;subst z1 z2;rw[esum];refine Bj ?_;symm;refine AR (Ml (λs=>.obj (if s=true then A else B)) s) ?_;symm;refine KG (hA s) ?_;rw[ecut];symm
 cases hev:evS gs s (Ak gs (z9 gs) a) b with
 |nil=>
   refine Cc rfl ?_;symm;exact⟨rfl,S,_,_,_,_,_,_,gr0,rfl⟩
 |cons y r=>
   refine ES rfl ?_;clear 5(HX _ _ hev)a1 b1 e1 e2 e3 e4;have hk:y.2.1<gs.length:=CS hz hR.ok y.2 (by rw[e1];simp);have hkh:hs[y.2.1]?=some (hs.getD y.2.1 0):=by rw[ua6,ub2 (by rw[ht.hl];exact hk)];rfl
   have hq:okQ (gAt gs y.2.1) 0 (tkS y.2.1 a):=by
    have:=((B4 _ _ hz).mp hokA).2 y.2.1;rw[FK] at this;exact this
   have hcur:hAt (Ak gs (z9 gs) a) y.2.1=AB (gAt gs y.2.1) 0 (tkS y.2.1 a):=by
    rw[K2 y.2.1 a _ hz (CS hz hokA),FK]
   have hside:(AA (gAt gs y.2.1) y.1).side=sd s:=by rw[e4];exact e3
   have hti:atI (hs.map D.obj) ((y.2.1:Nat):Int)=some (.obj (hs.getD y.2.1 0)):=B7 (by rw[ug1,hkh];rfl);have htl:=Ky y.2.1 a;rw[ul3];unfold tuQ NT gsD;rw[hside];symm;refine AR (EA hk) ?_;symm;refine AR (EA hk) ?_;symm;refine W_ix_obj.mpr ⟨_,ht.ih,_,hti,?_⟩;symm;refine(hb (gAt gs y.2.1) (tkS y.2.1 a) S (.obj (hs.getD y.2.1 0)) (Cb hg hk) hq (by lia) (.inr ⟨_,rfl,ht.hh _ _ hkh⟩)).use ?_;rw[<-hcur];refine AR (Ed (ho.lt _ hk)) ?_;symm;have hgs:=EQ (Cb hg hk) (ho.lt _ hk)
   cases egs:AA (gAt gs y.2.1) (hAt (Ak gs (z9 gs) a) y.2.1) with
   |fin=>
     rw[GS.d];symm;refine Cc (by cases s<;>decide) ?_;symm;exact⟨rfl,S,_,_,_,_,_,_,gr0,rfl⟩
   |st side ws=>
     rw[egs] at hgs;clear 5(Lm hgs)s' rfl;rw[GS.d];symm
     by_cases hss:s'=s
     .subst hss;refine ES (by simp) ?_;clear 5(hR.next hev egs)b' n1 n2 n3 n4;have hno:=hst y r ws hev egs;have hq2:okQ (gAt gs y.2.1) 0 (tkS y.2.1 a++[y.2.2]):=by
       have:=((B4 _ _ hz).mp n1).2 y.2.1;rw[CU,Bs rfl,FK,List.append_cons] at this;exact((EY _ 0 _ _).mp this).1
      have emsg:D.tup [.str (sd s'),.str (wdAt (gAt gs y.2.1) y.1 y.2.2.1).1,y.2.2.2]=Dn (gAt gs y.2.1) (AB (gAt gs y.2.1) 0 (tkS y.2.1 a)) y.2.2.1 y.2.2.2:=by
       unfold Dn;rw[<-hcur,n4,egs];rfl
      symm;refine W_ix_obj.mpr ⟨_,ht.ih,_,hti,?_⟩;symm;rw[show AV [D.int (y.2.1:Nat),D.str (sd s'),D.str (wdAt (gAt gs y.2.1) y.1 y.2.2.1).1,y.2.2.2] (some 1) none=[D.str (sd s'),D.str (wdAt (gAt gs y.2.1) y.1 y.2.2.1).1,y.2.2.2] from rfl,emsg];refine(hp gs y.2.1 (tkS y.2.1 a) y.2.2.1 y.2.2.2 (.obj (hs.getD y.2.1 0)) S hT hk hq2 (by lia) (.inr ⟨_,rfl,ht.hh _ _ hkh⟩)).mono λq S1 z9=>?_;clear 5 z9 G1 e5;subst e5;symm;refine E4 (Ml (λs=>.lst (W s)) s') ?_;symm;refine E4 (Ml (λs=>.int (σ.p s:Nat)) s') ?_;symm;refine Cc (uk3 ?_) ?_
      .have epl:(pbS gs (Ak gs (z9 gs) a) y.2).length=(As (wdAt (gAt gs y.2.1) (AB (gAt gs y.2.1) 0 (tkS y.2.1 a)) y.2.2.1).2.1 y.2.2.2).length+1:=by unfold pbS;rw[hcur];rfl
       rw[uh1,uh1];lia
      .symm;exact⟨rfl,S1,_,_,_,_,_,_,G1,rfl⟩
     .refine Cc (by simpa using λz=>hss (Fk z)) ?_;symm;exact⟨rfl,S,_,_,_,_,_,_,gr0,rfl⟩
structure AhS(gs:List (List GS))(S0 S:List Ob)(a:List Sy):Prop where
 gr:Gr S0 S
 a0:∀s,S[if s=true then S0.length else S0.length+1]?=some (.lst ((evS gs s (z9 gs) a).map (tuQ gs)))
theorem Vg{a:List Sy}{S0:List Ob}{a2 a3 a4 e7 e8 e9 e10 e11 e12 e13:Option Sl}(hg:∀g∈gs,GOk g)(h1:m.1<gs.length/\MvOk (gAt gs m.1) (hAt (Ak gs (z9 gs) a) m.1) m.2.1 m.2.2)(hl:a.length<=40)(h:AhS gs S0 S a) :
 L2.W ahB ⟨[a0,a1,a2,a3,a4,vw (.lst [.obj S0.length,.obj (S0.length+1)]),vw (syD gs (Ak gs (z9 gs) a) m),e7,e8,e9,e10,e11,e12,e13],S⟩ λo t=>o=.next/\∃S',AhS gs S0 S' (a++[m])/\t=⟨[a0,a1,a2,a3,a4,vw (.lst [.obj S0.length,.obj (S0.length+1)]),vw (syD gs (Ak gs (z9 gs) a) m),e7,e8,e9,e10,e11,e12,e13],S'⟩:=by
 have hL:LIM=100000:=rfl;obtain⟨s,ws,egs,hpl,ew,nd,_⟩:=Ix hg h1;have es:sdS gs (Ak gs (z9 gs) a) m=sd s:=by unfold sdS;rw[egs];rfl
 have eside:(AA (gAt gs m.1) (hAt (Ak gs (z9 gs) a) m.1)).side=sd s:=by rw[egs];rfl
 have hle:∀(s:Bool) (ms:List Sy) (hs:List Nat),(evS gs s hs ms).length<=ms.length:=by
  intro s ms
  induction ms with
  |nil=>intro hs;exact un6 _
  |cons m r ih=>
    intro hs;have:=ih (nxH gs hs m);rw[evS,uf3,uh1]
    split
    .rw[uc9];lia
    .rw[uj7];lia
 have hle:=hle s a (z9 gs);unfold ahB;symm;refine Je (k:=if s=true then S0.length else S0.length+1) ?_;unfold syD sayD;rw[eside];symm;refine AR (Ko (λs=>.obj (if s=true then S0.length else S0.length+1)) s) ?_;refine⟨rfl,_,h.a0 s,?_⟩;symm;refine⟨_,_,h.a0 s,by unfold BR;exact hX (by rw[ui8,hL];lia),?_⟩;refine⟨rfl,_,⟨Rh h.gr (by split<;>lia),λs2=>?_⟩,rfl⟩;rw[GJ,evS,evS,uj0,uj9]
 by_cases q:s2=s
 .subst q;rw[hX es,A8 (h.a0 s2)];show _=some (Ob.lst (_++[tuQ gs (hAt (Ak gs (z9 gs) a) m.1,m)]));unfold tuQ NT;rw[eside]
 .have hn:¬sdS gs (Ak gs (z9 gs) a) m=sd s2:=λz=>q (Fk (z.symm.trans es));rw[ia hn,um8,uj0,ud7 (by cases s<;>cases s2<;>simp at q⊢)];exact h.a0 s2
def KK(f:Fn):Prop:=∀(gs:List (List GS)) (ms a b:List Sy) (σ:Ls) (S:List Ob) (H:Nat) (hs:List Nat) (W:Bool->List D),GT gs->okS gs (z9 gs) ms->ms.length<=40->RdS gs ms σ a b->(a++b).length<=40->Told S gs H hs a->(∀s y r ws,evS gs s (Ak gs (z9 gs) a) b=y::r->AA (gAt gs y.2.1) (hAt (Ak gs (z9 gs) a) y.2.1)=.st (sd s) ws->¬(σ.p s+(1+(pbS gs (Ak gs (z9 gs) a) y.2).length)<=(W s).length))->
 Wf f [gsD gs,.obj H,.tup [.int (σ.p true:Nat),.int (σ.p false:Nat)],.tup [.lst (W true),.lst (W false)],.lst (dsS gs (z9 gs) ms)] S λr _=>r=.bl true
theorem V4(hp:FL cp)(hb:IC cb):KK (fnOf 5 14 (Eh cp cb)):=by
 intro gs ms a b σ S H hs W hT hok hl hR hl2 ht hst;have hg:=hT.ok;refine Ap rfl ?_;unfold Eh;symm;have g0:AhS gs S (S++[Ob.lst []]++[Ob.lst []]) []:=⟨Gr.app.trans Gr.app,λs=>by cases s<;>simp[evS]⟩;refine BX (λr t=>∃(x y:List Sy) (S':List Ob) (e6:Option Sl),ms=x++y/\r=dsS gs (Ak gs (z9 gs) x) y/\AhS gs S S' x/\t=⟨[vw (gsD gs),vw (.obj H),vw (.tup [.int (σ.p true:Nat),.int (σ.p false:Nat)]),vw (.tup [.lst (W true),.lst (W false)]),vw (.lst (dsS gs (z9 gs) ms)),vw (.lst [.obj S.length,.obj (S.length+1)]),e6,none,none,none,none,none,none,none],S'⟩) _ _ ⟨[],ms,_,none,rfl,rfl,g0,by rw[show(S++[Ob.lst []]).length=S.length+1 by simp];rfl⟩ ?_ ?_
 .rintro d r t ⟨x,y,S',e6,e0,hr,hA,rfl⟩ _
  cases y with
  |nil=>cases hr
  |cons m y=>
    rw[dsS] at hr;injection hr with h1 h2
    subst h1 h2;have hl3:x.length<=40:=by
     have:=gY List.length e0;rw[uf3,uh1] at this;lia
    refine E5 ?_;refine(Vg hg (R4 (e0 ▸ hok)) hl3 hA).mono ?_;rintro o t ⟨z1,S'',z2,z3⟩;subst z1 z3;exact⟨x++[m],y,S'',_,by rw[e0,ug3];rfl,by rw[EN],z2,rfl⟩
 .rintro t ⟨x,y,S',e6,e0,hr,hA,rfl⟩
  cases y with
  |cons m y=>cases hr
  |nil=>
    rw[uj0] at e0;subst e0;symm;show L2.W (Cl (Ao 7) (Kt cp cb) [.int (sI true),.int (sI false)]) _ _;rw[E7];refine E5 ?_;refine(Ku hp hb (s:=true) hT hR hl2 (ht.gr hA.gr) (hst true) hA.a0).mono ?_;rintro o t ⟨z1,S1,f8,f9,f10,f11,f12,f13,G1,z2⟩;subst z1 z2;rw[E7];refine E5 ?_;refine(Ku hp hb (s:=false) hT hR hl2 (ht.gr (hA.gr.trans G1)) (hst false) λs=>G1.get (hA.a0 s)).mono ?_;rintro o t ⟨z1,S2,f8,f9,f10,f11,f12,f13,G2,z2⟩;subst z1 z2;refine W_forL_nil.mpr ?_;symm;rfl
theorem WR(hg:∀g∈gs,GOk g):Rq 11 (gsD gs):=by
 unfold gsD;refine GU (n:=10) λx hx=>?_;clear 5(un2.mp hx)g hg1 rfl;refine GU (n:=9) λx hx=>?_;clear 5(un2.mp hx)s hs rfl;exact λm hm=>XW ((hg g hg1).all s hs) hm
theorem So{gs:List (List GS)}(hg:∀g∈gs,GOk g):∀(ms:List Sy) (hs:List Nat),okS gs hs ms->∀d∈dsS gs hs ms,Rq 5 d
 |[],hs,_,d,hd=>(nomatch hd)
 |m::r,hs,⟨h1,h2⟩,d,hd=>by
   rw[dsS] at hd;rcases ul2.mp hd with rfl|hd
   .have hwd:=Ec (Cb hg h1.1) h1.2.lt h1.2.pl;unfold syD sayD;refine Kn (n:=4) λx hx=>?_;simp only[ul2,ui0,hJ] at hx;rcases hx with rfl|rfl|rfl|rfl
    .exact Iw
    .exact Km
    .exact Km
    .exact Kl 4 _ (GN (EO 3 _ hwd.dep hwd.ok _ h1.2.fit) 1)
   .exact So hg r _ h2 d hd
theorem Lk(hg:∀g∈gs,GOk g){ms:List Sy}(hok:okS gs (z9 gs) ms):Rq 12 (.lst [gsD gs,.lst (dsS gs (z9 gs) ms)]):=GU (n:=11) λx hx=>by
 simp only[ul2,ui0,hJ] at hx;rcases hx with rfl|rfl
 .exact WR hg
 .exact(GU (n:=5) λx hx=>So hg ms _ hok x hx).mono (by decide)
def Ex(gs:List (List GS))(ms:List Sy)(c:Bool->Nat)(s:Bool):List D:=(wS gs s (z9 gs) ms).take (c s)
theorem OL(hg:∀g∈gs,GOk g){w:Bool->List Nat}{ms:List Sy}(hok:okS gs (List.replicate gs.length 0) ms)(hw:∀s,wD (w s)=wS gs s (List.replicate gs.length 0) ms):∀τ,Run gs w (ls0 gs) τ->∀s j,τ.nx gs w s≠.brk j:=by
 intro τ r s j z;have h0:(gs.map λ_=>0)=List.replicate gs.length 0:=by rw[uk0]
 clear 5(Hv hg ms (ls0 gs) (List.replicate gs.length 0) h0 uc7 (ui8 ..) hok (λs=>⟨[],[],by rw[hw,uj0];rfl,rfl⟩))τ' a1 a2 a3 a4;have hp:∀s,τ'.p s=(w s).length:=λs=>by
  rw[a2 s,<-hw,D9];show 0+_=_;lia
 have hx:∀s,τ'.nx gs w s=.stop:=λs=>by
  unfold Ls.nx;exact Hr (by rw[hp];exact ud3 (un6 _))
 have:=LA z (UF r a1 λs k m th e q=>by rw[hx s] at q;cases q)
 rw[hx s] at this
 cases this
theorem YJ(hg:∀g∈gs,GOk g){w v:Bool->List Nat}{ms:List Sy}(hok:okS gs (List.replicate gs.length 0) ms)(hw:∀s,wD (w s)=wS gs s (List.replicate gs.length 0) ms)(ag:∀s,Agr (v s).length (v s) (w s)):∀τ,Run gs v (ls0 gs) τ->∀s j,τ.nx gs v s≠.brk j:=by
 intro τ r s j z;have hp:=r.inn λ_=>un7 _;have r2:Run gs w (ls0 gs) τ:=r.loc λs i hi=>ag s i (ue9 hi (hp s));exact OL hg hok hw τ r2 s j (Kh z (ag s) (Ip z).2)
def ZX(f:Fn):Prop:=∀(gs:List (List GS)) (ms:List Sy) (x:Bool->D) (S:List Ob),(∀g∈gs,GOk g)->gs.length<=9->okS gs (List.replicate gs.length 0) ms->(∀s,(wS gs s (List.replicate gs.length 0) ms).length<=25000)->(∀s,x s=.lst (wS gs s (List.replicate gs.length 0) ms)\/∃k,x s=.obj k/\S[k]?=some (.lst (wS gs s (List.replicate gs.length 0) ms)))->Wf f [gsD gs,x true,x false] S λq S'=>Gr S S'/\AllMg (tks gs ms)/\∃H hs,q=.tup [.obj H,.tup [.int ((wS gs true (List.replicate gs.length 0) ms).length:Nat),.int ((wS gs false (List.replicate gs.length 0) ms).length:Nat)]]/\HrdAt S' H hs (tks gs ms)
theorem Tc{f:Fn}(hf:KJ f):ZX f:=λgs ms x S hg g9 hok hl hx=>by
 clear 5(exW hg g9 hok hl)w ew ow bw;refine(hf S gs w x ow (λs=>?_) (OL hg hok ew)).mono λr S' ⟨G,σ,H,hs,hE,e1,e2⟩=>?_
 .rcases hx s with e|⟨k,e1,e2⟩
  .exact .inl (by rw[e,ew])
  .exact .inr ⟨k,e1,DB e2,by rw[e2,ew]⟩
 .clear 5(Tr hg hok ew hE)q1 q2 q3 q4;have e:=Rk q3 q4;have hm:=hE.msgs hg bw;rw[e] at hm e2;rw[q2,q2,<-D9,<-D9,ew,ew] at e1;exact⟨G,hm,H,hs,e1,e2⟩
theorem Rl(g9:gs.length<=9)(hl:ms.length<=40)(hm:AllMg (tks gs ms)):nvO 6 (.lst ((tks gs ms).map D.lst))=true:=TR hm (by rw[Ja];lia) λi=>by
 unfold tks;rw[ua6,ug1]
 cases (List.range gs.length)[i]? with
 |none=>exact un7 _
 |some k=>
   show(AJ (gAt gs k) 0 (tkS k ms)).length<=1000;rw[CV];have:=Ky k ms;lia
theorem O1(hm:AllMg (tks gs ms))(n:Nat):((tks gs ms).map D.lst).map (AT S (4+n+1))=(tks gs ms).map D.lst:=by
 rw[un3];refine ue6 λx hx=>?_;show D.lst (x.map (AT S (4+n)))=_;rw[NB (hm.mem hx) n]
theorem Vc{g:Bool->Bool}{a b:Int}(g9:gs.length<=9)(hl:ms.length<=40)(hH:HrdAt t.S H hs (tks gs ms))(hm:AllMg (tks gs ms))(h:P (.bl (g true)) t):L2.W (eqO g (.tup [.obj H,.tup [.int a,.int b]]) (.tup [.lst ((tks gs ms).map D.lst),.tup [.int a,.int b]])) t P:=by
 refine ZK (d:=.tup [.lst ((tks gs ms).map D.lst),.tup [.int a,.int b]]) ?_ ?_ ?_ h
 .show D.tup [AT t.S (4+9+2) (.obj H),.tup [.int a,.int b]]=_;rw[hH.res hm 9]
 .show D.tup [.lst (((tks gs ms).map D.lst).map (AT t.S (4+9+1))),.tup [.int a,.int b]]=_;rw[O1 hm 9]
 .rw[nvO,uh5,ug8,uh9];refine⟨by show 2<=1000;decide,λx hx=>?_⟩;rcases ul2.mp hx with rfl|hx
  .exact GN (Rl g9 hl hm) 9
  .rw[uf5] at hx;subst hx;rfl
theorem a7{g:Bool->Bool}(g9:gs.length<=9)(hl:ms.length<=40)(hH:HrdAt t.S H hs (tks gs ms))(hm:AllMg (tks gs ms))(h:P (.bl (g true)) t):L2.W (eqO g (.lst ((tks gs ms).map D.lst)) (.obj H)) t P:=by
 refine ZK (d:=.lst ((tks gs ms).map D.lst)) ?_ ?_ (GN (Rl g9 hl hm) 10) h
 .show D.lst (((tks gs ms).map D.lst).map (AT t.S (4+10+1)))=_;rw[O1 hm 10]
 .show AT t.S (4+10+2) (.obj H)=_;rw[hH.res hm 10]
theorem a8{g:Bool->Bool}{A:Nat}{a b:List D}(ha:isI a)(hb:isI b)(eA:t.S[A]?=some (.lst a))(eB:t.S[B]?=some (.lst b))(h:P (.bl (g true)) t):L2.W (eqO g (.tup [.obj A,.obj B]) (.tup [.lst a,.lst b])) t P:=by
 refine cS (d:=.tup [.lst a,.lst b]) ?_ ?_ ?_ ?_ h
 .show D.tup [AT t.S (14+1) (.obj A),AT t.S (14+1) (.obj B)]=_;rw[AT,eA,AT,eB];dsimp only;rw[GQ ha,GQ hb]
 .show D.tup [.lst (a.map (AT t.S 14)),.lst (b.map (AT t.S 14))]=_;rw[GQ ha,GQ hb]
 .show(E1 a&&(E1 b&&true))=true;rw[JE ha,JE hb];rfl
 .refine Kn (n:=15) λx hx=>?_;rcases ul2.mp hx with rfl|hx
  .exact O4 ha
  .rw[uf5] at hx;subst hx;exact O4 hb
theorem Qv(gs:List (List GS))(ms:List Sy):(tks gs ms).map D.lst=(List.range gs.length).map λk=>D.lst (AJ (gAt gs k) 0 (tkS k ms)):=by
 unfold tks;rw[un3];rfl
theorem Xj{a:List Sy}(h:HrdAt S H hs (tks gs a)):Told S gs H hs a:=by
 refine⟨h.ih,h.hl.trans (Ja gs a),λi k e=>?_⟩;rw[h.hh i k e];have hi:i<gs.length:=by
  have:=(ua7.mp e).1;rw[h.hl,Ja] at this;exact this
 unfold tks;rw[ua6,ug1,ue7 hi];rfl
theorem XJ{gs:List (List GS)}{ms a b:List Sy}{σ:Ls}{S:List Ob}{H:Nat}{hs:List Nat}(hR:RdS gs ms σ a b)(ht:Told S gs H hs a):∀(l:List Nat) (j:Nat) (z1 z2:Option Sl),(List.range gs.length).drop j=l->L2.W (Bl (unS 2 (Ay (Ao 0) (Ay (Ao 1) Bc))) CT (fSl (Aa 1) fNo (BO (fB (Ab (Ac (Aa 2) (Aa 0) ixD) Ad) AC)) Ci) (BG j (l.map λk=>D.lst (AJ (gAt gs k) 0 (tkS k ms))))) ⟨[z1,z2,vw (.obj H)],S⟩ λxs t=>xs=(l.map λk=>D.lst (AJ (gAt gs k) 0 (tkS k a)))/\t.S=S
 |[],j,z1,z2,_=>W_compL_nil.mpr ⟨rfl,rfl⟩
 |k::l,j,z1,z2,hd=>by
   have hj:(List.range gs.length)[j]?=some k:=by rw[<-uk2,hd];rfl
   have hd2:(List.range gs.length).drop (j+1)=l:=by rw[<-uk9,hd];rfl
   have hjl:j<gs.length:=by have:=(ua7.mp hj).1;rw[ug6] at this;exact this
   have ejk:j=k:=by rw[ue7 hjl] at hj;injection hj
   subst ejk;have hkh:hs[j]?=some (hs.getD j 0):=by rw[ua6,ub2 (by rw[ht.hl];exact hjl)];rfl
   have hti:atI (hs.map D.obj) ((j:Nat):Int)=some (.obj (hs.getD j 0)):=B7 (by rw[ug1,hkh];rfl);rw[ul3,BG,CK];symm;rw[hX rfl];symm;refine W_ix_obj.mpr ⟨_,ht.ih,_,hti,?_⟩;symm;refine Fc (ht.hh _ _ hkh) ?_;symm;refine(XJ hR ht l (j+1) _ _ hd2).mono λxs t z9=>?_;clear 5 z9 e1 e2;subst e1;refine⟨?_,e2⟩;rw[ul3,Hf,<-hR.tk j,CU,Fj,List.take_left]
def ZW(f:Fn):Prop:=∀(gs:List (List GS)) (ms:List Sy) (c:Bool->Nat) (S:List Ob),GT gs->okS gs (z9 gs) ms->ms.length<=40->Wf f [gsD gs,.lst (Ex gs ms c true),.lst (Ex gs ms c false)] S λq S'=>Gr S S'/\∃a b σ H hs,RdS gs ms σ a b/\(∀s,σ.p s<=(Ex gs ms c s).length)/\(∀s y r ws,evS gs s (Ak gs (z9 gs) a) b=y::r->AA (gAt gs y.2.1) (hAt (Ak gs (z9 gs) a) y.2.1)=.st (sd s) ws->¬(σ.p s+(1+(pbS gs (Ak gs (z9 gs) a) y.2).length)<=(Ex gs ms c s).length))/\q=.tup [.obj H,.tup [.int (σ.p true:Nat),.int (σ.p false:Nat)]]/\HrdAt S' H hs (tks gs a)/\AllMg (tks gs a)
theorem Tb{f:Fn}(hf:KJ f):ZW f:=λgs ms c S hT hok hl=>by
 have hg:=hT.ok;have g9:=hT.n9;have hwl:∀s,(wS gs s (z9 gs) ms).length<=25000:=λs=>by have:=IA hT s ms _ hok;lia
 clear 5(exW hg g9 hok hwl)w ew ow bw;have ev:∀s,wD ((w s).take (c s))=Ex gs ms c s:=λs=>by unfold wD Ex;rw[ul7];exact gY (List.take (c s)) (ew s)
 have el:∀s,((w s).take (c s)).length=(Ex gs ms c s).length:=λs=>by rw[<-ev s,D9]
 have ag:∀s,Agr ((w s).take (c s)).length ((w s).take (c s)) (w s):=λs i hi=>by
  rw[uh3] at hi;rw[ub1 (by lia)]
 refine(hf S gs (λs=>(w s).take (c s)) (λs=>.lst (Ex gs ms c s)) ⟨hg,g9,λs=>?_⟩ (λs=>.inl (by rw[ev])) (YJ hg hok ew ag)).mono λr S' ⟨G,σ,H,hs,hE,e1,e2⟩=>?_
 .have:=ow.2.2 s;rw[uh3];lia
 .clear 5(Tm hg hok ew (λ_=>rfl) hE)a b q1 q2 q3 q4;have e:=Rk q1.hl q1.hd;have hm:=hE.msgs hg λs x hx=>bw s x (ud9 hx);rw[e] at hm e2;exact⟨G,a,b,σ,H,hs,q1,λs=>by rw[<-el s];exact q2 s,λs y r ws h1 h2=>by rw[<-el s];exact q4 s y r ws h1 h2,e1,e2,hm⟩
theorem VY{cst cln ctb:Fn}(hst:KK cst)(hln:Pt cln)(htb:KJ ctb)(hc:L8 cc){ns:List Int}{gs:List (List GS)}{ms:List Sy}{S9:List Ob}{A B:Nat}{e2 e7 e8:Option Sl}(hT:GT gs)(hok:okS gs (z9 gs) ms)(hl:ms.length<=40)(hm:AllMg (tks gs ms))(eA9:S9[A]?=some (.lst (wS gs true (z9 gs) ms)))(eB9:S9[B]?=some (.lst (wS gs false (z9 gs) ms))) :
 L2.W (P6 cst cln ctb cc) ⟨[vw (.scr ns),vw (gsD gs),e2,vw (.lst (dsS gs (z9 gs) ms)),vw (.lst [gsD gs,.lst (dsS gs (z9 gs) ms)]),vw (.tup [.obj A,.obj B]),vw (.lst ((tks gs ms).map D.lst)),e7,e8,none,none,none,none,none],S9⟩ λo _=>o=.ret (.bl true):=by
 have hL:LIM=100000:=rfl;clear 5(hc ns 19 (by decide) (by decide))c19 h19;have hcv:=Tb htb;have hg:=hT.ok;have g9:=hT.n9;unfold P6;symm;refine h19.use ?_;symm;refine Fc eA9 ?_;symm;refine Fz (by lia) ?_;have p0:=uk1 c19 (b:=((wS gs true (z9 gs) ms).length:Int)+1) (by lia);clear 5(ub6 p0)x ex;rw[ex];symm;refine KG eA9 ?_;symm;refine Fc eB9 ?_;symm;refine Fz (by lia) ?_;have p1:=uk1 (c19/401) (b:=((wS gs false (z9 gs) ms).length:Int)+1) (by lia);clear 5(ub6 p1)y ey;rw[ey];symm;refine KG eB9 ?_;rw[Hf,Hf];symm;refine(hcv gs ms (λs=>if s=true then x else y) S9 hT hok hl).mono λq S10 z9=>?_;clear 5 z9 G10 a b σ H3 hs3 hR hp hstk e1 h10 hm3;subst e1;symm;refine Qz (Lk hg hok) (by decide) ?_;symm;refine Vb ?_;symm;refine⟨_,rfl,?_⟩;have ht:=Xj h10;have hRl:(a++b).length<=40:=by
  have hz:(z9 gs).length=gs.length:=uc7;rw[M3 (n:=gs.length) (a++b) (CS hz hR.ok),Es (g:=λk=>(tkS k ms).length) gs.length λk _=>by rw[hR.tk k],<-M3 ms (CS hz hok)];exact hl
 have hla:a.length<=40:=by rw[uf3] at hRl;lia
 have hokA:okS gs (z9 gs) a:=((Ep gs a b _).mp hR.ok).1;rw[Qv];refine(XJ hR ht (List.range gs.length) 0 none none rfl).mono λxs t z9=>?_;clear 5 z9 e1 e2;rw[<-Qv] at e1;subst e1;refine Bb (by rw[ui8,Ja,hL];lia) ?_;rw[e2];symm;refine a7 g9 hla h10 hm3 ?_;symm;refine(hln gs a S10 H3 hs3 hT hokA hla ht).mono λq S11 z9=>?_;clear 5 z9 G11 e1;subst e1;have hpl:=hp true;have hpr:=hp false;have hsk:=hst gs ms a b σ S11 H3 hs3 (Ex gs ms λs=>if s=true then x else y) hT hok hl hR hRl (ht.gr G11) hstk;have e5:D.tup [.int ((wS gs true (z9 gs) a).length:Nat),.int ((wS gs false (z9 gs) a).length:Nat)]=.tup [.int (σ.p true:Nat),.int (σ.p false:Nat)]:=by rw[hR.ps true,hR.ps false]
 rw[e5];refine⟨_,_,by show eqS _ _ _ _=_;unfold eqS;rw[Kn (n:=5) (λz hz=>by
  simp only[ul2,ui0,hJ] at hz;rcases hz with rfl|rfl<;>exact Iw) EQD (by decide)];rfl,?_⟩
 symm;refine Cc (uk3 (by
  have:(Ex gs ms (λs=>if s=true then x else y) true).length=((wS gs true (z9 gs) ms).take x).length:=rfl;lia)) ?_
 symm;refine Cc (uk3 (by
  have:(Ex gs ms (λs=>if s=true then x else y) false).length=((wS gs false (z9 gs) ms).take y).length:=rfl;lia)) ?_
 symm;refine Wf.mono hsk λq S' e=>?_;subst e;symm;rfl
theorem YA{cst cln ctb ctn cwb ctk cdu csd cg:Fn}(hst:KK cst)(hln:Pt cln)(htb:KJ ctb)(hc:L8 cc)(htn:QI ctn)(hwb:WBl cwb)(htk:Oe ctk)(hdu:UO cdu)(hsd:QH csd)(hg0:ST cg){ns:List Int}(hn:ns.length<=63):Wf (fnOf 1 14 (F1 cst cln ctb cc ctn cwb ctk cdu csd cg)) [.scr ns] [] λq _=>q=.bl true:=by
 have hL:LIM=100000:=rfl;clear 5(hc ns 18 (by decide) (by decide))c18 h18;have htv:=Tc htb;refine Ap rfl ?_;unfold F1;symm;refine(hg0 ns _).mono λq S1 z9=>?_;clear 5 z9 e0 gs e1 hT g1;have e0:=e0.symm;subst e0 e1;have hg:=hT.ok;have g9:=hT.n9;symm;have hcl:(AV ns (some 20) (some 60)).length<=40:=by
  unfold AV;rw[uh3];have e1:HT.sIx ns.length 0 (some 20)=min 20 ns.length:=by simp only[HT.sIx];rw[ia (by lia)];lia
  have e2:HT.sIx ns.length ns.length (some 60)=min 60 ns.length:=by simp only[HT.sIx];rw[ia (by lia)];lia
  rw[e1,e2];lia
 refine(hsd gs (AV ns (some 20) (some 60)) _ hT g1 hcl).mono λq S2 z9=>?_;clear 5 z9 e0 ms e1 hok hl;have e0:=e0.symm;subst e0 e1;have hwl:∀s,(wS gs s (z9 gs) ms).length<=25000:=λs=>by have:=IA hT s ms _ hok;lia
 have hwi:∀s,isI (wS gs s (z9 gs) ms):=λs=>ai (KF hg g9 s ms _ hok);symm;unfold gsD;symm;refine(FC (l:=gs) (f:=λg=>.lst (g.map GS.d)) (fr:=[]) ?_).mono ?_
 .intro g _;symm;exact⟨rfl,rfl⟩
 rintro xs tc ⟨rfl,hS⟩;refine Bb (by rw[ui8,hL];lia) ?_;rw[hS];symm;have eh:D.lst (gs.map λg=>.lst (g.map GS.d))=gsD gs:=rfl;rw[eh];refine(hwb gs ms _ (.lst (dsS gs (z9 gs) ms)) hT hok hl (.inl rfl)).mono λq S3 z9=>?_;clear 5 z9 G3 A B ab lA lB e1 eA eB;subst e1;symm;refine(hdu gs ms S3 hT hok hl).mono λq S4 z9=>?_;clear 5 z9 G4 e1;subst e1;have eA4:=G4.get eA;have eB4:=G4.get eB;symm;refine a8 (hwi true) (hwi false) eA4 eB4 ?_;symm;refine Qz (Lk hg hok) (by decide) ?_;symm;refine(htk gs ms S4 hT hok hl).mono λq S5 z9=>?_;clear 5 z9 e0 e1;have e0:=e0.symm;subst e0 e1;rw[<-Qv];symm;refine Fc eA4 ?_;symm;refine Fc eB4 ?_;symm;refine Jd eA4 ?_;symm;refine Jd eB4 ?_;symm;refine(htv gs ms (λs=>.lst (wS gs s (z9 gs) ms)) S4 hg g9 hok hwl (λs=>.inl rfl)).mono λq S6 z9=>?_;clear 5 z9 G6 hm H hh e1 h6;subst e1;have eA6:=G6.get eA4;have eB6:=G6.get eB4;symm;refine Vc g9 hl h6 hm ?_;symm;refine Qz (Lk hg hok) (by decide) ?_;symm;refine h18.use ?_;symm;refine(htn gs ms c18 S6 hok hl).mono λq S7 z9=>?_;clear 5 z9 G7 K ms2 e1 eK hok2 hl2 htk2;subst e1;symm;refine(hwb gs ms2 S7 (.obj K) hT hok2 (by lia) (.inr ⟨K,rfl,eK⟩)).mono λq S8 z9=>?_;obtain⟨G8,A2,B2,_,_,_,e1,eA2,eB2⟩:=z9;subst e1;symm;refine Jd eA2 ?_;symm;refine Jd eB2 ?_;symm;have hwl2:∀s,(wS gs s (z9 gs) ms2).length<=25000:=λs=>by have:=IA hT s ms2 _ hok2;lia
 have etk:tks gs ms2=tks gs ms:=by unfold tks;exact ue6 λk _=>by rw[htk2 k]
 refine(htv gs ms2 (λs=>.lst (wS gs s (z9 gs) ms2)) S8 hg g9 hok2 hwl2 (λs=>.inl rfl)).mono λq S9 z9=>?_;clear 5 z9 G9 hm2 H2 hh2 e1 h9;subst e1;rw[Vf htk2 (CS uc7 hok) (CS uc7 hok2),Vf htk2 (CS uc7 hok) (CS uc7 hok2)];rw[etk] at h9 hm2;have eA9:=G9.get (G8.get (G7.get eA6));have eB9:=G9.get (G8.get (G7.get eB6));symm;refine Vc g9 hl h9 hm2 ?_;walk_at"y1";walk_at"y1";walk_at"y1";refine Bj ?_;exact(VY (e2:=vw (.lst ((AV ns (some 20) (some 60)).map D.int))) (e7:=vw (.tup [.lst ((tks gs ms).map D.lst),.tup [.int ((wS gs true (z9 gs) ms).length:Nat),.int ((wS gs false (z9 gs) ms).length:Nat)]])) (e8:=vw (.tup [.obj A2,.obj B2])) hst hln htb hc hT hok hl hm2 eA9 eB9).mono λo t e=>by subst e;rfl
end LW
namespace L2
open PySem PySem.Spec PySem.W
theorem T8{k:Kd}{P:fk}{w:fq}{K:fc}{mg:Str->Option fg}{base:Heap}{n:Nat}{fa:fh}{fd:ft}{ps:List Str}:okK k P w K mg base n fa fd ps (λ_ _=>none):=by
 cases k<;>exact⟨λvs H Q E h=>(by obtain⟨c,ds,S,_,_,r,S',e,_⟩:=h;cases e),λA' outer s H args us vs Q E _ _ _ _ h=>(by obtain⟨c,ds,S,_,_,r,S',e,_⟩:=h;cases e)⟩
theorem us0{n:Nat}:∀{us:List fg},us.length=n+1->∃a vs,us=a::vs/\vs.length=n
 |_::_,h=>⟨_,_,rfl,Nat.succ.inj h⟩
section
variable{us:List fg}
theorem us1(h:us.length=1):∃a,us=[a]:=by
 clear 5(us0 h)a vs rfl q;exact⟨a,by rw[ua1 q]⟩
theorem us2(h:us.length=2):∃a b,us=[a,b]:=by
 obtain⟨_,vs,rfl,q⟩:=us0 h;obtain⟨_,rfl⟩:=us1 q;exact⟨_,_,rfl⟩
theorem us3(h:us.length=3):∃a b c,us=[a,b,c]:=by
 obtain⟨_,vs,rfl,q⟩:=us0 h;obtain⟨_,_,rfl⟩:=us2 q;exact⟨_,_,_,rfl⟩
theorem us4(h:us.length=4):∃a b c d,us=[a,b,c,d]:=by
 obtain⟨_,vs,rfl,q⟩:=us0 h;obtain⟨_,_,_,rfl⟩:=us3 q;exact⟨_,_,_,_,rfl⟩
theorem us5(h:us.length=5):∃a b c d e,us=[a,b,c,d,e]:=by
 obtain⟨_,vs,rfl,q⟩:=us0 h;obtain⟨_,_,_,_,rfl⟩:=us4 q;exact⟨_,_,_,_,_,rfl⟩
theorem us6(h:us.length=6):∃a b c d e f,us=[a,b,c,d,e,f]:=by
 obtain⟨_,vs,rfl,q⟩:=us0 h;obtain⟨_,_,_,_,_,rfl⟩:=us5 q;exact⟨_,_,_,_,_,_,rfl⟩
theorem us7(h:us.length=7):∃a b c d e f g,us=[a,b,c,d,e,f,g]:=by
 obtain⟨_,vs,rfl,q⟩:=us0 h;obtain⟨_,_,_,_,_,_,rfl⟩:=us6 q;exact⟨_,_,_,_,_,_,_,rfl⟩
end
end L2
namespace K99
open PySem L2 LW
inductive Fx where
 |Cs|AO|Ez|Cr|C4|C1|C3|Ca|By|Cv|Bo|BL|BN|CW|DM|A1|Br|Bw|C5|Bd|Cz|Bm|Ch|Dd|DJ|Db|Dc|Cg|Cw|A3|Bx|BA|BW|Bz|Bv|CB|BI|BJ|CD|BU|Bh|CZ|B9|CG|BH|DA|BV|CF|law_|Az|Ar|Am|Au
noncomputable def top(i:Nat):Stmt:=PySem.Challenge.pw_wireparley_k99_whole_at_once.main.body.getD i (.Pass ⟨0,0,0,0⟩)
noncomputable abbrev nm:Fx->Str
 |.Cs=>"is_number"
 |.AO=>"is_number_within"
 |.Ez=>"fits"
 |.Cr=>"fits_text"
 |.C4=>"is_sign"
 |.C1=>"fits_list"
 |.C3=>"fits_pair"
 |.Ca=>"fits_choice"
 |.By=>"state_behind"
 |.Cv=>"steps_of"
 |.Bo=>"state_next"
 |.BL=>"place_said"
 |.BN=>"place_named"
 |.CW=>"words_of"
 |.DM=>"is_end"
 |.A1=>"fitting_bytes"
 |.Br=>"width_up_to"
 |.Bw=>"number_bytes"
 |.C5=>"leading"
 |.Bd=>"read_value"
 |.Cz=>"byte_at"
 |.Bm=>"byte_up_to"
 |.Ch=>"read_number"
 |.Dd=>"read_text"
 |.DJ=>"sign_at"
 |.Db=>"read_list"
 |.Dc=>"read_pair"
 |.Cg=>"read_choice"
 |.Cw=>"wires_of"
 |.A3=>"message_bytes"
 |.Bx=>"read_message"
 |.BA=>"wires_beside"
 |.BW=>"place_beside"
 |.Bz=>"talks_beside"
 |.Bv=>"_law_cell_at"
 |.CB=>"_law_mixed"
 |.BI=>"_law_shape"
 |.BJ=>"_law_value"
 |.CD=>"_law_state"
 |.BU=>"_law_grammar"
 |.Bh=>"_law_grammars"
 |.CZ=>"_law_said"
 |.B9=>"_law_turned"
 |.CG=>"_law_talks"
 |.BH=>"_law_piece"
 |.DA=>"_law_due"
 |.BV=>"_law_lengths"
 |.CF=>"_law_stuck"
 |.law_=>"law"
 |.Az=>"__init__"
 |.Ar=>"read_wire"
 |.Am=>"next_if_whole"
 |.Au=>"next_of"
abbrev ql:Fx->Str
 |.Az=>"Listener.__init__"
 |.Ar=>"Listener.read_wire"
 |.Am=>"Listener.next_if_whole"
 |.Au=>"Listener.next_of"
 |x=>nm x
noncomputable abbrev me:Fx->Bool
 |.Az=>true
 |.Ar=>true
 |.Am=>true
 |.Au=>true
 |_=>false
noncomputable abbrev ow:Fx->Str
 |.Az=>"Listener"
 |.Ar=>"Listener"
 |.Am=>"Listener"
 |.Au=>"Listener"
 |_=>""
abbrev st:Fx->Stmt
 |.Cs=>top 9
 |.AO=>top 10
 |.Ez=>top 11
 |.Cr=>top 12
 |.C4=>top 13
 |.C1=>top 14
 |.C3=>top 15
 |.Ca=>top 16
 |.By=>top 18
 |.Cv=>top 19
 |.Bo=>top 20
 |.BL=>top 21
 |.BN=>top 22
 |.CW=>top 23
 |.DM=>top 24
 |.A1=>top 27
 |.Br=>top 28
 |.Bw=>top 29
 |.C5=>top 30
 |.Bd=>top 31
 |.Cz=>top 32
 |.Bm=>top 33
 |.Ch=>top 34
 |.Dd=>top 35
 |.DJ=>top 36
 |.Db=>top 37
 |.Dc=>top 38
 |.Cg=>top 39
 |.Cw=>top 41
 |.A3=>top 42
 |.Bx=>top 43
 |.BA=>top 45
 |.BW=>top 46
 |.Bz=>top 47
 |.Bv=>top 50
 |.CB=>top 51
 |.BI=>top 52
 |.BJ=>top 53
 |.CD=>top 54
 |.BU=>top 55
 |.Bh=>top 56
 |.CZ=>top 57
 |.B9=>top 58
 |.CG=>top 59
 |.BH=>top 60
 |.DA=>top 61
 |.BV=>top 62
 |.CF=>top 63
 |.law_=>top 64
 |.Az=>J3 (top 48) 0
 |.Ar=>J3 (top 48) 1
 |.Am=>J3 (top 48) 2
 |.Au=>J3 (top 48) 3
noncomputable abbrev ps:Fx->List Str
 |.Cs=>["thing"]
 |.AO=>["thing", "low", "high"]
 |.Ez=>["s", "thing"]
 |.Cr=>["s", "thing"]
 |.C4=>["number"]
 |.C1=>["s", "thing"]
 |.C3=>["s", "thing"]
 |.Ca=>["s", "thing"]
 |.By=>["g", "talk"]
 |.Cv=>["g", "talk"]
 |.Bo=>["g", "step"]
 |.BL=>["state", "thing"]
 |.BN=>["state", "thing"]
 |.CW=>["state"]
 |.DM=>["state"]
 |.A1=>["s", "value"]
 |.Br=>["most"]
 |.Bw=>["number", "width"]
 |.C5=>["number", "cut"]
 |.Bd=>["s", "wire", "at"]
 |.Cz=>["wire", "at"]
 |.Bm=>["most", "wire", "at"]
 |.Ch=>["s", "wire", "at"]
 |.Dd=>["s", "wire", "at"]
 |.DJ=>["wire", "at"]
 |.Db=>["s", "wire", "at"]
 |.Dc=>["s", "wire", "at"]
 |.Cg=>["s", "wire", "at"]
 |.Cw=>["g", "talk"]
 |.A3=>["state", "place", "value"]
 |.Bx=>["state", "wire", "at"]
 |.BA=>["grammars", "said"]
 |.BW=>["grammars", "states", "thing"]
 |.Bz=>["grammars", "left", "right"]
 |.Bv=>["script", "k"]
 |.CB=>["cell", "k"]
 |.BI=>["cell", "depth"]
 |.BJ=>["shape", "cell"]
 |.CD=>["cell", "k", "many"]
 |.BU=>["cells"]
 |.Bh=>["script"]
 |.CZ=>["grammars", "cells"]
 |.B9=>["said", "cell"]
 |.CG=>["grammars", "said"]
 |.BH=>["grammars", "talk", "k", "message"]
 |.DA=>["grammars", "said"]
 |.BV=>["grammars", "talks"]
 |.CF=>["grammars", "talks", "places", "wires", "said"]
 |.law_=>["script"]
 |.Az=>["self", "grammars", "left", "right"]
 |.Ar=>["self", "side"]
 |.Am=>["self", "side"]
 |.Au=>["self", "side"]
noncomputable abbrev ns:Fx->List Str
 |.Cs=>["thing"]
 |.AO=>["thing", "low", "high"]
 |.Ez=>["s", "thing", "kind"]
 |.Cr=>["s", "thing", "sign"]
 |.C4=>["number"]
 |.C1=>["s", "thing", "part"]
 |.C3=>["s", "thing"]
 |.Ca=>["s", "thing"]
 |.By=>["g", "talk", "steps"]
 |.Cv=>["g", "talk", "state", "steps", "k", "place", "step"]
 |.Bo=>["g", "step"]
 |.BL=>["state", "thing", "place"]
 |.BN=>["state", "thing", "words", "place"]
 |.CW=>["state"]
 |.DM=>["state"]
 |.A1=>["s", "value", "kind", "row", "thing"]
 |.Br=>["most"]
 |.Bw=>["number", "width"]
 |.C5=>["number", "cut"]
 |.Bd=>["s", "wire", "at", "kind"]
 |.Cz=>["wire", "at"]
 |.Bm=>["most", "wire", "at", "byte"]
 |.Ch=>["s", "wire", "at", "most", "width", "number", "k"]
 |.Dd=>["s", "wire", "at", "length", "place", "text", "k"]
 |.DJ=>["wire", "at", "number"]
 |.Db=>["s", "wire", "at", "length", "place", "things", "k", "part"]
 |.Dc=>["s", "wire", "at", "first", "second"]
 |.Cg=>["s", "wire", "at", "k", "part"]
 |.Cw=>["g", "talk", "wires", "steps", "k", "state"]
 |.A3=>["state", "place", "value"]
 |.Bx=>["state", "wire", "at", "word", "read", "e"]
 |.BA=>["grammars", "said", "wires", "states", "number", "place", "k", "state"]
 |.BW=>["grammars", "states", "thing", "k"]
 |.Bz=>["grammars", "left", "right", "listener"]
 |.Bv=>["script", "k"]
 |.CB=>["cell", "k", "number"]
 |.BI=>["cell", "depth", "kind", "left", "low", "one", "other"]
 |.BJ=>["shape", "cell", "kind", "many", "left", "found", "k", "one", "other", "number"]
 |.CD=>["cell", "k", "many", "left", "words", "side", "count", "name", "shape"]
 |.BU=>["cells"]
 |.Bh=>["script", "found", "place", "cell", "count", "k", "many", "cells", "n"]
 |.CZ=>["grammars", "cells", "states", "said", "cell", "k", "state", "name", "shape", "after"]
 |.B9=>["said", "cell", "found", "left", "one", "last", "place", "other"]
 |.CG=>["grammars", "said"]
 |.BH=>["grammars", "talk", "k", "message", "side", "before"]
 |.DA=>["grammars", "said", "talks", "wires", "one", "piece"]
 |.BV=>["grammars", "talks", "left", "right", "k", "talk", "ones", "others"]
 |.CF=>["grammars", "talks", "places", "wires", "said", "ahead", "one", "side", "own", "talk", "rest", "k", "state", "piece"]
 |.law_=>["script", "grammars", "cells", "said", "handed", "wires", "talks", "whole", "other", "cell", "left", "right", "told", "places"]
 |.Az=>["self", "grammars", "left", "right"]
 |.Ar=>["self", "side", "start", "read", "k"]
 |.Am=>["self", "side"]
 |.Au=>["self", "side", "wire", "at", "state"]
def body(Φ:Fx->Fn):Fx->Fn
 |.Cs=>fnOf 1 1 (Gz)
 |.AO=>fnOf 3 3 (DH (Φ .Cs))
 |.Ez=>fnOf 2 3 (M8 (Φ .Ca) (Φ .C3) (Φ .C1) (Φ .Cr) (Φ .AO))
 |.Cr=>fnOf 2 3 (Gy (Φ .C4))
 |.C4=>fnOf 1 1 (Ii)
 |.C1=>fnOf 2 3 (Gv (Φ .Ez))
 |.C3=>fnOf 2 2 (Gx (Φ .Ez))
 |.Ca=>fnOf 2 2 (Fr (Φ .Ez) (Φ .AO))
 |.By=>fnOf 2 3 (EX (Φ .Bo) (Φ .Cv))
 |.Cv=>fnOf 2 7 (Hm (Φ .Bo) (Φ .BL))
 |.Bo=>fnOf 2 2 (F5)
 |.BL=>fnOf 2 3 (F3 (Φ .Ez) (Φ .BN))
 |.BN=>fnOf 2 4 (Fs (Φ .CW))
 |.CW=>fnOf 1 1 (Ho (Φ .DM))
 |.DM=>fnOf 1 1 (Jy)
 |.A1=>fnOf 2 5 (ED (Φ .A1) (Φ .Br) (Φ .Bw))
 |.Br=>fnOf 1 1 (Ft)
 |.Bw=>fnOf 2 2 (EV (Φ .C5))
 |.C5=>fnOf 2 2 (Ij)
 |.Bd=>fnOf 3 4 (Dt (Φ .Cg) (Φ .Dc) (Φ .Db) (Φ .Dd) (Φ .Ch))
 |.Cz=>fnOf 2 2 (F0)
 |.Bm=>fnOf 3 4 (EB (Φ .Cz))
 |.Ch=>fnOf 3 7 (C8 (Φ .C5) (Φ .Cz) (Φ .Br))
 |.Dd=>fnOf 3 7 (DP (Φ .DJ) (Φ .Bm))
 |.DJ=>fnOf 2 3 (F4 (Φ .C4) (Φ .Cz))
 |.Db=>fnOf 3 8 (DN (Φ .Bd) (Φ .Bm))
 |.Dc=>fnOf 3 5 (DO (Φ .Bd))
 |.Cg=>fnOf 3 5 (C7 (Φ .Bd) (Φ .Bm))
 |.Cw=>fnOf 2 6 (Hn (Φ .A3) (Φ .Cv))
 |.A3=>fnOf 3 3 (EE (Φ .A1))
 |.Bx=>fnOf 3 6 (DX (Φ .Bd))
 |.BA=>fnOf 2 8 (DZ (Φ .Bo) (Φ .A3) (Φ .BW))
 |.BW=>fnOf 3 4 (EW (Φ .BL) (Φ .AO))
 |.Bz=>fnOf 3 4 (DY (Φ .Au) (Φ .Ar) (Φ .Az))
 |.Bv=>fnOf 2 2 (Ds)
 |.CB=>fnOf 2 3 (Ee)
 |.BI=>fnOf 2 7 (Cd (Φ .BI))
 |.BJ=>fnOf 2 10 (Ej (Φ .BJ))
 |.CD=>fnOf 3 9 (Eg (Φ .BI) (Φ .CB))
 |.BU=>fnOf 1 1 (DF (Φ .CD))
 |.Bh=>fnOf 1 9 (Dm (Φ .BU) (Φ .Bv))
 |.CZ=>fnOf 2 10 (EC (Φ .BJ))
 |.B9=>fnOf 2 8 (DW)
 |.CG=>fnOf 2 2 (Ei)
 |.BH=>fnOf 4 6 (Ef (Φ .Cw))
 |.DA=>fnOf 2 6 (EU (Φ .BH))
 |.BV=>fnOf 2 8 (DG (Φ .Cw))
 |.CF=>fnOf 5 14 (Eh (Φ .BH) (Φ .By))
 |.law_=>fnOf 1 14 (F1 (Φ .CF) (Φ .BV) (Φ .Bz) (Φ .Bv) (Φ .B9) (Φ .BA) (Φ .CG) (Φ .DA) (Φ .CZ) (Φ .Bh))
 |.Az=>fnOf 4 4 (DV)
 |.Ar=>fnOf 2 5 (C6 (Φ .Am))
 |.Am=>fnOf 2 2 (BM (Φ .Au))
 |.Au=>fnOf 2 5 (CP (Φ .Bx) (Φ .DM))
def run:Nat->Fx->Fn
 |0=>λ_ _ _=>none
 |n+1=>body (run n)
structure Md(K:fc)(mg:Str->Option fg)(A:Fx->fh)(fd:Fx->ft):Prop where
 fn:∀x,Fun K (nm x) (ql x) (st x) (A x) (fd x)
 mgs:∀x,me x=false->mg (nm x)=some (.ref (A x))
 bd:∀x,Binds K (fd x) (ps x) []
 cm:CM K
 JU:∃C,PySem.W.nsIn K mainGlobals "Listener" = some (some (.ref C))/\mg "Listener" = some (.ref C)/\Mk K C (A .Az)/\Meth K C "read_wire" (A .Ar)/\Meth K C "next_if_whole" (A .Am)/\Meth K C "next_of" (A .Au)
 fA:mg "bool" = none
 eP:mg "enumerate" = none
 fE:mg "int" = none
 eQ:mg "isinstance" = none
 fN:mg "len" = none
 eY:mg "list" = none
 fO:mg "min" = none
 fM:mg "ord" = none
 eW:mg "range" = none
 fP:mg "str" = none
 eX:mg "tuple" = none
 eN:∃tk,mg "FIRST_SIGN" = some (.int 32 tk)
 eO:∃tk,mg "LAST_SIGN" = some (.int 126 tk)
 eM:∃tk,mg "PERCENT_SIGN" = some (.int 37 tk)
 eT:∃tk,mg "SIGNS" = some (.str " !\"#$ &'()*+,-./0123456789:;<=>?@ABCDEFGHIJKLMNOPQRSTUVWXYZ[\\]^_`abcdefghijklmnopqrstuvwxyz{|}~" tk)
 xm:∃(P:fh) (ca:Str->fh),XM K mg P ca/\True/\∀n∈(["Short"]:List Str),XN0 K (ca n)
noncomputable abbrev kd:Fx->Kd
 |.Cs=>.pl
 |.AO=>.pl
 |.Ez=>.pl
 |.Cr=>.pl
 |.C4=>.pl
 |.C1=>.pl
 |.C3=>.pl
 |.Ca=>.pl
 |.By=>.pl
 |.Cv=>.pl
 |.Bo=>.pl
 |.BL=>.pl
 |.BN=>.pl
 |.CW=>.pl
 |.DM=>.pl
 |.A1=>.fr
 |.Br=>.pl
 |.Bw=>.fr
 |.C5=>.pl
 |.Bd=>.ex
 |.Cz=>.ex
 |.Bm=>.ex
 |.Ch=>.ex
 |.Dd=>.ex
 |.DJ=>.ex
 |.Db=>.ex
 |.Dc=>.ex
 |.Cg=>.ex
 |.Cw=>.pl
 |.A3=>.pl
 |.Bx=>.pl
 |.BA=>.pl
 |.BW=>.pl
 |.Bz=>.pl
 |.Bv=>.pl
 |.CB=>.pl
 |.BI=>.pl
 |.BJ=>.pl
 |.CD=>.pl
 |.BU=>.pl
 |.Bh=>.pl
 |.CZ=>.pl
 |.B9=>.pl
 |.CG=>.pl
 |.BH=>.pl
 |.DA=>.pl
 |.BV=>.pl
 |.CF=>.pl
 |.law_=>.pl
 |.Az=>.pl
 |.Ar=>.pl
 |.Am=>.pl
 |.Au=>.pl
section
variable{P:fk}{w:fq}{K:fc}{mg:Str->Option fg}{base:Heap}{A:Fx->fh}{fd:Fx->ft}{n:Nat}
theorem Nm{a:Kd}(k:Kd){P:fk}{w:fq}{K:fc}{mg:Str->Option fg}{base:Heap}{n:Nat}{fa:fh}{fd:ft}{ps:List Str}{f:Fn}(h:okK a P w K mg base n fa fd ps f)(e:a=k):okK k P w K mg base n fa fd ps f:=e ▸ h
section
variable{X:Cx}{A:Fx->fh}{fd:Fx->ft}{n k:Nat}{x:Fx}{s:Str}{e:Expr}{es:List Expr}{f:M (List D)}{p pos:Pos}{E:L2.St->XK}
theorem cP(M:Md X.K X.mg A fd)(ih:∀x,okK (kd x) X.prog X.w X.K X.mg X.base k (A x) (fd x) (ps x) (run n x))(hr:Room k X.A)(ha:PA X (e::es) (RA X.K f))(hk:kd x=.pl)(hm:me x=false)(hs:nm x=s)(hg:Gl X s)(h1:AY e=false)(h2:A4 es=true)(hd:(s==("__debug__":Str))=false):PE X (.Call (.Name s p) (e::es) [] pos) (RE X.K (Ah (run n x) f)):=by subst hs;exact Tu (Nm .pl (ih x) hk) hr hg (M.mgs x hm) (Fun.kp (M.fn x)) (M.bd x) ha hd h1 h2
theorem fF(M:Md X.K X.mg A fd)(ih:∀x,okK (kd x) X.prog X.w X.K X.mg X.base k (A x) (fd x) (ps x) (run n x))(hr:Room k X.A)(ha:PA X (e::es) (RA X.K f))(hk:kd x=.fr)(hm:me x=false)(hs:nm x=s)(hg:Gl X s)(h1:AY e=false)(h2:A4 es=true)(hd:(s==("__debug__":Str))=false):PE X (.Call (.Name s p) (e::es) [] pos) (RF X.K (D3 (run n x) f)):=by subst hs;exact Ty (Nm .fr (ih x) hk) hr hg (M.mgs x hm) (Fun.kp (M.fn x)) (M.bd x) ha hd h1 h2
theorem xex(M:Md X.K X.mg A fd)(ih:∀x,okK (kd x) X.prog X.w X.K X.mg X.base k (A x) (fd x) (ps x) (run n x))(hr:Room k X.A)(hp:FM (CX1 true X.prog X.w) X E)(ha:PA X (e::es) (RA X.K f))(hk:kd x=.ex)(hm:me x=false)(hs:nm x=s)(hg:Gl X s)(h1:AY e=false)(h2:A4 es=true)(hd:(s==("__debug__":Str))=false):PE X (.Call (.Name s p) (e::es) [] pos) (RX X.K E (Ah (run n x) f)):=by subst hs;exact VQ (Nm .ex (ih x) hk) hr hg (M.mgs x hm) (Fun.kp (M.fn x)) (M.bd x) hp ha hd h1 h2
end
seal PE PA PSs PS PG PT PGs PW PI PO PIf PPf PH
theorem sc(x:Fx):FnScope (ns x) (ps x) (AF (st x)):=by
 cases x<;>exact⟨rfl,rfl,rfl,by decide +kernel,rfl,by decide +kernel,by decide +kernel⟩
local macro_rules | `(tactic| clear 30 $t)=>`(tactic| with_reducible refine(?_ : $t))
seal JN
theorem step(M:Md K mg A fd)(ih0:∀x,okK (kd x) P w K mg base (2*n+2) (A x) (fd x) (ps x) (run n x))(y:Fx):okK (kd y) P w K mg base (2*n+2+1+1) (A y) (fd y) (ps y) (run (n+1) y):=by
 have ih:=λx=>YM (ih0 x);obtain⟨_,eN⟩:=M.eN;obtain⟨_,eO⟩:=M.eO;obtain⟨_,eM⟩:=M.eM;clear 5 M.xm P' ca x xt x0;obtain⟨_,eT⟩:=M.eT;clear 5 M.JU Listener_ eL g7 fZ g6 fT gC;have g8:MAt K "Listener" "next_of" Listener_ (A .Au):=⟨by decide,eL,gC,by decide⟩;have fW:MAt K "Listener" "read_wire" Listener_ (A .Ar):=⟨by decide,eL,g6,by decide⟩;have fQ:MAt K "Listener" "next_if_whole" Listener_ (A .Am):=⟨by decide,eL,fT,by decide⟩;have sy:=sc y;have nd:=sy.nd;have mf:=M.fn y
 cases y<;>first|(clear 30 (okK .pl ..);refine Zm (g:=fnOf _ _ _) rfl (Yf rfl rfl mf sy (λcdv A' outer s H E hr=>?_)))|(clear 30 (okK .ex ..);refine WW (g:=fnOf _ _ _) rfl (VD rfl rfl mf sy (λcdv A' outer s H E hr hp hq ho=>?_)))|(clear 30 (okK .fr ..);refine WV (g:=fnOf _ _ _) rfl (VC rfl rfl mf sy (λcdv A' outer s H E hr=>?_)))
 all_goals repeat' first
  | (clear 30 (PE ..);first
    | (clear 30 (PE _ (.Name ..) ..);first
      |(clear 30 (PE _ _ (RE _ (Aa _)));exact(Ya _))
      |(clear 30 (PE _ (.Name _ _) (RE _ (fC (.ty _))));exact(J7 rfl M.fP XQ))
      |(clear 30 (PE _ (.Name _ _) (RE _ (fC (.ty _))));exact(J7 rfl M.eX Tg))
      |(clear 30 (PE _ (.Name _ _) (RE _ (fC (.int _))));exact(KY rfl eN))
      |(clear 30 (PE _ (.Name _ _) (RE _ (fC (.ty _))));exact(J7 rfl M.fE QP))
      |(clear 30 (PE _ (.Name _ _) (RE _ (fC (.ty _))));exact(J7 rfl M.fA Vk))
      |(clear 30 (PE _ (.Name _ _) (RE _ (fC (.int _))));exact(KY rfl eO))
      |(clear 30 (PE _ (.Name _ _) (RE _ (fC (.int _))));exact(KY rfl eM))
      |(clear 30 (PE _ (.Name _ _) (RE _ (fC (.ty _))));exact(J7 rfl M.eY Oi))
      |(clear 30 (PE _ _ (RE _ (fC (.str _))));exact(Tw rfl eT)))
    | (clear 30 (PE _ (.Constant ..) ..);first
      |(clear 30 (PE _ _ (RE _ (fC (.int _))));exact X4)
      |(clear 30 (PE _ _ (RE _ (fC (.str _))));exact X9)
      |(clear 30 (PE _ _ (RE _ (fC .non)));exact X5)
      |(clear 30 (PE _ _ (RE _ (fC (.bl _))));exact Z2))
    | (clear 30 (PE _ (.Subscript ..) ..);first
      |(clear 30 (PE _ _ (RE _ (Ac _ _ ixD)));refine UT Yu Zq ?_ ?_ (λ_ _=>rfl))
      |(clear 30 (PE _ _ (RE _ (Ac _ _ BY)));refine UT Ys Sw ?_ ?_ (λ_ _=>rfl))
      |(clear 30 (PE _ _ (RE _ (fSl _ _ _ Ci)));refine MS sl3 Pa ?_ ?_ ?_)
      |(clear 30 (PE _ _ (RE _ (fSl _ _ _ Hy)));refine MS sl3 Uw ?_ ?_ ?_)
      |(clear 30 (PE _ (.Subscript (.Name _ _) _ _) (RE _ (D4 _ _)));refine MR 3 ?_ (λ_ _=>rfl))
      |(clear 30 (PE _ (.Subscript (.Name _ _) _ _) (RE _ (D4 _ _)));refine MR 2 ?_ (λ_ _=>rfl)))
    | (clear 30 (PE _ (.Call ..) ..);first
      |(clear 30 (PE _ _ (RE _ (Ah (run _ _) _)));refine @cP _ _ _ _ _ _ _ _ _ _ _ _ M ih hr ?_ (by rfl) (by rfl) (by rfl) (by rfl) (by rfl) (by rfl) (by decide))
      |(clear 30 (PE _ _ (RE _ (fB _ AC)));refine Mf Ti W2 rfl M.fN XL ?_)
      |(clear 30 (PE _ _ (RX _ _ (Ah (run _ _) _)));refine @xex _ _ _ _ _ _ _ _ _ _ _ _ _ M ih hr hp ?_ (by rfl) (by rfl) (by rfl) (by rfl) (by rfl) (by rfl) (by decide))
      |(clear 30 (PE _ _ (RE _ (fB _ CO)));refine Mf Th W1 rfl M.eQ LZ ?_)
      |(clear 30 (PE _ _ (RF _ (fBF _ DU)));refine Z4 MM W3 rfl M.eY Oi ?_)
      |(clear 30 (PE _ _ (RF _ (D3 (run _ _) _)));refine @fF _ _ _ _ _ _ _ _ _ _ _ _ M ih hr ?_ (by rfl) (by rfl) (by rfl) (by rfl) (by rfl) (by rfl) (by decide))
      |(clear 30 (PE _ _ (RE _ (fB _ Gu)));refine Z1 QQ W0 rfl M.fE QP ?_)
      |(clear 30 (PE _ _ (RE _ (Ea _ (run _ .Au) _ _)));refine KZ M.cm g8 (ih .Au) hr (M.bd .Au) ?_ ?_)
      |(clear 30 (PE _ _ (RE _ (objM BR _ _)));refine Q0 ?_ ?_)
      |(clear 30 (PE _ _ (RE _ (fB _ JD)));refine Mf Tj W9 rfl M.fM XO ?_)
      |(clear 30 (PE _ _ (RE _ (objM Fq _ _)));refine Q2 ?_ ?_)
      |(clear 30 (PE _ _ (RE _ (Ea _ (run _ .Ar) _ _)));refine KZ M.cm fW (ih .Ar) hr (M.bd .Ar) ?_ ?_)
      |(clear 30 (PE _ _ (RE _ (Ea _ (run _ .Am) _ _)));refine KZ M.cm fQ (ih .Am) hr (M.bd .Am) ?_ ?_)
      |(clear 30 (PE _ _ (RE _ (fUn _ JS)));refine Q1 ?_)
      |(clear 30 (PE _ _ (RE _ (Me _ _ _)));refine Vt (by decide) eL fZ (ih0 .Az) hr rfl g7 (M.bd .Az) ?_)
      |(clear 30 (PE _ _ (RE _ (joinM _ _)));refine Vs ?_ ?_)
      |(clear 30 (PE _ _ (RE _ (fB _ K8)));refine Mf (QR rfl) W5 rfl M.fO XN ?_)
      |(clear 30 (PE _ _ (RE _ (objM K4 _ _)));refine Q3 ?_ ?_))
    | (clear 30 (PE _ (.BinOp ..) ..);first
      |(clear 30 (PE _ _ (RE _ (Ac _ _ AD)));refine Hg OO NG ?_ ?_)
      |(clear 30 (PE _ _ (RE _ (Ac _ _ AX)));refine Hg YR W6 ?_ ?_)
      |(clear 30 (PE _ _ (RE _ (Ac _ _ AQ)));refine Hg Wp Ut ?_ ?_)
      |(clear 30 (PE _ _ (RE _ (Ac _ _ CI)));refine Hg YV Xc ?_ ?_)
      |(clear 30 (PE _ _ (RE _ (Ac _ _ DI)));refine Hg Wq Uv ?_ ?_)
      |(clear 30 (PE _ (.BinOp _ .Add _ _) (RF _ _));refine UU Nn Us ?_ ?_)
      |(clear 30 (PE _ _ (RX _ _ (IN _ _ AD)));refine ad OO NG ?_ ?_)
      |(clear 30 (PE _ _ (RE _ (Ac _ _ NJ)));refine Hg YU Xb ?_ ?_)
      |(clear 30 (PE _ _ (RE _ (Ac _ _ Nr)));refine Hg YT Xa ?_ ?_)
      |(clear 30 (PE _ (.BinOp _ .Add _ _) (RF _ _));refine UU Nn Sv ?_ ?_))
    | (clear 30 (PE _ (.Tuple ..) ..);first
      |(clear 30 (PE _ (.Tuple _ _ _) (RE _ (AI _)));refine @Q4 _ _ _ _ _ ?_)
      |(clear 30 (PE _ (.Tuple _ _ _) (RE _ (AI _)));refine Q4 ?_))
    | (clear 30 (PE _ (.List ..) ..);first
      |refine @Yb _ _ _ _ ?_)
    | (clear 30 (PE _ (.Attribute ..) ..);first
      |refine X3 M.cm (by decide) ?_ rfl)
    | (clear 30 (PE _ (.Compare ..) ..);first
      |(clear 30 (PE _ (.Compare _ [.Eq] [_] _) (RE _ (Ac _ _ (eqS _))));refine J6 (R5 hr.units) (IY (g:=id)) ?_ ?_ (Di _))
      |(clear 30 (PE _ _ (RE _ (Fg _ _ _ _ _)));refine Tv R9 R9 O9 O9 ?_ ?_ ?_)
      |(clear 30 (PE _ _ (RE _ (Ac _ _ isC)));refine J6 R7 Sz ?_ ?_ (Di _))
      |(clear 30 (PE _ (.Compare _ [.NotEq] [_] _) (RE _ (Ac _ _ (eqS _))));refine J6 (No hr.units) (IY (g:=λb=>!b)) ?_ ?_ (Di _))
      |(clear 30 (PE _ _ (RE _ (Ac _ _ gtA)));refine J6 R6 O8 ?_ ?_ (Di _)))
    | (clear 30 (PE _ (.BoolOp ..) ..);first
      |(clear 30 (PE _ _ (RE _ (FD _ _)));refine X0 ?_ ?_)
      |(clear 30 (PE _ _ (RE _ _));refine X8 ?_))
    | (clear 30 (PE _ (.Dict ..) ..);first
      |(clear 30 (PE _ _ (RE _ XX));exact fe_dic)
      |refine Vr ?_)
    | (clear 30 (PE _ (.ListComp ..) ..);first
      |(clear 30 (PE _ (.ListComp _ [⟨(.Name ("g":Str) _),_,_,0⟩] _ _) (RF _ (AS _ [] _ _ _ _)));refine FN (Dh ["g"] [] rfl rfl rfl rfl rfl) rfl ?_ (λ_ _ _ _ _=>?_) (λ_ _ _ _ _=>?_) (λ_ _ _ _ _=>?_))
      |(clear 30 (PE _ (.ListComp _ [⟨(.Name ("message":Str) _),_,_,0⟩] _ _) (RF _ (Ey _ _ _ _ _ _)));refine MU (Dh ["message"] [] rfl rfl rfl rfl rfl) rfl ?_ (λ_ _ _ _ _=>?_) (λ_ _ _ _ _=>?_) (λ_ _ _ _ _=>?_))
      |(clear 30 (PE _ (.ListComp _ [⟨(.Name ("sign":Str) _),_,_,0⟩] _ _) (RF _ (AS _ [] _ _ _ _)));refine FN (Dh ["sign"] [] rfl rfl rfl rfl rfl) rfl ?_ (λ_ _ _ _ _=>?_) (λ_ _ _ _ _=>?_) (λ_ _ _ _ _=>?_))
      |(clear 30 (PE _ _ (RF _ (AS _ [0,1] _ _ _ _)));refine FN (Dh ["k"] [(0, "number"),(1, "width")] rfl rfl rfl rfl rfl) rfl ?_ (λ_ _ _ _ _=>?_) (λ_ _ _ _ _=>?_) (λ_ _ _ _ _=>?_))
      |(clear 30 (PE _ _ (RF _ (AS _ [4] _ _ _ _)));refine FN (Dh ["k"] [(4, "left")] rfl rfl rfl rfl rfl) rfl ?_ (λ_ _ _ _ _=>?_) (λ_ _ _ _ _=>?_) (λ_ _ _ _ _=>?_))
      |(clear 30 (PE _ (.ListComp _ [⟨_,_,_,0⟩] _ _) (RF _ (AS _ _ _ _ _ _)));refine MT (Dh ["k", "cell"] [(0, "cells")] rfl rfl rfl rfl rfl) rfl ?_ (λ_ _ _ _ _=>?_) (λ_ _ _ _ _=>?_) (λ_ _ _ _ _=>?_))
      |(clear 30 (PE _ _ (RF _ (AS _ [1] _ _ _ _)));refine FN (Tk "k" ["k"] [(1, "said")] rfl (λ_ _=>rfl) rfl rfl rfl rfl rfl) rfl ?_ (λ_ _ _ _ _=>?_) (λ_ _ _ _ _=>?_) (λ_ _ _ _ _=>?_))
      |(clear 30 (PE _ _ (RF _ (AS _ [0] _ _ _ _)));refine FN (Dh ["one"] [(0, "k")] rfl rfl rfl rfl rfl) rfl ?_ (λ_ _ _ _ _=>?_) (λ_ _ _ _ _=>?_) (λ_ _ _ _ _=>?_))
      |(clear 30 (PE _ (.ListComp _ [⟨(.Name ("message":Str) _),_,_,0⟩] _ _) (RF _ (Ey _ _ _ _ _ _)));refine MU (Dh ["message"] [(7, "side")] rfl rfl rfl rfl rfl) rfl ?_ (λ_ _ _ _ _=>?_) (λ_ _ _ _ _=>?_) (λ_ _ _ _ _=>?_))
      |(clear 30 (PE _ (.ListComp _ [⟨_,_,_,0⟩] _ _) (RF _ (AS _ _ _ _ _ _)));refine MT (Dh ["k", "talk"] [(12, "told")] rfl rfl rfl rfl rfl) rfl ?_ (λ_ _ _ _ _=>?_) (λ_ _ _ _ _=>?_) (λ_ _ _ _ _=>?_)))
    | (clear 30 (PE _ (.UnaryOp ..) ..);first
      |(clear 30 (PE _ _ (RE _ (IQ _)));refine X6 ?_)
      |(clear 30 (PE _ _ (RE _ (fUn _ Nd)));refine Z3 ZC W8 ?_))
    | (clear 30 (PE _ (.IfExp ..) ..);first
      |refine Tx ?_ ?_ ?_)
    |(clear 30 (PE _ _ (RE _ (Ax _)));refine Vu ?_)
    |(clear 30 (PE _ _ (RE _ (CA _)));refine X7 ?_))
  | (clear 30 (PA ..);first
    |refine @Tt _ _ _ _ _ ?_ ?_ rfl
    |exact XZ)
  | (clear 30 (PSs ..);first
    |refine @TK _ _ _ _ _ _ ?_ ?_
    |refine @K1 _ _ _ _ ?_
    |exact VO
    |exact(K1 Ox)
    |refine TM ?_
    |exact(K1 Oy))
  | (clear 30 (PS ..);first
    | (clear 30 (PS _ (.Assign ..) ..);first
      |(clear 30 (PS _ _ (RSg _ _ (An _ (CA (AS _ [] _ _ _ _)))));refine VJ (Dh ["g"] [] rfl rfl rfl rfl rfl) rfl nd rfl rfl ?_ (λ_ _ _ _ _=>?_) (λ_ _ _ _ _=>?_) (λ_ _ _ _ _=>?_))
      |(clear 30 (PS _ (.Assign [.Name _ _] _ _) (RSg _ _ (An _ _)));refine Rg nd rfl (.inl rfl) ?_)
      |(clear 30 (PS _ _ (RSg _ _ (Cy _ _)));refine Yg ?_ ?_)
      |(clear 30 (PS _ _ (RSg _ (μX _ _) (D2 _ _)));refine Mj (OC nd rfl (.inl rfl) ?_))
      |(clear 30 (PS _ _ (RSg _ _ (C9 _ _)));refine Yi nd rfl (.inl rfl) ?_)
      |(clear 30 (PS _ _ (RSg _ _ (Fl _ _ _)));refine Yh M.cm (by decide) ?_ ?_)
      |(clear 30 (PS _ (.Assign [.Name _ _] _ _) (RSg _ _ (An _ _)));refine Rg nd rfl (.inr rfl) ?_)
      |(clear 30 (PS _ _ (RSX _ _ (D2 _ _)));refine OC nd rfl (.inl rfl) ?_)
      |(clear 30 (PS _ _ (RSg _ _ (C9 _ (AS _ [] _ _ _ _))));refine VL (Dh ["g"] [] rfl rfl rfl rfl rfl) rfl nd rfl rfl ?_ (λ_ _ _ _ _=>?_) (λ_ _ _ _ _=>?_) (λ_ _ _ _ _=>?_))
      |(clear 30 (PS _ _ (RSg _ _ (An _ (Ax (AS _ [] _ _ _ _)))));refine VM (Dh ["g"] [] rfl rfl rfl rfl rfl) rfl nd rfl rfl ?_ (λ_ _ _ _ _=>?_) (λ_ _ _ _ _=>?_) (λ_ _ _ _ _=>?_)))
    | (clear 30 (PS _ (.Return ..) ..);first
      |(clear 30 (PS _ _ (RSg _ (μR _) (Al _)));refine Re ?_)
      |(clear 30 (PS _ _ (RSg _ (μX _ _) (Al (nxD _))));refine OA ?_)
      |(clear 30 (PS _ _ (RSg _ (μF _) (Hu _)));refine Oz ?_)
      |(clear 30 (PS _ _ (RSg _ (μX _ _) (Al _)));refine Mj (OB ?_))
      |(clear 30 (PS _ _ (RSg _ (μF _) (GR _)));exact(Rf _)))
    | (clear 30 (PS _ (.If ..) ..);first
      |refine Z9 ?_ ?_ ?_)
    | (clear 30 (PS _ (.For ..) ..);first
      |(clear 30 (PS _ (.For _ _ _ [] _) (RSg _ _ (Bq (IP _) _ _)));refine fs_for2 gG rfl ?_ ?_ ?_)
      |(clear 30 (PS _ (.For _ _ _ [] _) (RSg _ _ (Bq _ _ _)));refine Rb gG rfl ?_ ?_ ?_)
      |(clear 30 (PS _ (.For _ _ _ [] _) (RSg _ _ (Bq _ _ _)));refine Rb ho rfl ?_ ?_ ?_)
      |(clear 30 (PS _ (.For _ _ _ [] _) (RSg _ _ (E9 (HY _) _ _)));refine TH gG rfl ?_ ?_ ?_)
      |(clear 30 (PS _ (.For _ _ _ [] _) (RSg _ _ (E9 _ _ _)));refine VI gG rfl ?_ ?_ ?_))
    | (clear 30 (PS _ (.Expr ..) ..);first
      |(clear 30 (PS _ _ (RSg _ _ (Dq _)));refine Ov ?_)
      |(clear 30 (PS _ _ (RSg _ _ (ownM _ BR _)));refine PV _ ?_)
      |(clear 30 (PS _ _ (RSg _ _ (ownM _ Fq _)));refine PX _ ?_))
    |exact Oy
    |exact Ox
    | (clear 30 (PS _ (.While ..) ..);first
      |refine TJ gG ?_ ?_)
    | (clear 30 (PS _ (.Raise ..) ..);first
      |(clear 30 (PS _ _ (RSg _ (μX _ _) (Iv ("Short":Str) _)));refine Mj (Rc (n:="Short") x (by decide) rfl (x0 "Short" (by decide)) rfl hq rfl ?_)))
    | (clear 30 (PS _ (.Try ..) ..);first
      |(clear 30 (PS _ _ (RSg _ (μR _) (Ge _ _)));refine Yj (qx:=true) x YI rfl rfl (λpn E hp=>?_) ?_)
      |(clear 30 (PS _ _ (RSg _ _ _));refine VN ?_))
    |refine Re ?_
    |refine Oz ?_
    |refine OA ?_
    |refine Mj (OB ?_)
    |refine Ov ?_)
  | (clear 30 (PG ..);first
    | (clear 30 (PG _ (.Name ..) ..);first
      |(clear 30 (PG _ (.Name _ _) (RG _ (Ao _)));exact(Co nd rfl (.inl rfl)))
      |(clear 30 (PG _ (.Name _ _) (RG _ (Ao _)));exact(Co (by show List.Nodup [("g":Str)] ;decide +kernel) rfl (.inl rfl)))
      |(clear 30 (PG _ (.Name _ _) (RG _ (Ao _)));exact(Co nd rfl (.inr rfl)))
      |(clear 30 (PG _ (.Name _ _) (RG _ (Ao _)));exact(Co (by show List.Nodup [("k":Str),("cell":Str),("cells":Str)] ;decide +kernel) rfl (.inl rfl)))
      |(clear 30 (PG _ (.Name _ _) (RG _ (Ao _)));exact(Co (by show List.Nodup [("message":Str)] ;decide +kernel) rfl (.inl rfl)))
      |(clear 30 (PG _ (.Name _ _) (RG _ (Ao _)));exact(Co (by show List.Nodup [("k":Str),("talk":Str),("told":Str)] ;decide +kernel) rfl (.inl rfl)))
      |(clear 30 (PG _ (.Name _ _) (RG _ (Ao _)));exact(Co (by show List.Nodup [("sign":Str)] ;decide +kernel) rfl (.inl rfl)))
      |(clear 30 (PG _ (.Name _ _) (RG _ (Ao _)));exact(Co (by show List.Nodup [("k":Str),("number":Str),("width":Str)] ;decide +kernel) rfl (.inl rfl)))
      |(clear 30 (PG _ (.Name _ _) (RG _ (Ao _)));exact(Co (by show List.Nodup [("k":Str),("left":Str)] ;decide +kernel) rfl (.inl rfl)))
      |(clear 30 (PG _ (.Name _ _) (RG _ (Ao _)));exact(Co (by show List.Nodup [("k":Str),("said":Str)] ;decide +kernel) rfl (.inr rfl)))
      |(clear 30 (PG _ (.Name _ _) (RG _ (Ao _)));exact(Co (by show List.Nodup [("one":Str),("k":Str)] ;decide +kernel) rfl (.inl rfl)))
      |(clear 30 (PG _ (.Name _ _) (RG _ (Ao _)));exact(Co (by show List.Nodup [("message":Str),("side":Str)] ;decide +kernel) rfl (.inl rfl))))
    | (clear 30 (PG _ (.Tuple ..) ..);first
      |refine Z5 rfl ?_)
    | (clear 30 (PG _ (.Subscript ..) ..);first
      |(clear 30 (PG _ _ (RG _ (stD _ _)));refine Yc ?_ ?_)
      |(clear 30 (PG _ (.Subscript (.Name _ _) _ _) (RG _ (Gm _ _)));refine LH 2 ?_)
      |(clear 30 (PG _ (.Subscript (.Name _ _) _ _) (RG _ (Gm _ _)));refine LH 3 ?_)
      |(clear 30 (PG _ _ (RG _ (Mm _ _)));refine Q6 ?_ ?_)))
  | (clear 30 (PT ..);first
    | (clear 30 (PT _ (.Compare ..) ..);first
      |(clear 30 (PT _ (.Compare _ [.Eq] [_] _) (RT _ (Aj (Ac _ _ (eqS _)))));refine Fh (R5 hr.units) (IY (g:=id)) ?_ ?_ (Di _))
      |(clear 30 (PT _ (.Compare _ [.NotEq] [_] _) (RT _ (Aj (Ac _ _ (eqS _)))));refine Fh (No hr.units) (IY (g:=λb=>!b)) ?_ ?_ (Di _))
      |(clear 30 (PT _ _ (RT _ (Aj (Ac _ _ gtA))));refine Fh R6 O8 ?_ ?_ (Di _))
      |(clear 30 (PT _ _ (RT _ (Aj (Ac _ _ geA))));refine Fh YO WZ ?_ ?_ (Di _))
      |(clear 30 (PT _ _ (RT _ (Aj (Ac _ _ (eqO _)))));refine Fh (No hr.units) (WY (g:=λb=>!b)) ?_ ?_ (Di _))
      |(clear 30 (PT _ _ (RT _ (Aj (Ac _ _ isC))));refine Fh R7 Sz ?_ ?_ (Di _))
      |(clear 30 (PT _ _ (RT _ (Aj (Ac _ _ ltA))));refine Fh YQ W4 ?_ ?_ (Di _))
      |(clear 30 (PT _ _ (RT _ (Aj (Ac _ _ GK))));refine Fh R8 SA ?_ ?_ (Di _)))
    | (clear 30 (PT _ (.BoolOp ..) ..);first
      |refine aa ?_)
    | (clear 30 (PT _ (.UnaryOp ..) ..);first
      |refine Yk ?_)
    |(clear 30 (PT _ _ (RT _ (Aj _)));refine Yl ?_))
  | (clear 30 (PGs ..);first
    |refine Tz ?_ ?_
    |exact Vv)
  | (clear 30 (PW ..);first
    |(clear 30 (PW _ (.BoolOp .Or (_::_::_) _) (RT _ (fOr _ _)));refine ac ?_ ?_)
    |(clear 30 (PW _ (.BoolOp .Or [_] _) (RT _ _));refine Yn ?_)
    |(clear 30 (PW _ (.BoolOp .And (_::_::_) _) (RT _ (Jr _ _)));refine Ym ?_ ?_)
    |(clear 30 (PW _ (.BoolOp .And [_] _) (RT _ _));refine VP ?_))
  | (clear 30 (PI ..);first
    | (clear 30 (PI _ _ (.Call ..) ..);first
      |(clear 30 (PI _ _ _ (RI _ (BZ _)));refine PQ rfl M.eW ?_)
      |(clear 30 (PI _ _ _ (RI _ (Gi _)));refine PR rfl M.eW ?_))
    | (clear 30 (PI _ (.Tuple ..) ..);first
      |(clear 30 (PI _ _ _ (RI2 _ (IP _)));refine Vx rfl M.eP ?_)
      |(clear 30 (PI _ _ _ (Pv _ (HY _)));refine TB rfl M.eP ?_))
    |(clear 30 (PI _ _ _ (RI _ (Ck _)));refine Ye ?_)
    |(clear 30 (PI _ _ _ (RIG _ (Js _)));refine Vw ?_))
  | (clear 30 (PO ..);first
    |refine VG ?_
    |exact VF)
  | (clear 30 (PIf ..);first
    |exact Vy
    |(clear 30 (PIf _ [_] (RT _ _));refine Vz ?_))
  | (clear 30 (PPf ..);first
    |refine TF ?_ ?_
    |exact VH)
  | (clear 30 (PH ..);first
    |(clear 30 (PH _ _ (.ExceptHandler (some (.Name _ _)) none (_::_) _::_) (RH _ _ _ (hNo _ _ _)));refine Z7 x rfl (x.ms "Short" (by decide)) (x.cl "Short" (by decide)) (λ_ hn=>x.subE hn (by decide)) (λy=>?_) ?_)
    |(clear 30 (PH _ _ (.ExceptHandler (some (.Name _ _)) (some _) (_::_) _::_) (RH _ _ _ (hAs _ _ _ _)));refine Z6 x rfl (x.ms "Broken" (by decide)) (x.cl "Broken" (by decide)) (λ_ hn=>x.subE hn (by decide)) nd rfl rfl (λy=>?_) ?_)
    |exact Yd)
theorem all_ok(M:Md K mg A fd):∀(n:Nat) (x:Fx),okK (kd x) P w K mg base (2*n+2) (A x) (fd x) (ps x) (run n x)
 |0,x=>T8
 |n+1,x=>by
   have ih:=all_ok M n;exact step M ih x
end
abbrev fno(x:Fx)(kV dc pm:fg)(an:Option fh)(cd ct:fg):ft:=PySem.W.fnOf (nm x) (ql x) (GI (st x)) (CN (st x)) (AF (st x)) .none kV dc pm an cd ct
structure At(K:fc)(x:Fx)(f:fh)(fd:ft):Prop where
 a:me x=false->PySem.W.nsIn K mainGlobals (nm x)=some (some (.ref f))
 m:me x=true->∃C,PySem.W.nsIn K mainGlobals (ow x)=some (some (.ref C))/\PySem.W.findIn K (.ref C) (nm x)=some (some (.ref f))/\PySem.W.isFn K (.ref f)=true
 fn:Fun K (nm x) (ql x) (st x) f fd
 bd:Binds K fd (ps x) []
 eq:∃kV dc pm an cd ct,fd=fno x kV dc pm an cd ct
theorem at_mk{K:fc}{x:Fx}{f:fh}{od an:Option fh}{sl:Array (Option fg)}{oc kV dc pm cd ct:fg}(e:me x=false)(a:PySem.W.nsIn K mainGlobals (nm x)=some (some (.ref f)))(l:K.lookup f=some ⟨oc,od,.func (fno x kV dc pm an cd ct),sl⟩)(c:codeIn K cd (ql x)=true)(k:PySem.W.keepIn K (.ref f)=true):∃p:fh×ft,At K x p.1 p.2:=by
 refine⟨(f,fno x kV dc pm an cd ct),λ_=>a,λz=>(by rw[e] at z;cases z),J9 (st:=st x) l c k,(J9 (st:=st x) l c k).binds (ps:=ps x) λ_ _ _ _ _ _ us hl=>?_,_,_,_,_,_,_,rfl⟩
 cases x<;>first|(obtain rfl:=ua1 hl;rfl)|(obtain⟨_,rfl⟩:=us1 hl;rfl)|(obtain⟨_,_,rfl⟩:=us2 hl;rfl)|(obtain⟨_,_,_,rfl⟩:=us3 hl;rfl)|(obtain⟨_,_,_,_,rfl⟩:=us4 hl;rfl)|(obtain⟨_,_,_,_,_,rfl⟩:=us5 hl;rfl)|(obtain⟨_,_,_,_,_,_,rfl⟩:=us6 hl;rfl)|(obtain⟨_,_,_,_,_,_,_,rfl⟩:=us7 hl;rfl)
theorem XI{K:fc}{x:Fx}{f C:fh}{od an:Option fh}{sl:Array (Option fg)}{oc kV dc pm cd ct:fg}(e:me x=true)(hc:PySem.W.nsIn K mainGlobals (ow x)=some (some (.ref C)))(a:PySem.W.findIn K (.ref C) (nm x)=some (some (.ref f)))(l:K.lookup f=some ⟨oc,od,.func (fno x kV dc pm an cd ct),sl⟩)(c:codeIn K cd (ql x)=true)(k:PySem.W.keepIn K (.ref f)=true)(t:PySem.W.isFn K (.ref f)=true):∃p:fh×ft,At K x p.1 p.2:=by
 refine⟨(f,fno x kV dc pm an cd ct),λz=>(by rw[e] at z;cases z),λ_=>⟨C,hc,a,t⟩,J9 (st:=st x) l c k,(J9 (st:=st x) l c k).binds (ps:=ps x) λ_ _ _ _ _ _ us hl=>?_,_,_,_,_,_,_,rfl⟩
 cases x<;>first|(obtain rfl:=ua1 hl;rfl)|(obtain⟨_,rfl⟩:=us1 hl;rfl)|(obtain⟨_,_,rfl⟩:=us2 hl;rfl)|(obtain⟨_,_,_,rfl⟩:=us3 hl;rfl)|(obtain⟨_,_,_,_,rfl⟩:=us4 hl;rfl)|(obtain⟨_,_,_,_,_,rfl⟩:=us5 hl;rfl)|(obtain⟨_,_,_,_,_,_,rfl⟩:=us6 hl;rfl)|(obtain⟨_,_,_,_,_,_,_,rfl⟩:=us7 hl;rfl)
theorem xm_all{K:fc}{h:Heap}{mg:Str->Option fg}{P c1 c2:fh}(X:K.In h)(G:h.Ns mainGlobals mg)(p:PySem.W.nsIn K mainGlobals "ParleyError" = some (some (.ref P)))(a1:PySem.W.nsIn K mainGlobals "Short" = some (some (.ref c1)))(a2:PySem.W.nsIn K mainGlobals "Broken" = some (some (.ref c2)))(q:QE K P [c1,c2]=true)(nd:[P,c1,c2].Nodup)(n1:Nf K c1=true):∃(P:fh) (ca:Str->fh),XM K mg P ca/\True/\∀n∈(["Short"]:List Str),XN0 K (ca n):=by
 have x:=bE X G p a1 a2 q nd;refine⟨P,_,x,trivial,?_⟩;intro n hn;simp only[ul2,ui0,hJ] at hn;rcases hn with rfl
 .exact ZV n1
theorem fin_mk{K:fc}{h:Heap}{mg:Str->Option fg}{fa:fh}(X:K.In h)(G:h.Ns mainGlobals mg)(hmg:mg "law" = some (.ref fa))(H:∀x:Fx,∃p:fh×ft,At K x p.1 p.2)(fA:PySem.W.nsIn K mainGlobals "bool" = some none)(eP:PySem.W.nsIn K mainGlobals "enumerate" = some none)(fE:PySem.W.nsIn K mainGlobals "int" = some none)(eQ:PySem.W.nsIn K mainGlobals "isinstance" = some none)(fN:PySem.W.nsIn K mainGlobals "len" = some none)(eY:PySem.W.nsIn K mainGlobals "list" = some none)(fO:PySem.W.nsIn K mainGlobals "min" = some none)(fM:PySem.W.nsIn K mainGlobals "ord" = some none)(eW:PySem.W.nsIn K mainGlobals "range" = some none)(fP:PySem.W.nsIn K mainGlobals "str" = some none)(eX:PySem.W.nsIn K mainGlobals "tuple" = some none){fJ:Tok}(eN:PySem.W.nsIn K mainGlobals "FIRST_SIGN" = some (some (.int 32 fJ))){fL:Tok}(eO:PySem.W.nsIn K mainGlobals "LAST_SIGN" = some (some (.int 126 fL))){eZ:Tok}(eM:PySem.W.nsIn K mainGlobals "PERCENT_SIGN" = some (some (.int 37 eZ))){fY:Tok}(eT:PySem.W.nsIn K mainGlobals "SIGNS" = some (some (.str " !\"#$ &'()*+,-./0123456789:;<=>?@ABCDEFGHIJKLMNOPQRSTUVWXYZ[\\]^_`abcdefghijklmnopqrstuvwxyz{|}~" fY)))(xm:∃(P:fh) (ca:Str->fh),XM K mg P ca/\True/\∀n∈(["Short"]:List Str),XN0 K (ca n)){fH:fh}(fR:PySem.W.nsIn K mainGlobals "Reader" = some none)(fX:PySem.W.nsIn K mainGlobals "Side" = some none)(fK:PySem.W.nsIn K mainGlobals "Lasting" = some none)(fS:PySem.W.nsIn K mainGlobals "Parley" = some none)(fU:PySem.W.nsIn K mainGlobals "Relay" = some none)(fV:PySem.W.nsIn K mainGlobals "Desk" = some none)(eL:PySem.W.nsIn K mainGlobals "Listener" = some (some (.ref fH)))(fG:PF K fH=true)(fD:P9 K fH=true):∃(A:Fx->fh) (fd:Fx->ft),Md K mg A fd/\A .law_=fa/\∀(s:fj) (u:fg),BindsTo s (fd .law_) ⟨[u],[]⟩ [("script",u)]:=by
 clear 5(Classical.axiomOfChoice H)F hF;have fm:∀x,me x=true->∀C,PySem.W.nsIn K mainGlobals (ow x)=some (some (.ref C))->PySem.W.findIn K (.ref C) (nm x)=some (some (.ref (F x).1))/\PySem.W.isFn K (.ref (F x).1)=true:=λx hx C h=>by
  clear 5((hF x).m hx)C e1 e2 e3;have e4:=e1.symm.trans h
  cases e4
  exact⟨e2,e3⟩
 have eU:=fm .Az rfl _ eL;have eS:=fm .Ar rfl _ eL;have eR:=fm .Am rfl _ eL;have eV:=fm .Au rfl _ eL;have cm:CM K:=ZZ λn hn=>by
  simp only[KW,ul2,ui0,hJ] at hn;rcases hn with rfl|rfl|rfl|rfl|rfl|rfl|rfl
  .exact .inl fR
  .exact .inl fX
  .exact .inl fK
  .exact .inl fS
  .exact .inr ⟨_,eL,fG⟩
  .exact .inl fU
  .exact .inl fV
 refine⟨λx=>(F x).1,λx=>(F x).2,{fn:=λx=>(hF x).fn,mgs:=λx e=>um1 X G ((hF x).a e),bd:=λx=>(hF x).bd,cm:=cm,JU:=⟨_,eL,um1 X G eL,al fD eU.1 eU.2,⟨eS.1,eS.2,Fun.kp (hF .Ar).fn⟩,⟨eR.1,eR.2,Fun.kp (hF .Am).fn⟩,⟨eV.1,eV.2,Fun.kp (hF .Au).fn⟩⟩,xm:=xm,fA:=uf9 X G fA,eP:=uf9 X G eP,fE:=uf9 X G fE,eQ:=uf9 X G eQ,fN:=uf9 X G fN,eY:=uf9 X G eY,fO:=uf9 X G fO,fM:=uf9 X G fM,eW:=uf9 X G eW,fP:=uf9 X G fP,eX:=uf9 X G eX,eN:=⟨fJ,um1 X G eN⟩,eO:=⟨fL,um1 X G eO⟩,eM:=⟨eZ,um1 X G eM⟩,eT:=⟨fY,um1 X G eT⟩ },?_,λs u=>?_⟩
 .have e:=hmg.symm.trans (um1 X G ((hF .law_).a rfl))
  cases e
  rfl
 .obtain⟨_,_,_,_,_,_,e⟩:=(hF .law_).eq;show BindsTo s (F .law_).2 _ _;rw[e];exact .of_eq rfl
theorem walk{l:PySem.W.OpenLaw}{q:fk}{loose:List Str}{XP:(Str->Option fg)->Heap->Prop}{YP:fq->Heap->Prop}{d:DefRec}{K:Params->fc}(m:Nat)(hm:Room (2*m+2) callerA)(hn:l.most=some 63)(hdf:d.params.defaults=[])
 (hY:∀(w:fq) (h:Heap),YP w h->(K w.params).In h) (lt:∀ns:List Int,ns.length<=63->∃S',run m .law_ [.scr ns] []=some (.bl true,S'))
 (F:∀(w:fq) (mg:Str->Option fg) (fa:fh) (h:Heap),(K w.params).In h->h.Ns mainGlobals mg->mg d.name=some (.ref fa)->
   ∃(A:Fx->fh) (fd:Fx->ft),Md (K w.params) mg A fd/\A .law_=fa/\∀(s:fj) (u:fg),BindsTo s (fd .law_) ⟨[u],[]⟩ [("script",u)]) :
 PySem.W.WalkO q loose XP YP l.row.toRowW d [] (λf vs=>PySem.call f vs):=
 L2.Xu (n:=63) (k:=2*m+2) (x:="script") (CX:=λ_=>CX0) (sp:=λw=>spF (K w.params) (run m .law_)) hn (by decide) hdf hm hY
  (λw mg fa h KX G hmg=>by clear 5(F w mg fa h KX G hmg)A fd M e b;subst e;exact⟨fd .law_,b,λbase _ _=>all_ok M m .law_⟩)
  (λw H a ns hl hO hS=>by clear 5(lt ns hl)S' e;exact Rw hO hS e) λ_ _ _ _ _ z=>z
theorem Wh(k:Nat):Od (run (k+1) .Cs):=λd h=>M1 h
theorem HC(k:Nat):FR (run (k+2) .AO):=SQ (Wh k)
theorem NM(k:Nat):JL (run (k+1) .C4):=P1
theorem UC(k:Nat):Mw (run (k+2) .Cr):=MY (NM k)
theorem MV:∀(n k:Nat),2*n+3<=k->GC (run k .Ez) n
 |0,k,_=>λs hs=>absurd s.depth_pos (by lia)
 |n+1,k,h=>by
   obtain⟨j,rfl⟩:∃j,k=j+4:=gf (by lia);have ih:=MV n (j+2) (by lia);exact VB (K0 ih (HC j)) (MX ih) (MW ih) (UC (j+1)) (HC (j+1))
theorem M2(k:Nat):HF (run (k+1) .C5):=VZ
theorem T6(k:Nat):Ms (run (k+2) .Bw):=Wi (M2 k)
theorem Pn(k:Nat):JR (run (k+1) .Br):=UM
theorem Jv:∀(n k:Nat),n+3<=k->ID (run k .A1) n
 |0,k,_=>λs hs=>absurd s.depth_pos (by lia)
 |n+1,k,h=>by
   obtain⟨j,rfl⟩:∃j,k=j+3:=gf (by lia);exact VA (Jv n (j+2) (by lia)) (Pn (j+1)) (T6 j)
theorem Jz(k:Nat):FP (run (k+1) .Bo):=Wg
theorem LK(k:Nat):IE (run (k+1) .DM):=Rr
theorem SR(k:Nat):KM (run (k+2) .CW):=UN (LK k)
theorem LQ:∀(d k:Nat),d+1<=k->GG (run k .BI) d
 |0,k,h=>by
   obtain⟨j,rfl⟩:∃j,k=j+1:=gf (by lia);exact Uz
 |d+1,k,h=>by
   obtain⟨j,rfl⟩:∃j,k=j+1:=gf (by lia);exact UA (LQ d j (by lia))
theorem Pg:∀(n k:Nat),n<=k->IH (run k .BJ) n
 |0,k,_=>UG
 |n+1,k,h=>by
   obtain⟨j,rfl⟩:∃j,k=j+1:=gf (by lia);exact ZF (Pg n j (by lia))
theorem Qj(k:Nat):Jn (run (k+3) .BN):=Lc (SR k)
theorem Ki(k:Nat):GZ (run (k+10) .BL):=L6 (MV 3 (k+9) (by lia)) (Qj (k+6))
theorem LR(k:Nat):JM (run (k+11) .Cv):=Xg (Jz (k+9)) (Ki k)
theorem T3(k:Nat):IF (run (k+7) .A3):=RL (Jv 3 (k+6) (by lia))
theorem LY(k:Nat):GH (run (k+12) .Cw):=Xv (T3 (k+4)) (LR k)
theorem Py(k:Nat):IC (run (k+12) .By):=Ta (Jz (k+10)) (LR k)
theorem MC(k:Nat):BXw (run (k+1) .Cz):=XR
theorem ZD(k:Nat):UXn (run (k+2) .Bm):=ZE (MC k)
theorem Zw(k:Nat):SXn (run (k+2) .DJ):=Zx (NM k) (MC k)
theorem Nx:∀(n k:Nat),2*n+4<=k->HI (run k .Bd) n
 |0,k,_=>λs hs=>absurd s.depth_pos (by lia)
 |n+1,k,h=>by
   obtain⟨j,rfl⟩:∃j,k=j+5:=gf (by lia);exact Qq rfl rfl rfl rfl rfl (ZD (j+1)) (Zw (j+1)) (M2 (j+2)) (MC (j+2)) (Pn (j+2)) (Nx n (j+3) (by lia))
theorem V8(k:Nat):SV (run (k+11) .Bx):=V6 (Nx 3 (k+10) (by lia))
theorem Kg(k:Nat):EJ (run (k+12) .Au):=RY (V8 k) (LK (k+10))
theorem RZ(k:Nat):EJ (run (k+13) .Am):=T5 (Kg k)
theorem Qp(k:Nat):HH (run (k+14) .Ar):=Oc (RZ k)
theorem Rx(k:Nat):Ps (run (k+1) .Az):=TX
theorem Pz(k:Nat):KJ (run (k+15) .Bz):=Td (Kg (k+2)) (Qp k) (Rx (k+13))
theorem ZS(k:Nat):WBl (run (k+20) .BA):=ZU (Jz (k+18)) (RL (Jv 3 (k+18) (by lia))) (Qi (Ki (k+8)) (HC (k+16)))
theorem LO(k:Nat):FL (run (k+13) .BH):=V1 (LY k)
theorem VS:ST (run 99 .Bh):=b7 (bZ (ck (LQ 2 96 (by decide)) YF)) QS
theorem law_true(ns:List Int)(h:ns.length<=63):∃S',run 100 .law_ [.scr ns] []=some (.bl true,S'):=by
 clear 5(YA (V4 (LO 85) (Py 86)) (ak (LY 86)) (Pz 84) QS YE (ZS 79) V5 (aj (LO 85)) (YD (Pg 3 98 (by decide))) VS h)r S' e p;subst p;exact⟨S',e⟩
end K99
structure PySem.W.Fast:Prop where(tw10016951536852152055 tw10058217061001584350 tw10059022883565240443 tw10164682194040411759 tw10288159805573557664 tw10311489568678937731 tw1034313515206917311 tw10409259004922367705 tw10417072108655725208 tw10434686600537887731 tw10441271155713064872 tw10467062808415626895 tw10493066931434555491 tw10532434910034021673 tw105701010902842392 tw10632457937041721132 tw10726838133720999708 tw10809017768283514175 tw10845551394438386764 tw108922231626514836 tw10897524499428895524 tw10898579555626629981 tw10943804787722337401 tw10949526957064025842 tw11031755129767943030 tw11082983048029425013 tw11152775646685211790 tw11154463652849480776 tw11156708543860448232 tw11191277370941162133 tw11226336309473598264 tw11274419997506784759 tw11287409347304393626 tw11292426425003910415 tw11300415249787351573 tw11333218723647650025 tw11367931971120782911 tw1138363492563468407 tw11387954149722383596 tw11412050860150095686 tw11439254150338028789 tw11441445276938837046 tw11503956025372117516 tw11565039291993848055 tw11625705076247236723 tw11823428258658194091 tw11886782767243165550 tw11899084189977604958 tw11958284902793638410 tw11967621393060386039 tw11984317890081252021 tw12117316723068047874 tw12123883451185960313 tw1215281186631364405 tw12155987196559803076 tw12204443094974694836 tw12215925225761887800 tw12222407200091450785 tw12233024078001934684 tw12264747849450004131 tw12279237091522887728 tw12304765816975216049 tw12447206568305177302 tw12447739723261641557 tw12449327184568995655 tw12523462192120741262 tw1254639807303751904 tw12549945430807156478 tw12596778432683833136 tw12630467548910532243 tw12712994452027374989 tw12756040993800640 tw12843465699798186480 tw12899308251082105317 tw12920081755358459210 tw12942768488606300518 tw12989394501476722317 tw13024480982076155574 tw13033550219385809696 tw13043795270243837383 tw13054631999553490927 tw13093574135644920787 tw13126970415998928994 tw13167957439382695498 tw13269803788209219302 tw13460339801133758944 tw13465613821465193820 tw1361518282703140661 tw13729142688074492955 tw13751738400831970250 tw13753155638296498825 tw13777248247675130670 tw13782589652088410254 tw13802197475028318737 tw13872910391109394837 tw13933710924810285203 tw14002388976902915754 tw14049202738726145292 tw14089622301421460774 tw14125402179110734259 tw1412723449582702174 tw14137503800760508057 tw14153330119562521791 tw1416381703903342666 tw14180420086087905579 tw14268178745913055651 tw14274138332669379096 tw14346730844245106030 tw14354791676022557533 tw14372340888787230758 tw14446282977176030818 tw14463868033325853230 tw14548856059792868860 tw14556351782988508791 tw14664331978571247249 tw14667468202357871787 tw14764514495035907543 tw14771071392751414289 tw14780418058119710265 tw14843822274779598866 tw1487763909970977848 tw14931455683108918031 tw14943856986589893841 tw14973178428361436926 tw15070974521157731768 tw15077951044173101567 tw15080006273994754009 tw15095667101230833275 tw15157157584711588779 tw15178293456688636821 tw15193924467523988121 tw15203411646583182320 tw15286725125574298788 tw1535608019638224659 tw15458002927049424669 tw15515734419385357025 tw15518807151842513329 tw1552632035868973143 tw15631416618854112054 tw15675927204593193034 tw15723844969739799941 tw1576290449074040560 tw15819402562994711569 tw15869503063639220726 tw15945538141092465264 tw15980896279260301939 tw15994042410180009529 tw16004054719098809959 tw16051258600705055358 tw16064264566622769218 tw1606993956408686806 tw161006287902151260 tw16153498120014305185 tw1619968815725231270 tw16215785213236903966 tw16263779198133053617 tw16311771858631993426 tw16385511062101081472 tw16442824913326816428 tw16461085276095955391 tw16505673582358756608 tw1653503772202099183 tw16558687583008553248 tw16579976295675722174 tw1664583739892888841 tw16683043830047215499 tw16718312725705779808 tw16804095029720905857 tw16843993736806291518 tw16867212892541687130 tw16915687039879663553 tw17005656446664411679 tw17012299514172778257 tw1704810163949510212 tw17048998555560992765 tw17114514071702503146 tw17150393851647951102 tw17151476151793516502 tw17168734991786146101 tw17241503083782025215 tw17272639992029104717 tw17348515880874806393 tw17355176889991629461 tw17379989895779489453 tw17434142286906122253 tw17440114291875344175 tw17454357512239402739 tw17474447149666593992 tw17495681227163954798 tw17522794915816144390 tw1763948266530226945 tw17676150696613672885 tw17718287440523000981 tw1786764475751221025 tw17920790892674603611 tw17961637236885428402 tw18024888594616347919 tw18047961330237217654 tw18056306007077878937 tw18089053064248795371 tw18095754225804067404 tw18133272376393826684 tw18225183240976484361 tw18253112604757639172 tw1828734149076892620 tw18323498498624404761 tw18359519835367436054 tw18369366652558505338 tw1857008718597052739 tw1978054058590225476 tw1989113390946970992 tw2029834221851502132 tw2044161197537419437 tw2061877094618906325 tw2172735238722299706 tw2210729218807119558 tw2271623009254452221 tw235818108558609438 tw2383557637514799446 tw2392391745538761178 tw2436067356174138154 tw2478908859067211943 tw2512396329654160707 tw2551837690073644157 tw257252661945293029 tw2616660329421657067 tw2658753380560466723 tw2747411280092325238 tw2757340334807222252 tw2867330122442336629 tw2884115820532769162 tw2900164045498098472 tw2915740548812909881 tw292743494778507392 tw3328422336419116295 tw3369031373809704523 tw339123930696894209 tw3396874616414585890 tw3476516892657078497 tw3533675258585391050 tw3535075474540828260 tw356200244221756378 tw3578315490527570152 tw3683743675934829961 tw3718348823239564037 tw3731353009977256363 tw375738572764584611 tw3790766693077706487 tw3817423417769895646 tw3819595211107966316 tw3821625419455439196 tw3833137806084485145 tw3847892257284335033 tw3854024446787914991 tw3904926369717031959 tw3933265956129786418 tw4009001912926757071 tw4023820205269203364 tw4033840500767722860 tw4093348094137463272 tw41154915698943408 tw4147425413839043513 tw4262799864680732766 tw4409797669083242126 tw4419644952252886986 tw4425281203448679642 tw4441029925904500731 tw4447259981857394813 tw4448421180079714029 tw4454949696106427902 tw4510949806543706844 tw4604613408935497804 tw4627380657664351732 tw4634306895432706751 tw4688707778099909194 tw473689353534636789 tw4792860292845760810 tw4856107246696564656 tw4874812627638285964 tw4921820573397282875 tw493069200118324594 tw4939915330061556478 tw499464451028739229 tw5028946481080987747 tw509794059592930630 tw5156104893056324513 tw5213968902591633802 tw5262123830223612734 tw5287069378923253615 tw5309023430664765679 tw5342083601236302323 tw5354880416820267383 tw5389196558231864906 tw5459728893947647026 tw5475368970486160844 tw5491183958625308221 tw5570534976402620027 tw5597663268782372931 tw5645007507531429597 tw5663317336125051075 tw5679787778351091791 tw5755870154552699939 tw5784104283304355496 tw5794907923206645592 tw5845808657715008093 tw585941958710846901 tw5875330553466643595 tw6032125357932221095 tw6055059864379263639 tw6152608140823695278 tw615401797467665036 tw6164672186511567036 tw6182900628254764244 tw6264571596338574889 tw626960752844507240 tw6277736057575967238 tw6334838043481367496 tw6350211790243709575 tw6405501498938274067 tw6442075132977951204 tw6451925315207115167 tw6482809650751747051 tw6489270903832837939 tw6541054740180006974 tw6781026582458632537 tw6811519360186599355 tw681498005043916001 tw6843278244359058425 tw6864191610880653475 tw6894661897187893037 tw6900965279310004382 tw6924697252710814931 tw69493090605401168 tw6961997450364391374 tw6973670630548672189 tw6995636868003232415 tw7027716029167409407 tw7040138457492695071 tw7114332620545341914 tw7151901579932259347 tw7307227786977707456 tw7320314942019777733 tw7358575050075514410 tw7385073084243767457 tw7419112311454443971 tw7447365062046532647 tw7476692318649121882 tw7495766490308266210 tw7505992290420542328 tw7582926592894873776 tw7638731626793895343 tw7730486780870828595 tw7740454782571476144 tw7748272501930721766 tw7817503474587796823 tw7819887099639568728 tw7971654074894096350 tw7988806875367379888 tw799114418408568036 tw8153201435997288325 tw8267534044379114430 tw8268199103402501363 tw8302279826383649829 tw8353965267024081041 tw8370103902389253831 tw8396507765390879562 tw8448602868799720209 tw8559806461661432286 tw8575895364955288756 tw8627274326661717661 tw8645744874236025606 tw8656806952436969158 tw867649089540934885 tw8721131273232526734 tw8837530547207171969 tw8886944141804365159 tw891849151067818747 tw9000784894116132309 tw9002547107730349044 tw9010559410378156896 tw9014027198411911902 tw9022890369496366819 tw9115436916767102683 tw9135104639655082544 tw9214533277832762119 tw9255600855304149910 tw9276135224561557029 tw9277088477353343506 tw9312272261264434763 tw9368654648532447015 tw9378532428790674479 tw9393360459849058160 tw9481332494489569667 tw9521838614048486594 tw9540884024901825603 tw9555428076282101151 tw9576826525063481688 tw963794945605786291 tw9750112321486038132 tw9756554784004293526 tw9811381741646658000 tw9816827436310807094 tw9831276677571661518 tw9951631705284787607 tw9954296864665005823:True)
open PySem PySem.W PyProof.Rows
set_option maxRecDepth 100000 in
set_option maxHeartbeats 0 in
theorem PySem.Challenge.cw_wireparley_k99_whole_at_once_holds : PySem.Challenge.rw_wireparley_k99_whole_at_once.Holds := by
 w_on;o_law;k_head;(case hw=>w_witness2)
 k_fill
 refine K99.walk (l:=PySem.Challenge.rw_wireparley_k99_whole_at_once) 100 ⟨rfl,by decide,by decide⟩ rfl rfl (λw h Y=>PySem.W.kIn_of Y) K99.law_true ?F
 case F=>
  intro w mg fa h KX G hmg;refine' K99.fin_mk KX G hmg ?H ?fA ?eP ?fE ?eQ ?fN ?eY ?fO ?fM ?eW ?fP ?eX ?eN ?eO ?eM ?eT ?xm ?fR ?fX ?fK ?fS ?fU ?fV ?eL ?fG ?fD
  (case H=>intro x;cases x<;>first|(refine' K99.at_mk rfl ?a ?l ?c ?k;(case a=>k_is);(case l=>k_is);(case c=>k_is);(case k=>k_is))|(refine' K99.XI rfl ?h ?a ?l ?c ?k ?t;(case h=>k_is);(case a=>k_is);(case l=>k_is);(case c=>k_is);(case k=>k_is);(case t=>k_is)))
  (case fR=>k_is)
  (case fX=>k_is)
  (case fK=>k_is)
  (case fS=>k_is)
  (case fU=>k_is)
  (case fV=>k_is)
  (case eL=>k_is)
  (case fG=>kernel_rfl)
  (case fD=>kernel_rfl)
  (case fA=>k_is)
  (case eP=>k_is)
  (case fE=>k_is)
  (case eQ=>k_is)
  (case fN=>k_is)
  (case eY=>k_is)
  (case fO=>k_is)
  (case fM=>k_is)
  (case eW=>k_is)
  (case fP=>k_is)
  (case eX=>k_is)
  (case eN=>k_is)
  (case eO=>k_is)
  (case eM=>k_is)
  (case eT=>k_is)
  (case xm=>refine' K99.xm_all KX G ?x_p ?x_a1 ?x_a2 ?x_q ?x_nd ?x_n1;(case x_p=>k_is);(case x_a1=>k_is);(case x_a2=>k_is);(case x_q=>kernel_rfl);(case x_nd=>decide);(case x_n1=>kernel_rfl))
